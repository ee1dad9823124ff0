/- Arguments that are slices of sessions, of acts, opened. -/
import Derived.Test.YtgpiaibklokhmaaSesG
import Derived.ProofKit
import Derived.OpenShut
import Derived.Deep.Strs
import Derived.Deep.Slices
import Derived.Lib.SmallJoins
set_option linter.unusedVariables false
set_option linter.unusedSimpArgs false
namespace Go.Proofs.Ytgpiaibklokhmaa
open Go.RowKit Go.ChangeShapes Go.WideShapes Go.Deep
namespace Cm

theorem list_ofX {α : Type} {P : Nat → α → Prop} : ∀ n, (∀ i, i < n → ∃ g, P i g) → ∃ l : List α, l.length = n ∧ ∀ i (h : i < l.length), P i l[i]
  | 0, _ => ⟨[], rfl, fun i h => absurd h (Nat.not_lt_zero _)⟩
  | n + 1, h => by
    obtain ⟨l, hl, hp⟩ := list_ofX n (fun i hi => h i (by omega))
    obtain ⟨g, hg⟩ := h n (by omega)
    refine ⟨l ++ [g], by simp [hl], fun i hi => ?_⟩
    rw [List.length_append, List.length_singleton, hl] at hi
    by_cases q : i < n
    · rw [List.getElem_append_left (by omega)]
      exact hp i (by omega)
    · obtain rfl : i = n := by omega
      rw [List.getElem_append_right (by omega)]
      simpa [hl] using hg

section
variable {H : Type} {enc : TypeId × Value → H} {W : World}

/-- A slice of whatever elements, if each one's cells are told. -/
theorem slice_of {α : Type} {sz : Nat} {f : α → List Value} {t e : TypeId} (hu : Try.prog.underlying t = some (.slice e)) (hce : Try.prog.cellsOf e = sz) (hsz : 0 < sz) (hf : ∀ x, (f x).length = sz)
    (hel : ∀ fuel cs x, DataW.trod enc Try.prog W 0 (fun _ => true) true fuel e cs = some x → ∃ y : α, cs = f y)
    {fuel : Nat} {cs : List Value} {x : DataW H × List MemPlace} (h : DataW.trod enc Try.prog W 0 (fun _ => true) true fuel t cs = some x) : ∃ v l, cs = [v] ∧ RdX sz f W v l := by
  rcases open_slice hu h with ⟨h0, _⟩ | ⟨ad, len, cap, m, n, D, Pl, h0, _, hl, hm, hmm, _, hi⟩
  · exact ⟨_, [], h0, RdX.nil W⟩
  · have hm' : m = cap := by rw [hmm]; rfl
    subst hm'
    clear hmm
    have key : ∀ i, i < len → ∃ g : α, ∀ k u, (f g)[k]? = some u → W.cell? (ad.add (i * sz + k)) = some u := by
      intro i hil
      obtain ⟨cs', hc, ht⟩ := hi i (by omega)
      rw [hce] at hc
      obtain ⟨y, rfl⟩ := hel _ _ _ ht
      obtain ⟨_, hcl, hat⟩ := World.cells?_some hc
      refine ⟨y, fun k u hk => ?_⟩
      have hks : k < (f y).length := (List.getElem?_eq_some_iff.1 hk).1
      have a0 := hat k (by rw [hf] at hks; exact hks)
      rw [Go.Deep.add_add] at a0
      rw [← hk, ← a0]
    obtain ⟨l, hll, hp⟩ := list_ofX len key
    refine ⟨_, l, h0, some ad, m, by rw [hll], by omega, hm, (fun q => by cases q), fun x hx hne => ?_⟩
    cases hx
    obtain ⟨b, o, spot⟩ := ad
    have hpos : 0 < l.length := List.length_pos_iff.2 hne
    have h0l : 0 < (f l[0]).length := by rw [hf]; exact hsz
    have hc := hp 0 hpos 0 _ (List.getElem?_eq_getElem h0l)
    have hspot : spot = none := by simpa [Addr.add] using World.cell?_spot hc
    subst hspot
    refine ⟨rfl, fun i hil k u hu => ?_⟩
    have hadd : ∀ j, (⟨b, o, none⟩ : Addr).add j = ⟨b, o + j, none⟩ := fun j => by unfold Addr.add; split <;> simp_all
    have := hp i hil k u hu
    rw [hadd] at this
    exact this


/-- An act: what is done, its client, its number, its time. -/
structure ActV where
  do_ : Int
  client : Int
  num : Int
  now : Int
def cellsA (a : ActV) : List Value := [.int .i64 a.do_, .int .i64 a.client, .int .i64 a.num, .int .i64 a.now]
theorem cellsA_length (a : ActV) : (cellsA a).length = 4 := rfl


def sesA (a : List SesV × Value) : Value := a.2
def sesOkA (w : World) (a : List SesV × Value) : Prop := RdS w a.2 a.1

def actA (a : List ActV × Value) : Value := a.2
def actOkA (w : World) (a : List ActV × Value) : Prop := RdX 4 cellsA w a.2 a.1

end
end Cm
end Go.Proofs.Ytgpiaibklokhmaa
