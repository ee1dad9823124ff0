/- Arguments that are slices of sessions, of acts, opened. -/
import Derived.Test.YtkhcnhfdcbellaaSesG
import Derived.ProofKit
import Derived.OpenShut
import Derived.Deep.Strs
import Derived.Deep.Slices
import Derived.Lib.SmallJoins
set_option linter.unusedVariables false
set_option linter.unusedSimpArgs false
namespace Go.Proofs.Ytkhcnhfdcbellaa
open Go.RowKit Go.ChangeShapes Go.WideShapes Go.Deep
namespace Cm

theorem list_ofX {α : Type} {P : Nat → α → Prop} : ∀ n, (∀ i, i < n → ∃ g, P i g) → ∃ l : List α, l.length = n ∧ ∀ i (h : i < l.length), P i l[i]
  | 0, _ => ⟨[], rfl, fun i h => absurd h (Nat.not_lt_zero _)⟩
  | n + 1, h => by
    obtain ⟨l, hl, hp⟩ := list_ofX n (fun i hi => h i (by omega))
    obtain ⟨g, hg⟩ := h n (by omega)
    refine ⟨l ++ [g], by simp [hl], fun i hi => ?_⟩
    rw [List.length_append, List.length_singleton, hl] at hi
    by_cases q : i < n
    · rw [List.getElem_append_left (by omega)]
      exact hp i (by omega)
    · obtain rfl : i = n := by omega
      rw [List.getElem_append_right (by omega)]
      simpa [hl] using hg

section
variable {H : Type} {enc : TypeId × Value → H} {W : World}

/-- A slice of whatever elements, if each one's cells are told. -/
theorem slice_of {α : Type} {sz : Nat} {f : α → List Value} {t e : TypeId} (hu : Try.prog.underlying t = some (.slice e)) (hce : Try.prog.cellsOf e = sz) (hsz : 0 < sz) (hf : ∀ x, (f x).length = sz)
    (hel : ∀ fuel cs x, DataW.trod enc Try.prog W 0 (fun _ => true) true fuel e cs = some x → ∃ y : α, cs = f y)
    {fuel : Nat} {cs : List Value} {x : DataW H × List MemPlace} (h : DataW.trod enc Try.prog W 0 (fun _ => true) true fuel t cs = some x) : ∃ v l, cs = [v] ∧ RdX sz f W v l := by
  rcases open_slice hu h with ⟨h0, _⟩ | ⟨ad, len, cap, m, n, D, Pl, h0, _, hl, hm, hmm, _, hi⟩
  · exact ⟨_, [], h0, RdX.nil W⟩
  · have hm' : m = cap := by rw [hmm]; rfl
    subst hm'
    clear hmm
    have key : ∀ i, i < len → ∃ g : α, ∀ k u, (f g)[k]? = some u → W.cell? (ad.add (i * sz + k)) = some u := by
      intro i hil
      obtain ⟨cs', hc, ht⟩ := hi i (by omega)
      rw [hce] at hc
      obtain ⟨y, rfl⟩ := hel _ _ _ ht
      obtain ⟨_, hcl, hat⟩ := World.cells?_some hc
      refine ⟨y, fun k u hk => ?_⟩
      have hks : k < (f y).length := (List.getElem?_eq_some_iff.1 hk).1
      have a0 := hat k (by rw [hf] at hks; exact hks)
      rw [Go.Deep.add_add] at a0
      rw [← hk, ← a0]
    obtain ⟨l, hll, hp⟩ := list_ofX len key
    refine ⟨_, l, h0, some ad, m, by rw [hll], by omega, hm, (fun q => by cases q), fun x hx hne => ?_⟩
    cases hx
    obtain ⟨b, o, spot⟩ := ad
    have hpos : 0 < l.length := List.length_pos_iff.2 hne
    have h0l : 0 < (f l[0]).length := by rw [hf]; exact hsz
    have hc := hp 0 hpos 0 _ (List.getElem?_eq_getElem h0l)
    have hspot : spot = none := by simpa [Addr.add] using World.cell?_spot hc
    subst hspot
    refine ⟨rfl, fun i hil k u hu => ?_⟩
    have hadd : ∀ j, (⟨b, o, none⟩ : Addr).add j = ⟨b, o + j, none⟩ := fun j => by unfold Addr.add; split <;> simp_all
    have := hp i hil k u hu
    rw [hadd] at this
    exact this

theorem ses_cells (fuel : Nat) (cs : List Value) (x : DataW H × List MemPlace) (h : DataW.trod enc Try.prog W 0 (fun _ => true) true fuel 34 cs = some x) : ∃ s : SesV, cs = cellsS s := by
  have hce : Try.prog.cellsOf 34 = 3 := by kernel_rfl
  obtain ⟨y0, y1, y2, n', _, hlen, t0, t1, t2⟩ := trod_struct3 Try.underlying34 h
  rw [hce] at hlen
  match cs, hlen with
  | [c0, c1, c2], _ =>
    obtain ⟨d, e0, _⟩ := DataW.trod_int Try.underlying3 t0
    obtain ⟨m, e1, _⟩ := DataW.trod_int Try.underlying3 t1
    obtain ⟨q, e2, _⟩ := DataW.trod_int Try.underlying3 t2
    have e0' : c0 = .int .i64 d := by injection e0
    have e1' : c1 = .int .i64 m := by injection e1
    have e2' : c2 = .int .i64 q := by injection e2
    exact ⟨⟨d, m, q⟩, by rw [e0', e1', e2']; rfl⟩

/-- An act: what is done, its client, its number, its time. -/
structure ActV where
  do_ : Int
  client : Int
  num : Int
  now : Int
def cellsA (a : ActV) : List Value := [.int .i64 a.do_, .int .i64 a.client, .int .i64 a.num, .int .i64 a.now]
theorem cellsA_length (a : ActV) : (cellsA a).length = 4 := rfl

theorem act_cells (fuel : Nat) (cs : List Value) (x : DataW H × List MemPlace) (h : DataW.trod enc Try.prog W 0 (fun _ => true) true fuel 26 cs = some x) : ∃ a : ActV, cs = cellsA a := by
  have hce : Try.prog.cellsOf 26 = 4 := by kernel_rfl
  obtain ⟨y0, y1, y2, y3, n', _, hlen, t0, t1, t2, t3⟩ := Go.Joins.trod_struct4 Try.underlying26 h
  rw [hce] at hlen
  match cs, hlen with
  | [c0, c1, c2, c3], _ =>
    obtain ⟨d, e0, _⟩ := DataW.trod_int Try.underlying3 t0
    obtain ⟨m, e1, _⟩ := DataW.trod_int Try.underlying3 t1
    obtain ⟨q, e2, _⟩ := DataW.trod_int Try.underlying3 t2
    obtain ⟨r, e3, _⟩ := DataW.trod_int Try.underlying3 t3
    have e0' : c0 = .int .i64 d := by injection e0
    have e1' : c1 = .int .i64 m := by injection e1
    have e2' : c2 = .int .i64 q := by injection e2
    have e3' : c3 = .int .i64 r := by injection e3
    exact ⟨⟨d, m, q, r⟩, by rw [e0', e1', e2', e3']; rfl⟩

def sesA (a : List SesV × Value) : Value := a.2
def sesOkA (w : World) (a : List SesV × Value) : Prop := RdS w a.2 a.1
theorem open_ses {r : Reach} {b0 : Nat} {v : Value} {d : DataW H} {p : List MemPlace} (hv : Value.okWide Try.prog W r b0 24 v) (h : DataW.Trod enc Try.prog W 0 (fun _ => true) true 24 v d p) : ∃ a : List SesV × Value, v = sesA a ∧ sesOkA W a := by
  obtain ⟨a, len, cap, rfl⟩ := okWide_slice Try.underlying24 hv
  obtain ⟨m, hm⟩ := h
  obtain ⟨u, l, hu, hl⟩ := slice_of Try.underlying24 (show Try.prog.cellsOf 34 = 3 by kernel_rfl) (by omega) cellsS_length ses_cells hm
  have : Value.slice a len cap = u := by simpa [Value.cells] using hu
  subst this
  exact ⟨(l, _), rfl, hl⟩

def actA (a : List ActV × Value) : Value := a.2
def actOkA (w : World) (a : List ActV × Value) : Prop := RdX 4 cellsA w a.2 a.1
theorem open_act {r : Reach} {b0 : Nat} {v : Value} {d : DataW H} {p : List MemPlace} (hv : Value.okWide Try.prog W r b0 22 v) (h : DataW.Trod enc Try.prog W 0 (fun _ => true) true 22 v d p) : ∃ a : List ActV × Value, v = actA a ∧ actOkA W a := by
  obtain ⟨a, len, cap, rfl⟩ := okWide_slice Try.underlying22 hv
  obtain ⟨m, hm⟩ := h
  obtain ⟨u, l, hu, hl⟩ := slice_of Try.underlying22 (show Try.prog.cellsOf 26 = 4 by kernel_rfl) (by omega) cellsA_length act_cells hm
  have : Value.slice a len cap = u := by simpa [Value.cells] using hu
  subst this
  exact ⟨(l, _), rfl, hl⟩
end
end Cm
end Go.Proofs.Ytkhcnhfdcbellaa
