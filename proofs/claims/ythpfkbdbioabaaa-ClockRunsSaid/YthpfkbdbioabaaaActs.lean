/- What an argument that is a slice of acts (Do, N, Bits) holds. -/
import Derived.Test.YthpfkbdbioabaaaClkT
import Derived.Deep.Strs
import Derived.Deep.Slices
set_option linter.unusedVariables false
set_option linter.unusedSimpArgs false
namespace Go.Proofs.Ythpfkbdbioabaaa
open Go.RowKit Go.ChangeShapes Go.WideShapes Go.Deep

open Clk (St)

/-- Pass, whatever passes: what it hands back lies in new memory. -/
theorem Pass_new (w : World) (b : Nat) (s : St) (p : Int) (B : Int) (h : HasC w b s) (ok : Clk.Ok s B) (hB0 : 0 ≤ B) (hB : B ≤ 1000000000000) :
    Calls Try.prog 11 #[pt b, .int .i64 p] w fun e w' => (∃ a l c, e = .returned (.tuple #[.slice a l c, .int .i64 (passCode p)]) ∧ ∀ w'' : World, (∀ j, w.heap.size ≤ j → j < w'.heap.size → w''.heap[j]? = w'.heap[j]?) → RdL w'' (.slice a l c) (ints (movesI s p))) ∧ HasC w' b (passI s p) ∧ w.grownBy w' (some b) := by
  unfold passCode passI movesI
  by_cases hp : 1 ≤ p ∧ p ≤ 1000
  · rw [if_pos hp, if_pos hp, if_pos hp]
    refine (Pass_any w b s p B h ok hB0 hB hp.1 hp.2).mono ?_
    rintro e w' ⟨⟨g, hgn, rfl, hr⟩, hc, hg⟩
    refine ⟨⟨_, _, _, rfl, fun w'' hw => ?_⟩, hc, hg⟩
    rw [← moves_row]
    exact RdL.row (hr.of_block (hw g hgn hr.lt)) (by have := ok.n; unfold maxLen; omega)
  · rw [if_neg hp, if_neg hp, if_neg hp]
    refine (Pass_bad w b p (by omega)).mono ?_
    rintro e w' ⟨rfl, rfl⟩
    exact ⟨⟨none, 0, 0, rfl, fun _ _ => RdL.nil _⟩, h, World.grownBy.refl _ _⟩

/-- The slice holds acts: three numbers each. -/
def IsActs (w : World) (a : Option Addr) (len cap : Nat) : Prop :=
  len ≤ cap ∧ cap ≤ 9223372036854775807 ∧ (0 < len → ∃ b o, a = some ⟨b, o, none⟩ ∧ ∀ i, i < len → ∃ d m q : Int, w.cell? ⟨b, o + i * 3, none⟩ = some (.int .i64 d) ∧ w.cell? ⟨b, o + i * 3 + 1, none⟩ = some (.int .i64 m) ∧
    w.cell? ⟨b, o + i * 3 + 2, none⟩ = some (.int .u64 q) ∧ (Lit.int .u64 q).wf = true)

theorem acts_of {H : Type} {enc : TypeId × Value → H} {W : World} {fuel : Nat} {cs : List Value} {x : DataW H × List MemPlace} (h : DataW.trod enc Try.prog W 0 (fun _ => true) true fuel 22 cs = some x)
    (a : Option Addr) (len cap : Nat) (hcs : cs = [.slice a len cap]) : IsActs W a len cap := by
  rcases open_slice Try.underlying22 h with ⟨h0, _⟩ | ⟨ad, l, c, m, n, D, Pl, h0, _, hl, hm, hmm, _, hi⟩
  · rw [hcs] at h0
    simp at h0
    obtain ⟨rfl, rfl, rfl⟩ := h0
    exact ⟨Nat.le_refl _, by omega, fun h => by omega⟩
  · rw [hcs] at h0
    simp at h0
    obtain ⟨rfl, rfl, rfl⟩ := h0
    have hm' : m = cap := by rw [hmm]; rfl
    have hce : Try.prog.cellsOf 30 = 3 := by kernel_rfl
    have key : ∀ i, i < len → ∃ d m q : Int, W.cell? (ad.add (i * 3)) = some (.int .i64 d) ∧ W.cell? (ad.add (i * 3 + 1)) = some (.int .i64 m) ∧ W.cell? (ad.add (i * 3 + 2)) = some (.int .u64 q) ∧ (Lit.int .u64 q).wf = true := by
      intro i hil
      obtain ⟨cs', hc, ht⟩ := hi i (by omega)
      rw [hce] at hc
      obtain ⟨y0, y1, y2, n', _, hlen, t0, t1, t2⟩ := trod_struct3 Try.underlying30 ht
      obtain ⟨_, hcl, hat⟩ := World.cells?_some hc
      match cs', hcl with
      | [c0, c1, c2], _ =>
        have a0 := hat 0 (by omega)
        have a1 := hat 1 (by omega)
        have a2 := hat 2 (by omega)
        rw [Go.Deep.add_add] at a0 a1 a2
        obtain ⟨d, e0, _, _⟩ := DataW.trod_int Try.underlying3 t0
        obtain ⟨m', e1, _, _⟩ := DataW.trod_int Try.underlying3 t1
        obtain ⟨q, e2, _, wq⟩ := DataW.trod_int Try.underlying28 t2
        have e0' : c0 = .int .i64 d := by injection e0
        have e1' : c1 = .int .i64 m' := by injection e1
        have e2' : c2 = .int .u64 q := by injection e2
        refine ⟨d, m', q, ?_, ?_, ?_, wq⟩
        · rw [← e0']; exact a0
        · rw [← e1']; exact a1
        · rw [← e2']; exact a2
    obtain ⟨b, o, spot⟩ := ad
    refine ⟨hl, hm, fun hpos => ?_⟩
    obtain ⟨d, _, _, hc, _⟩ := key 0 hpos
    have hspot : spot = none := by simpa [Addr.add] using World.cell?_spot hc
    subst hspot
    refine ⟨b, o, rfl, fun i hil => ?_⟩
    have hadd : ∀ j, (⟨b, o, none⟩ : Addr).add j = ⟨b, o + j, none⟩ := fun j => by unfold Addr.add; split <;> simp_all
    have := key i hil
    rw [hadd, hadd, hadd] at this
    exact this
end Go.Proofs.Ythpfkbdbioabaaa
