/- How far clocks drift between two places: by at most the worst. No program is named here. -/
import Derived.Test.YthpfkbdbioabaaaFClk
set_option linter.unusedVariables false
set_option linter.unusedSimpArgs false
namespace Go.Proofs.Ythpfkbdbioabaaa
open Go.RowKit
namespace Clk

/-- Since clocks showed y, and r had passed, what they went on by lies within the worst. -/
structure DR (s : St) (y : Nat → Int) (r : Int) : Prop where
  up : ∀ j, j < s.n → y j ≤ s.shown j
  rf : r ≤ s.ref
  off : s.worst ≤ 1000 → ∀ j, j < s.n → 1000 * max ((s.shown j - y j) - (s.ref - r)) ((s.ref - r) - (s.shown j - y j)) ≤ s.worst * (s.ref - r)

theorem dr_start (s : St) (y : Nat → Int) (h : ∀ j, j < s.n → y j = s.shown j) : DR s y s.ref := by
  refine ⟨fun j hj => by rw [h j hj]; exact Int.le_refl _, Int.le_refl _, fun _ j hj => ?_⟩
  rw [h j hj, Int.sub_self, Int.sub_self, Int.sub_self, Int.mul_zero]
  omega

theorem DR.setI {s : St} {y : Nat → Int} {r : Int} (h : DR s y r) (i : Int) (x : Nat) : DR (setI s i x) y r := by
  unfold Clk.setI
  split
  · exact ⟨h.up, h.rf, h.off⟩
  · exact h

theorem wk_mono (s : St) (p : Int) (k j : Nat) (h : k ≤ j) : wk s p k ≤ wk s p j := by
  induction j with
  | zero =>
    obtain rfl : k = 0 := by omega
    exact Int.le_refl _
  | succ j ih =>
    rcases Nat.lt_or_ge k (j + 1) with g | g
    · have := ih (by omega)
      show _ ≤ max (wk s p j) _
      omega
    · obtain rfl : k = j + 1 := by omega
      exact Int.le_refl _

theorem need_wk (s : St) (p : Int) (k j : Nat) (h : j < k) : need p (mv s p j) ≤ wk s p k := by
  have h1 := wk_mono s p (j + 1) k h
  have h2 : wk s p (j + 1) = max (wk s p j) (need p (mv s p j)) := rfl
  omega

theorem DR.pass {s : St} {y : Nat → Int} {r : Int} (h : DR s y r) (p : Int) (h1 : 1 ≤ p) (hm : ∀ j, 0 ≤ mv s p j) : DR (pass s p) y r := by
  have hs : ∀ j, j < s.n → (Clk.pass s p).shown j = s.shown j + mv s p j := fun j hj => if_pos hj
  refine ⟨fun j hj => ?_, ?_, fun hw j hj => ?_⟩
  · have hj' : j < s.n := hj
    rw [hs j hj']
    have := h.up j hj'
    have := hm j
    omega
  · show r ≤ s.ref + p
    have := h.rf
    omega
  · have hj' : j < s.n := hj
    rw [hs j hj']
    have hW : (Clk.pass s p).worst = wk s p s.n := rfl
    have hR : (Clk.pass s p).ref = s.ref + p := rfl
    rw [hW] at hw ⊢
    rw [hR]
    have m0 := wk_mono s p 0 s.n (Nat.zero_le _)
    have e0 : wk s p 0 = s.worst := rfl
    have hn := need_wk s p s.n j hj'
    have a1 := h.off (by omega) j hj'
    have a2 := (need_iff p (mv s p j) (wk s p s.n) h1 hw).1 hn
    have hr := h.rf
    have a3 : s.worst * (s.ref - r) ≤ wk s p s.n * (s.ref - r) := Int.mul_le_mul_of_nonneg_right (by omega) (by omega)
    have e1 : wk s p s.n * (s.ref + p - r) = wk s p s.n * (s.ref - r) + wk s p s.n * p := by
      rw [← Int.mul_add]
      congr 1
      omega
    rw [e1]
    generalize wk s p s.n * (s.ref - r) = u at *
    generalize wk s p s.n * p = v at *
    generalize s.worst * (s.ref - r) = z at *
    omega
end Clk
end Go.Proofs.Ythpfkbdbioabaaa
