/- Contracts, on: awake. -/
import Derived.Test.YtkfkmkdpogkhhaaRateD
set_option linter.unusedVariables false
set_option linter.unusedSimpArgs false
namespace Go.Proofs.Ytkfkmkdpogkhhaa
open Go.RowKit
attribute [local go_sem] Dbl.run_fadd Dbl.run_fsub Dbl.run_fmul Dbl.run_fdiv Dbl.run_fmax Dbl.run_fmin Dbl.unary_fneg Dbl.ford_lt Dbl.ford_gt Dbl.ford_eq Dbl.ford_ne Dbl.pick_told Dbl.pickW_told

theorem alike_is (o : Option Nat) (a b : Nat) (ha : Dbl.Is o a) (hb : Dbl.Is o b) : Dbl.alikeF a b = true := by
  unfold Dbl.alikeF
  cases o with
  | none =>
    have h1 : Dbl.isNan a = true := ha.2
    have h2 : Dbl.isNan b = true := hb.2
    rw [h1, h2]
    rfl
  | some r =>
    have h1 : a = r := ha.2
    have h2 : b = r := hb.2
    rw [h1, h2]
    cases Dbl.isNan r <;> simp

theorem alike_self (a : Nat) : Dbl.alikeF a a = true := by
  unfold Dbl.alikeF
  cases Dbl.isNan a <;> simp

theorem rdl_lit (w : World) (cs : Array Value) (hm : cs.size ≤ maxLen) : RdL (w.alloc (.cells cs 23)) (.slice (some ⟨w.heap.size, 0, none⟩) cs.size cs.size) cs.toList := by
  refine RdL.own (base := w.heap.size) (e := 23) (n := cs.size) ⟨by simp, .inr ⟨w.heap.size, cs.size, cs, rfl, Nat.le_refl _, ?_, Nat.le_refl _, hm, by simp, ?_⟩⟩
  · exact heap_alloc_new w _
  · rw [Nat.mul_one, ← Array.length_toList, List.take_length]

theorem awake_ok (w : World) : Calls Try.prog 19 #[] w fun e w' => e = .returned (.bool true) ∧ Below w.heap.size w w' := by
  have C1 : Hid (∀ w, Calls Try.prog 13 #[.float .f64 4609434218613702656, .int .i64 3] w fun e w' => e = .returned (.int .i64 4) ∧ w = w') := fun w => (Move_any _ _ w (by omega)).mono (by rintro e w' ⟨rfl, rfl⟩; exact ⟨by rw [show Dbl.moveF 4609434218613702656 3 = 4 by decide +kernel], rfl⟩)
  have C2 : Hid (∀ w, Calls Try.prog 15 #[.int .i64 1000, .int .i64 1100, .int .i64 100] w fun e w' => e = .returned (.bool true) ∧ w = w') := fun w => Within_any _ _ _ w
  have C3 : Hid (∀ w, Calls Try.prog 15 #[.int .i64 1000, .int .i64 1101, .int .i64 100] w fun e w' => e = .returned (.bool false) ∧ w = w') := fun w => Within_any _ _ _ w
  have C4 : Hid (∀ w, Calls Try.prog 17 #[.int .i64 2, .int .i64 1] w fun e w' => e = .returned (.float .f64 4602678819172646912) ∧ Below w.heap.size w w') := fun w => (Of_any 2 1 w).mono (by
    rintro e w' ⟨b, rfl, h, hb⟩
    rw [show Ieee.double.div (FloatKind.f64.nearest 1) (FloatKind.f64.nearest 2) = some 4602678819172646912 by decide +kernel] at h
    have h2 : b = 4602678819172646912 := h.2
    rw [h2]
    exact ⟨rfl, hb⟩)
  have C5 : Hid (∀ v w, RdL w v (fl [4607182418800017408, 4613937818241073152]) → Calls Try.prog 20 #[v] w fun e w' => e = .returned (.float .f64 4611686018427387904) ∧ Below w.heap.size w w') := fun v w h => (Far_any v _ w h).mono (by
    rintro e w' ⟨b, rfl, h, hb⟩
    rw [show Dbl.farF [4607182418800017408, 4613937818241073152] = some 4611686018427387904 by decide +kernel] at h
    have h2 : b = 4611686018427387904 := h.2
    rw [h2]
    exact ⟨rfl, hb⟩)
  have e1 : Dbl.feq 4602678819172646912 4602678819172646912 = true := by decide +kernel
  have e2 : Dbl.feq 4611686018427387904 4611686018427387904 = true := by decide +kernel
  go_enter Try.func19, Try.ntmps19
  go_wp2_with fail
  refine (C1.out _).mono ?_
  rintro e w1 ⟨rfl, rfl⟩
  go_wp2_with fail
  refine (C2.out _).mono ?_
  rintro e w2 ⟨rfl, rfl⟩
  go_wp2_with fail
  refine (C3.out _).mono ?_
  rintro e w3 ⟨rfl, rfl⟩
  go_wp2_with fail
  refine (C4.out _).mono ?_
  rintro e w4 ⟨rfl, hb4⟩
  go_wp2_with fail
  refine (C5.out _ _ (rdl_lit w4 #[.float .f64 4607182418800017408, .float .f64 4613937818241073152] (by simp [maxLen]))).mono ?_
  rintro e w5 ⟨rfl, hb5⟩
  go_wp2
  go_ret
  exact ⟨rfl, step (stepAlloc hb4 _) hb5⟩
end Go.Proofs.Ytkfkmkdpogkhhaa
