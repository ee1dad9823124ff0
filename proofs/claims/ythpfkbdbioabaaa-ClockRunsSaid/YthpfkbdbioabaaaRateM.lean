/- Contracts, on: the document's Move; the program's Within. (The first part of RateC, for seats without the rest.) -/
import Derived.Test.YthpfkbdbioabaaaRateB
set_option linter.unusedVariables false
set_option linter.unusedSimpArgs false
namespace Go.Proofs.Ythpfkbdbioabaaa
open Go.RowKit
attribute [local go_sem] Dbl.run_fadd Dbl.run_fsub Dbl.run_fmul Dbl.run_fdiv Dbl.run_fmax Dbl.run_fmin Dbl.unary_fneg Dbl.ford_lt Dbl.ford_gt Dbl.ford_eq Dbl.ford_ne Dbl.pick_told Dbl.pickW_told

theorem RefMove_any (x : Nat) (n : Int) (w : World) (hx : x < 18446744073709551616) :
    Calls Try.prog 25 #[.float .f64 x, .int .i64 n] w fun e w' => e = .returned (.int .i64 (Dbl.moveF x n)) ∧ w = w' := by
  have hcl := Dbl.clean_cl x hx
  have hle := Dbl.clampN_le n
  have h1 := Dbl.mul_clean _ _ hcl hle
  have h2 := Dbl.toInt_prod (Dbl.cleanF x) (Dbl.clampN n) hcl hle
  have h3 := run_convert_float_int (P := Try.prog) (w := w) 37 3 .f64 .i64 _ _ (by kernel_rfl) Try.underlying3 h2
  have c2 := RefClean_any x w
  unfold Dbl.moveF
  generalize Dbl.moveC (Dbl.cleanF x) (Dbl.clampN n) = mv at *
  generalize Dbl.prodC (Dbl.cleanF x) (Dbl.clampN n) = pr at *
  clear hle hcl h2
  generalize Dbl.cleanF x = c at *
  have C2 := Lib.hid c2
  clear c2
  by_cases hlo : n < 0
  · rw [clampN_low n hlo] at h1
    have h1' : Ieee.double.mul (floatOfInt .f64 0) c = some pr := h1
    clear h1
    go_enter Try.func25, Try.ntmps25
    go_wp2_with (go_at_call 29; refine C2.out.mono ?_; rintro e w' ⟨rfl, rfl⟩)
    go_ret
    exact ⟨rfl, rfl⟩
  · by_cases hhi : 1000 < n
    · rw [clampN_high n hhi] at h1
      have h1' : Ieee.double.mul (floatOfInt .f64 1000) c = some pr := h1
      clear h1
      go_enter Try.func25, Try.ntmps25
      go_wp2_with (go_at_call 29; refine C2.out.mono ?_; rintro e w' ⟨rfl, rfl⟩)
      go_ret
      exact ⟨rfl, rfl⟩
    · rw [clampN_mid n hlo hhi] at h1
      have h1' : Ieee.double.mul (floatOfInt .f64 n) c = some pr := h1
      clear h1
      go_enter Try.func25, Try.ntmps25
      go_wp2_with (go_at_call 29; refine C2.out.mono ?_; rintro e w' ⟨rfl, rfl⟩)
      go_ret
      exact ⟨rfl, rfl⟩

/-- Within. -/
def withinF (n move rho : Int) : Bool :=
  if n < 0 ∨ 2147483648 < n ∨ move < 0 ∨ 2147483648 < move ∨ rho < 0 ∨ 1000 < rho then false else decide (1000 * max (move - n) (n - move) ≤ rho * n)

theorem within_out (n move rho : Int) (h : n < 0 ∨ 2147483648 < n ∨ move < 0 ∨ 2147483648 < move ∨ rho < 0 ∨ 1000 < rho) : withinF n move rho = false := if_pos h

theorem mul_bound (a b : Int) (h0 : 0 ≤ a) (h1 : a ≤ 1000) (h2 : 0 ≤ b) (h3 : b ≤ 2147483648) : 0 ≤ a * b ∧ a * b ≤ 2147483648000 := by
  refine ⟨Int.mul_nonneg h0 h2, ?_⟩
  have := Int.mul_le_mul h1 h3 h2 (by omega)
  omega

theorem Within_any (n move rho : Int) (w : World) :
    Calls Try.prog 22 #[.int .i64 n, .int .i64 move, .int .i64 rho] w fun e w' => e = .returned (.bool (withinF n move rho)) ∧ w = w' := by
  by_cases hin : n < 0 ∨ 2147483648 < n ∨ move < 0 ∨ 2147483648 < move ∨ rho < 0 ∨ 1000 < rho
  · rw [within_out n move rho hin]
    by_cases h1 : n < 0 <;> by_cases h2 : 2147483648 < n <;> by_cases h3 : move < 0 <;> by_cases h4 : 2147483648 < move <;> by_cases h5 : rho < 0 <;> by_cases h6 : 1000 < rho <;> first | (exfalso; omega) | skip
    all_goals clear hin
    all_goals go_enter Try.func22, Try.ntmps22
    all_goals go_wp2
    all_goals go_ret
    all_goals exact ⟨rfl, rfl⟩
  · unfold withinF
    rw [if_neg hin]
    have h1 : ¬ n < 0 := by omega
    have h2 : ¬ 2147483648 < n := by omega
    have h3 : ¬ move < 0 := by omega
    have h4 : ¬ 2147483648 < move := by omega
    have h5 : ¬ rho < 0 := by omega
    have h6 : ¬ 1000 < rho := by omega
    have hb := mul_bound rho n (by omega) (by omega) (by omega) (by omega)
    have hw : IntKind.i64.wrap (rho * n) = rho * n := IntWalk.i64_in _ (by omega)
    clear hin
    by_cases hm : move - n < n - move
    · rw [show max (move - n) (n - move) = n - move by omega]
      go_enter Try.func22, Try.ntmps22
      go_wp2
      go_ret
      exact ⟨rfl, rfl⟩
    · rw [show max (move - n) (n - move) = move - n by omega]
      go_enter Try.func22, Try.ntmps22
      go_wp2
      go_ret
      exact ⟨rfl, rfl⟩
end Go.Proofs.Ythpfkbdbioabaaa
