/- Contracts of package math's functions that rate calls, and of the statements' Float and Alike. -/
import Derived.Test.YthpfkbdbioabaaaFlo
import Derived.Test.YthpfkbdbioabaaaProg
set_option linter.unusedVariables false
set_option linter.unusedSimpArgs false
namespace Go.Proofs.Ythpfkbdbioabaaa
open Go.RowKit
attribute [local go_sem] Dbl.run_fadd Dbl.run_fsub Dbl.run_fmul Dbl.run_fdiv Dbl.run_fmax Dbl.run_fmin Dbl.unary_fneg Dbl.ford_lt Dbl.ford_gt Dbl.ford_eq Dbl.ford_ne Dbl.pick_told Dbl.pickW_told

theorem call_frombits (n : Int) (w : World) : (callFunc 28 #[.int .u64 n]).run Try.prog w = .ok (.value (.float .f64 n.toNat)) w := by kernel_rfl
theorem call_bits (n : Nat) (w : World) : (callFunc 39 #[.float .f64 n]).run Try.prog w = .ok (.value (.int .u64 (n : Int))) w := by kernel_rfl

theorem IsNaN_any (x : Nat) (w : World) :
    Calls Try.prog 31 #[.float .f64 x] w fun e w' => e = .returned (.bool (!Dbl.feq x x)) ∧ w = w' := by
  go_enter Try.func31, Try.ntmps31
  go_wp2
  go_ret
  exact ⟨rfl, rfl⟩

theorem Float_any (n : Int) (w : World) :
    Calls Try.prog 15 #[.int .u64 n] w fun e w' => e = .returned (.float .f64 n.toNat) ∧ w = w' := by
  have hc := call_frombits
  go_enter Try.func15, Try.ntmps15
  go_wp2
  go_ret
  exact ⟨rfl, rfl⟩

theorem andNot_top (z : Int) (h0 : 0 ≤ z) (h1 : z < 18446744073709551616) : bits .andNot .u64 z 9223372036854775808 = z % 9223372036854775808 := by go_bits2
theorem and_top (z : Int) (h0 : 0 ≤ z) (h1 : z < 18446744073709551616) : bits .and .u64 z 9223372036854775808 = z - z % 9223372036854775808 := by go_bits2

theorem andNot_sign (n : Nat) (h : n < 18446744073709551616) : bits .andNot .u64 (n : Int) 9223372036854775808 = ((Dbl.rung n : Nat) : Int) := by
  rw [andNot_top _ (by omega) (by omega)]
  unfold Dbl.rung
  omega

theorem Abs_any (x : Nat) (w : World) (hx : x < 18446744073709551616) :
    Calls Try.prog 36 #[.float .f64 x] w fun e w' => e = .returned (.float .f64 (Dbl.rung x)) ∧ w = w' := by
  have h1 := call_frombits
  have h2 := call_bits
  have h3 := andNot_sign x hx
  go_enter Try.func36, Try.ntmps36
  go_wp2
  go_ret
  exact ⟨by simp, rfl⟩
end Go.Proofs.Ythpfkbdbioabaaa
