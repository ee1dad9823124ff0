/- Contracts of package rate and of the document's answers to it: Clean, Move, Within, Of; and of Alike. -/
import Derived.Test.YthpfkbdbioabaaaRateA
import Derived.Test.YthpfkbdbioabaaaFRate
set_option linter.unusedVariables false
set_option linter.unusedSimpArgs false
namespace Go.Proofs.Ythpfkbdbioabaaa
open Go.RowKit
attribute [local go_sem] Dbl.run_fadd Dbl.run_fsub Dbl.run_fmul Dbl.run_fdiv Dbl.run_fmax Dbl.run_fmin Dbl.unary_fneg Dbl.ford_lt Dbl.ford_gt Dbl.ford_eq Dbl.ford_ne Dbl.pick_told Dbl.pickW_told

theorem Clean_any (x : Nat) (w : World) :
    Calls Try.prog 27 #[.float .f64 x] w fun e w' => e = .returned (.float .f64 (Dbl.cleanF x)) ∧ w = w' := by
  unfold Dbl.cleanF
  cases h1 : Dbl.feq x x <;> cases h2 : Dbl.flt x 0 <;> cases h3 : Dbl.feq x 0 <;> cases h4 : Dbl.flt 4625196817309499392 x <;> (
    go_enter Try.func27, Try.ntmps27
    go_wp2_with (go_at_call 31; refine (IsNaN_any _ _).mono ?_; rintro e w' ⟨rfl, rfl⟩)
    go_ret
    exact ⟨rfl, rfl⟩)

theorem RefClean_any (x : Nat) (w : World) :
    Calls Try.prog 29 #[.float .f64 x] w fun e w' => e = .returned (.float .f64 (Dbl.cleanF x)) ∧ w = w' := by
  unfold Dbl.cleanF
  cases h1 : Dbl.feq x x <;> cases h2 : Dbl.flt x 0 <;> cases h3 : Dbl.feq x 0 <;> cases h4 : Dbl.flt 4625196817309499392 x <;> (
    go_enter Try.func29, Try.ntmps29
    go_wp2
    go_ret
    exact ⟨rfl, rfl⟩)

theorem call_floor (x : Nat) (w : World) : (callFunc 32 #[.float .f64 x]).run Try.prog w = ((Extern.MathFloor.toIntegral "math.archFloor" .down #[.float .f64 x]).run Try.prog w).andThen fun v w' => .ok (.value v) w' :=
  run_callFunc_extern Try.func32 (by kernel_rfl) (by kernel_rfl) (by kernel_rfl) (by kernel_rfl) _ w

theorem floor_run (x : Nat) (w : World) (hx : Dbl.isFin x = true) (hs : Dbl.sgn x = false) : (Extern.MathFloor.toIntegral "math.archFloor" .down #[.float .f64 x]).run Try.prog w = .ok (.float .f64 (Ieee.double.write ((Ieee.double.read x).integral .down))) w := by
  obtain ⟨m, e, h, _⟩ := Dbl.read_fin x hx
  have h' : FloatKind.f64.decode x = .number (Dbl.sgn x) m (-1074 + (e : Int)) := h
  change Sem.run _ (match FloatKind.f64.decode x with | .nan s t => _ | d => pure _) w = _
  rw [h', h]
  rfl

theorem Floor_prod (c n : Nat) (w : World) (h : Dbl.Cl c) (hn : n ≤ 1000) :
    Calls Try.prog 30 #[.float .f64 (Dbl.prodC c n)] w fun e w' => e = .returned (.float .f64 (FloatKind.f64.nearest (Dbl.moveC c n))) ∧ w = w' := by
  obtain ⟨h1, h2, h3, h4⟩ := Dbl.prodC_fin c n h hn
  have hc : ∀ w, (callFunc 32 #[.float .f64 (Dbl.prodC c n)]).run Try.prog w = .ok (.value (.float .f64 (FloatKind.f64.nearest (Dbl.moveC c n)))) w := by
    intro w
    rw [call_floor, floor_run _ _ h1 h2, Dbl.floor_prod c n h hn]
    rfl
  clear h1 h2 h3 h4
  generalize Dbl.prodC c n = p at *
  generalize FloatKind.f64.nearest ((Dbl.moveC c n : Nat) : Int) = q at *
  go_enter Try.func30, Try.ntmps30
  go_wp2
  go_ret
  exact ⟨rfl, rfl⟩

theorem clampN_low (n : Int) (h : n < 0) : Dbl.clampN n = 0 := by unfold Dbl.clampN; omega
theorem clampN_high (n : Int) (h : 1000 < n) : Dbl.clampN n = 1000 := by unfold Dbl.clampN; omega
theorem clampN_mid (n : Int) (h0 : ¬ n < 0) (h1 : ¬ 1000 < n) : (Dbl.clampN n : Int) = n := by unfold Dbl.clampN; omega

theorem Move_any (x : Nat) (n : Int) (w : World) (hx : x < 18446744073709551616) :
    Calls Try.prog 23 #[.float .f64 x, .int .i64 n] w fun e w' => e = .returned (.int .i64 (Dbl.moveF x n)) ∧ w = w' := by
  have hcl := Dbl.clean_cl x hx
  have hle := Dbl.clampN_le n
  have h1 := Dbl.mul_clean _ _ hcl hle
  have h2 := Dbl.toInt_nat (Dbl.moveC (Dbl.cleanF x) (Dbl.clampN n)) (by have := Dbl.moveC_le _ _ hcl hle; omega)
  have h3 := run_convert_float_int (P := Try.prog) (w := w) 37 3 .f64 .i64 _ _ (by kernel_rfl) Try.underlying3 h2
  have c1 := Floor_prod _ _ w hcl hle
  have c2 := Clean_any x w
  unfold Dbl.moveF
  generalize FloatKind.f64.nearest ((Dbl.moveC (Dbl.cleanF x) (Dbl.clampN n) : Nat) : Int) = fl at *
  generalize Dbl.moveC (Dbl.cleanF x) (Dbl.clampN n) = mv at *
  generalize Dbl.prodC (Dbl.cleanF x) (Dbl.clampN n) = pr at *
  clear hle hcl h2
  generalize Dbl.cleanF x = c at *
  have C1 := Lib.hid c1
  have C2 := Lib.hid c2
  clear c1 c2
  by_cases hlo : n < 0
  · rw [clampN_low n hlo] at h1
    have h1' : Ieee.double.mul (floatOfInt .f64 0) c = some pr := h1
    clear h1
    go_enter Try.func23, Try.ntmps23
    go_wp2_with (first
      | (go_at_call 27; refine C2.out.mono ?_; rintro e w' ⟨rfl, rfl⟩)
      | (go_at_call 30; refine C1.out.mono ?_; rintro e w' ⟨rfl, rfl⟩))
    go_ret
    exact ⟨rfl, rfl⟩
  · by_cases hhi : 1000 < n
    · rw [clampN_high n hhi] at h1
      have h1' : Ieee.double.mul (floatOfInt .f64 1000) c = some pr := h1
      clear h1
      go_enter Try.func23, Try.ntmps23
      go_wp2_with (first
        | (go_at_call 27; refine C2.out.mono ?_; rintro e w' ⟨rfl, rfl⟩)
        | (go_at_call 30; refine C1.out.mono ?_; rintro e w' ⟨rfl, rfl⟩))
      go_ret
      exact ⟨rfl, rfl⟩
    · rw [clampN_mid n hlo hhi] at h1
      have h1' : Ieee.double.mul (floatOfInt .f64 n) c = some pr := h1
      clear h1
      go_enter Try.func23, Try.ntmps23
      go_wp2_with (first
        | (go_at_call 27; refine C2.out.mono ?_; rintro e w' ⟨rfl, rfl⟩)
        | (go_at_call 30; refine C1.out.mono ?_; rintro e w' ⟨rfl, rfl⟩))
      go_ret
      exact ⟨rfl, rfl⟩
end Go.Proofs.Ythpfkbdbioabaaa
