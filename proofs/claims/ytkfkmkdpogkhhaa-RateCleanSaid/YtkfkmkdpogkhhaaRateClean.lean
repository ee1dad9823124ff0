/- PROVED: the statement RateClean of layer 2: for every input that can be read, the law returns true and leaves its arguments as they were. No condition. -/
import Derived.Test.YtkfkmkdpogkhhaaRows
import Derived.Test.YtkfkmkdpogkhhaaRateE
import Derived.Test.YtkfkmkdpogkhhaaFGrow
import Derived.WalkKit
import Derived.ProofKit
import Derived.OpenShut
import Derived.ShutString
import Derived.ChangeOld
import Derived.Below
namespace Go.Proofs.Ytkfkmkdpogkhhaa.rateClean
open Go.ChangeShapes Go.WideShapes Go.ChangeAt Go.RowKit
open Go.ChangeMaps (open_string shut_string)
set_option linter.unusedVariables false      -- a walk need not use every 'w<i>' (that an integer argument fits its kind)

theorem own : ownKnob Try.prog.godebug = none := by kernel_rfl

attribute [local go_sem] Dbl.run_fadd Dbl.run_fsub Dbl.run_fmul Dbl.run_fdiv Dbl.run_fmax Dbl.run_fmin Dbl.unary_fneg Dbl.ford_lt Dbl.ford_gt Dbl.ford_eq Dbl.ford_ne Dbl.pick_told Dbl.pickW_told

/-! ### STEP 1: THE WALK: the Go text returns true. 'Below w.heap.size w w'': the world has at most new blocks (Derived/RowKit3.lean). Part the cases AHEAD of 'go_enter' where a test parts the walk; take each callee by a contract of your own. -/
theorem walk (a0 : Int) (a1 : Int) (w0 : (Lit.int .u64 a0).wf = true) (w1 : (Lit.int .i64 a1).wf = true) (w : World) :
    Calls Try.prog 6 #[.int .u64 a0, .int .i64 a1] w fun e w' => e = .returned (.bool true) ∧ Below w.heap.size w w' := by
  obtain ⟨x, hx, hx2⟩ : ∃ x, x < 18446744073709551616 ∧ a0.toNat = x := ⟨_, by have := w0; simp [Lit.wf, IntKind.min, IntKind.max, IntKind.signed, IntKind.bits] at this; omega, rfl⟩
  have CF : Hid (∀ w, Calls Try.prog 9 #[.int .u64 a0] w fun e w' => e = .returned (.float .f64 x) ∧ w = w') := by subst hx2; exact Float_any a0
  clear w0 w1 hx2
  have cx := Dbl.clean_cl x hx
  have C1 := Lib.hid (Clean_any x)
  have C2 := Lib.hid (fun w => Signbit_no (Dbl.cleanF x) w cx.lt)
  have C3 : Hid (∀ w, Calls Try.prog 11 #[.float .f64 (Dbl.cleanF x)] w fun e w' => e = .returned (.float .f64 (Dbl.cleanF x)) ∧ w = w') := fun w => by
    have := Clean_any (Dbl.cleanF x) w
    rwa [Dbl.clean_of_cl cx] at this
  have C4 := Lib.hid (fun w => Move_any x a1 w hx)
  have C5 : Hid (∀ w, Calls Try.prog 13 #[.float .f64 9218868437227405312, .int .i64 a1] w fun e w' => e = .returned (.int .i64 (Dbl.moveF 4625196817309499392 a1)) ∧ w = w') := fun w => by
    have := Move_any 9218868437227405312 a1 w (by omega)
    have e : Dbl.moveF 9218868437227405312 a1 = Dbl.moveF 4625196817309499392 a1 := by
      unfold Dbl.moveF
      rw [show Dbl.cleanF 9218868437227405312 = 4625196817309499392 by decide +kernel, show Dbl.cleanF 4625196817309499392 = 4625196817309499392 by decide +kernel]
    rwa [e] at this
  have C6 := Lib.hid (fun w => Move_any 4625196817309499392 a1 w (by omega))
  have C7 : Hid (∀ w, Calls Try.prog 13 #[.float .f64 9221120237041090561, .int .i64 a1] w fun e w' => e = .returned (.int .i64 0) ∧ w = w') := fun w => by
    have := Move_any 9221120237041090561 a1 w (by omega)
    rwa [Dbl.move_zero _ _ (by decide +kernel)] at this
  have C8 : Hid (∀ w, Calls Try.prog 13 #[.float .f64 9223372036854775808, .int .i64 a1] w fun e w' => e = .returned (.int .i64 0) ∧ w = w') := fun w => by
    have := Move_any 9223372036854775808 a1 w (by omega)
    rwa [Dbl.move_zero _ _ (by decide +kernel)] at this
  have f00 : Dbl.flt 0 0 = false := by decide +kernel
  have e00 : Dbl.feq 0 0 = true := by decide +kernel
  have f0W : Dbl.flt 0 4625196817309499392 = true := by decide +kernel
  have fW0 : Dbl.feq 4625196817309499392 0 = false := by decide +kernel
  have fWW : Dbl.flt 4625196817309499392 4625196817309499392 = false := by decide +kernel
  have eWW : Dbl.feq 4625196817309499392 4625196817309499392 = true := by decide +kernel
  have e0W : Dbl.feq 0 4625196817309499392 = false := by decide +kernel
  rcases Dbl.clean_cases x with ⟨h1, h2⟩ | ⟨h1, h3, h2⟩ | ⟨h1, h3, h4, h2⟩
  · have mz := Dbl.move_zero x a1 h2
    rw [mz] at C4
    rw [h2] at C1 C2 C3
    clear mz h2 cx hx
    cases hn : Dbl.isNan x with
    | true =>
      have t1 : Dbl.feq x x = false := by rw [Dbl.feq_self, hn]; rfl
      have t2 : Dbl.flt 0 x = false := by unfold Dbl.flt; rw [hn]; simp
      have t3 : Dbl.flt x 0 = false := by unfold Dbl.flt; rw [hn]; simp
      have t4 : Dbl.feq x 0 = false := by unfold Dbl.feq; rw [hn]; simp
      clear hn h1
      go_enter Try.func6, Try.ntmps6
      go_wp2_with fail
      refine (CF.out _).mono ?_
      rintro e w' ⟨rfl, rfl⟩
      go_wp2_with fail
      refine (C1.out _).mono ?_
      rintro e w' ⟨rfl, rfl⟩
      go_wp2_with fail
      refine (C2.out _).mono ?_
      rintro e w' ⟨rfl, rfl⟩
      go_wp2_with fail
      refine (C3.out _).mono ?_
      rintro e w' ⟨rfl, rfl⟩
      go_wp2_with fail
      refine (C4.out _).mono ?_
      rintro e w' ⟨rfl, rfl⟩
      go_wp2_with fail
      refine (Inf_pos _).mono ?_
      rintro e w' ⟨rfl, rfl⟩
      go_wp2_with fail
      refine (C5.out _).mono ?_
      rintro e w' ⟨rfl, rfl⟩
      go_wp2_with fail
      refine (C6.out _).mono ?_
      rintro e w' ⟨rfl, rfl⟩
      go_wp2_with fail
      refine (NaN_any _).mono ?_
      rintro e w' ⟨rfl, rfl⟩
      go_wp2_with fail
      refine (C7.out _).mono ?_
      rintro e w' ⟨rfl, rfl⟩
      go_wp2_with fail
      refine (Copysign_zero _).mono ?_
      rintro e w' ⟨rfl, rfl⟩
      go_wp2_with fail
      refine (C8.out _).mono ?_
      rintro e w' ⟨rfl, rfl⟩
      go_wp2_with fail
      refine (awake_ok _).mono ?_
      rintro e w3 ⟨rfl, hb3⟩
      go_wp2
      go_ret
      exact ⟨rfl, hb3⟩
    | false =>
      have hv : Dbl.val x ≤ 0 := by
        rcases h1 with h1 | h1
        · rw [h1] at hn; cases hn
        · exact h1
      have t1 : Dbl.feq x x = true := by rw [Dbl.feq_self, hn]; rfl
      have t2 : Dbl.flt 0 x = false := by rw [Dbl.flt_not 0 x Dbl.nan_zero hn, Dbl.val_zero]; simp; omega
      have t3 : Dbl.flt x 0 = decide (Dbl.val x < 0) := by rw [Dbl.flt_not x 0 hn Dbl.nan_zero, Dbl.val_zero]
      have t4 : Dbl.feq x 0 = decide (Dbl.val x = 0) := by rw [Dbl.feq_not x 0 hn Dbl.nan_zero, Dbl.val_zero]
      by_cases hz : Dbl.val x = 0
      · rw [hz] at t3 t4
        have t3' : Dbl.flt x 0 = false := t3
        have t4' : Dbl.feq x 0 = true := t4
        clear hn h1 hv t3 t4 hz
        go_enter Try.func6, Try.ntmps6
        go_wp2_with fail
        refine (CF.out _).mono ?_
        rintro e w' ⟨rfl, rfl⟩
        go_wp2_with fail
        refine (C1.out _).mono ?_
        rintro e w' ⟨rfl, rfl⟩
        go_wp2_with fail
        refine (C2.out _).mono ?_
        rintro e w' ⟨rfl, rfl⟩
        go_wp2_with fail
        refine (C3.out _).mono ?_
        rintro e w' ⟨rfl, rfl⟩
        go_wp2_with fail
        refine (C4.out _).mono ?_
        rintro e w' ⟨rfl, rfl⟩
        go_wp2_with fail
        refine (Inf_pos _).mono ?_
        rintro e w' ⟨rfl, rfl⟩
        go_wp2_with fail
        refine (C5.out _).mono ?_
        rintro e w' ⟨rfl, rfl⟩
        go_wp2_with fail
        refine (C6.out _).mono ?_
        rintro e w' ⟨rfl, rfl⟩
        go_wp2_with fail
        refine (NaN_any _).mono ?_
        rintro e w' ⟨rfl, rfl⟩
        go_wp2_with fail
        refine (C7.out _).mono ?_
        rintro e w' ⟨rfl, rfl⟩
        go_wp2_with fail
        refine (Copysign_zero _).mono ?_
        rintro e w' ⟨rfl, rfl⟩
        go_wp2_with fail
        refine (C8.out _).mono ?_
        rintro e w' ⟨rfl, rfl⟩
        go_wp2_with fail
        refine (awake_ok _).mono ?_
        rintro e w3 ⟨rfl, hb3⟩
        go_wp2
        go_ret
        exact ⟨rfl, hb3⟩
      · have t3' : Dbl.flt x 0 = true := by rw [t3]; simp; omega
        have t4' : Dbl.feq x 0 = false := by rw [t4]; simp [hz]
        clear hn h1 hv t3 t4 hz
        go_enter Try.func6, Try.ntmps6
        go_wp2_with fail
        refine (CF.out _).mono ?_
        rintro e w' ⟨rfl, rfl⟩
        go_wp2_with fail
        refine (C1.out _).mono ?_
        rintro e w' ⟨rfl, rfl⟩
        go_wp2_with fail
        refine (C2.out _).mono ?_
        rintro e w' ⟨rfl, rfl⟩
        go_wp2_with fail
        refine (C3.out _).mono ?_
        rintro e w' ⟨rfl, rfl⟩
        go_wp2_with fail
        refine (C4.out _).mono ?_
        rintro e w' ⟨rfl, rfl⟩
        go_wp2_with fail
        refine (Inf_pos _).mono ?_
        rintro e w' ⟨rfl, rfl⟩
        go_wp2_with fail
        refine (C5.out _).mono ?_
        rintro e w' ⟨rfl, rfl⟩
        go_wp2_with fail
        refine (C6.out _).mono ?_
        rintro e w' ⟨rfl, rfl⟩
        go_wp2_with fail
        refine (NaN_any _).mono ?_
        rintro e w' ⟨rfl, rfl⟩
        go_wp2_with fail
        refine (C7.out _).mono ?_
        rintro e w' ⟨rfl, rfl⟩
        go_wp2_with fail
        refine (Copysign_zero _).mono ?_
        rintro e w' ⟨rfl, rfl⟩
        go_wp2_with fail
        refine (C8.out _).mono ?_
        rintro e w' ⟨rfl, rfl⟩
        go_wp2_with fail
        refine (awake_ok _).mono ?_
        rintro e w3 ⟨rfl, hb3⟩
        go_wp2
        go_ret
        exact ⟨rfl, hb3⟩
  · have t1 : Dbl.feq x x = true := by rw [Dbl.feq_self, h1]; rfl
    have hp : (0 : Int) < 2 ^ Dbl.K := Int.pow_pos (by omega)
    have t2 : Dbl.flt 0 x = true := by rw [Dbl.flt_not 0 x Dbl.nan_zero h1, Dbl.val_zero]; simp; omega
    have t3 : Dbl.flt x 0 = false := by rw [Dbl.flt_not x 0 h1 Dbl.nan_zero, Dbl.val_zero]; simp; omega
    have t4 : Dbl.feq x 0 = false := by rw [Dbl.feq_not x 0 h1 Dbl.nan_zero, Dbl.val_zero]; simp; omega
    have t5 : Dbl.flt x 4625196817309499392 = false := by rw [Dbl.flt_not x _ h1 Dbl.nan_sixteen, Dbl.val_sixteen]; simp; omega
    have t6 : Dbl.feq x 4625196817309499392 = false := by rw [Dbl.feq_not x _ h1 Dbl.nan_sixteen, Dbl.val_sixteen]; simp; omega
    rw [h2] at C1 C2 C3
    clear h1 h2 h3 hp cx hx
    go_enter Try.func6, Try.ntmps6
    go_wp2_with fail
    refine (CF.out _).mono ?_
    rintro e w' ⟨rfl, rfl⟩
    go_wp2_with fail
    refine (C1.out _).mono ?_
    rintro e w' ⟨rfl, rfl⟩
    go_wp2_with fail
    refine (C2.out _).mono ?_
    rintro e w' ⟨rfl, rfl⟩
    go_wp2_with fail
    refine (C3.out _).mono ?_
    rintro e w' ⟨rfl, rfl⟩
    go_wp2_with fail
    refine (Inf_pos _).mono ?_
    rintro e w' ⟨rfl, rfl⟩
    go_wp2_with fail
    refine (C5.out _).mono ?_
    rintro e w' ⟨rfl, rfl⟩
    go_wp2_with fail
    refine (C6.out _).mono ?_
    rintro e w' ⟨rfl, rfl⟩
    go_wp2_with fail
    refine (NaN_any _).mono ?_
    rintro e w' ⟨rfl, rfl⟩
    go_wp2_with fail
    refine (C7.out _).mono ?_
    rintro e w' ⟨rfl, rfl⟩
    go_wp2_with fail
    refine (Copysign_zero _).mono ?_
    rintro e w' ⟨rfl, rfl⟩
    go_wp2_with fail
    refine (C8.out _).mono ?_
    rintro e w' ⟨rfl, rfl⟩
    go_wp2_with fail
    refine (awake_ok _).mono ?_
    rintro e w3 ⟨rfl, hb3⟩
    go_wp2
    go_ret
    exact ⟨rfl, hb3⟩
  · have t1 : Dbl.feq x x = true := by rw [Dbl.feq_self, h1]; rfl
    have t2 : Dbl.flt 0 x = true := by rw [Dbl.flt_not 0 x Dbl.nan_zero h1, Dbl.val_zero]; simp; omega
    have t3 : Dbl.flt x 0 = false := by rw [Dbl.flt_not x 0 h1 Dbl.nan_zero, Dbl.val_zero]; simp; omega
    have t4 : Dbl.feq x 0 = false := by rw [Dbl.feq_not x 0 h1 Dbl.nan_zero, Dbl.val_zero]; simp; omega
    have t5 : Dbl.flt x 4625196817309499392 = decide (Dbl.val x < 16 * 2 ^ Dbl.K) := by rw [Dbl.flt_not x _ h1 Dbl.nan_sixteen, Dbl.val_sixteen]
    have t6 : Dbl.feq x 4625196817309499392 = decide (Dbl.val x = 16 * 2 ^ Dbl.K) := by rw [Dbl.feq_not x _ h1 Dbl.nan_sixteen, Dbl.val_sixteen]
    rw [h2] at C1 C2 C3
    by_cases hz : Dbl.val x = 16 * 2 ^ Dbl.K
    · have t5' : Dbl.flt x 4625196817309499392 = false := by rw [t5]; simp; omega
      have t6' : Dbl.feq x 4625196817309499392 = true := by rw [t6]; simp [hz]
      clear h1 h2 h3 h4 t5 t6 hz cx hx
      go_enter Try.func6, Try.ntmps6
      go_wp2_with fail
      refine (CF.out _).mono ?_
      rintro e w' ⟨rfl, rfl⟩
      go_wp2_with fail
      refine (C1.out _).mono ?_
      rintro e w' ⟨rfl, rfl⟩
      go_wp2_with fail
      refine (C2.out _).mono ?_
      rintro e w' ⟨rfl, rfl⟩
      go_wp2_with fail
      refine (C3.out _).mono ?_
      rintro e w' ⟨rfl, rfl⟩
      go_wp2_with fail
      refine (Inf_pos _).mono ?_
      rintro e w' ⟨rfl, rfl⟩
      go_wp2_with fail
      refine (C5.out _).mono ?_
      rintro e w' ⟨rfl, rfl⟩
      go_wp2_with fail
      refine (C6.out _).mono ?_
      rintro e w' ⟨rfl, rfl⟩
      go_wp2_with fail
      refine (NaN_any _).mono ?_
      rintro e w' ⟨rfl, rfl⟩
      go_wp2_with fail
      refine (C7.out _).mono ?_
      rintro e w' ⟨rfl, rfl⟩
      go_wp2_with fail
      refine (Copysign_zero _).mono ?_
      rintro e w' ⟨rfl, rfl⟩
      go_wp2_with fail
      refine (C8.out _).mono ?_
      rintro e w' ⟨rfl, rfl⟩
      go_wp2_with fail
      refine (awake_ok _).mono ?_
      rintro e w3 ⟨rfl, hb3⟩
      go_wp2
      go_ret
      exact ⟨rfl, hb3⟩
    · have t5' : Dbl.flt x 4625196817309499392 = true := by rw [t5]; simp; omega
      have t6' : Dbl.feq x 4625196817309499392 = false := by rw [t6]; simp [hz]
      clear h1 h2 h3 h4 t5 t6 hz cx hx
      go_enter Try.func6, Try.ntmps6
      go_wp2_with fail
      refine (CF.out _).mono ?_
      rintro e w' ⟨rfl, rfl⟩
      go_wp2_with fail
      refine (C1.out _).mono ?_
      rintro e w' ⟨rfl, rfl⟩
      go_wp2_with fail
      refine (C2.out _).mono ?_
      rintro e w' ⟨rfl, rfl⟩
      go_wp2_with fail
      refine (C3.out _).mono ?_
      rintro e w' ⟨rfl, rfl⟩
      go_wp2_with fail
      refine (Inf_pos _).mono ?_
      rintro e w' ⟨rfl, rfl⟩
      go_wp2_with fail
      refine (C5.out _).mono ?_
      rintro e w' ⟨rfl, rfl⟩
      go_wp2_with fail
      refine (C6.out _).mono ?_
      rintro e w' ⟨rfl, rfl⟩
      go_wp2_with fail
      refine (NaN_any _).mono ?_
      rintro e w' ⟨rfl, rfl⟩
      go_wp2_with fail
      refine (C7.out _).mono ?_
      rintro e w' ⟨rfl, rfl⟩
      go_wp2_with fail
      refine (Copysign_zero _).mono ?_
      rintro e w' ⟨rfl, rfl⟩
      go_wp2_with fail
      refine (C8.out _).mono ?_
      rintro e w' ⟨rfl, rfl⟩
      go_wp2_with fail
      refine (awake_ok _).mono ?_
      rintro e w3 ⟨rfl, hb3⟩
      go_wp2
      go_ret
      exact ⟨rfl, hb3⟩

/-! ### THE ROW's STEP: WRITTEN OUT: LEAVE IT -/
set_option maxRecDepth 100000 in
theorem lifted (os : Os) (started : os.Started) (H : Type) (enc : TypeId × Value → H) :
    ReturnsInHanded {} Try.checked os 6 .any (Rows.rateCleanSpec.pre6 enc Try.prog Try.f6 Rows.rateCleanRow.domain false) (Rows.rateCleanSpec.post enc Try.prog Try.f6 false true false false) := by
  refine returnsInHanded_of_change (C := Try.checked) own started (by kernel_rfl) Try.func6
    (ChangeSpec.witness6 (enc := enc) (C := Try.checked) false ⟨#[], #[.int .u64 0, .int .i64 0], []⟩ 8 (by kernel_rfl) (by kernel_rfl) (by kernel_rfl) (by kernel_rfl)) ?_
  intro W base args ds gs before hval0 hW hcnd _
  have hval : ∀ (j : Nat) t v, Try.f6.params[j]? = some t → args[j]? = some v → Value.okWide Try.prog W .any base t v := hval0
  have hW' := hW
  obtain ⟨p, q, hA0, hV, rfl, hfz, hnd⟩ := hW
  have hA : DataW.TrodAll enc Try.prog W 0 (fun _ => true) true Try.f6.params.toList args.toList ds p := hA0
  rw [Try.params6] at hA hval
  obtain ⟨v0, vs0, d0, ds0, p0, q0, hargs, rfl, rfl, h0, r0⟩ := trodAll_cons hA
  obtain ⟨v1, vs1, d1, ds1, p1, q1, rfl, rfl, rfl, h1, r1⟩ := trodAll_cons r0
  obtain ⟨rfl, rfl, rfl⟩ := trodAll_nil r1
  obtain rfl : args = #[v0, v1] := by cases args; simp_all
  obtain ⟨rfl, rfl⟩ := trodVars_none hV
  obtain ⟨a0, rfl, rfl, rfl, w0⟩ := open_int Try.underlying22 (hval 0 22 v0 rfl rfl) h0
  obtain ⟨a1, rfl, rfl, rfl, w1⟩ := open_int Try.underlying3 (hval 1 3 v1 rfl rfl) h1
  clear hA0 hval0
  simp only [List.append_nil] at hW'
  refine (walk a0 a1 w0 w1 W).mono fun e W' ⟨he, bel⟩ => ?_
  subst he
  exact ⟨_, rfl, _, _, _, [], _, [], hW', (trodAll_cons_mk (shut_bool Try.underlying4 _) trodAll_mk0), (trodAll_cons_mk (shut_int Try.underlying22 w0) (trodAll_cons_mk (shut_int Try.underlying3 w1) trodAll_mk0)), rfl, bel.frame _, fun h => by cases h⟩

theorem over : Rows.rateCleanRow.holds Try.pinned (OpenSpec.ofChange Rows.rateCleanSpec) :=
  OpenClaim.holds_of_wide 6 Try.f6 rfl rfl rfl rfl rfl rfl rfl ⟨rfl, rfl, rfl, rfl, rfl⟩ rfl rfl rfl rfl rfl (by kernel_rfl) Try.func6 (by kernel_rfl)
    (of_decide_eq_true (by kernel_rfl)) (by unfold Func.isWrapper; first | (rw [if_pos (by decide +kernel)]; kernel_rfl) | (rw [if_neg (by decide +kernel)]; exact ⟨rfl, rfl⟩))
    (fun os started H enc _ => lifted os started H enc)

/-- THE STATEMENT -/
theorem proved : Rows.RateCleanSaid :=
  over
end Go.Proofs.Ytkfkmkdpogkhhaa.rateClean
