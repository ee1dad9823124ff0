/- PROVED: the statement OctetOrder of layer 1: for every input that can be read, the law returns true and leaves its arguments as they were. No condition. -/
import Derived.Test.YtfehjlkbgjcioaaRows
import Derived.Test.YtfehjlkbgjcioaaMath1
import Derived.WalkKit
import Derived.ProofKit
import Derived.OpenShut
import Derived.ShutString
import Derived.ChangeOld
import Derived.Below
namespace Go.Proofs.Ytfehjlkbgjcioaa.octetOrder
open Go.ChangeShapes Go.WideShapes Go.ChangeAt Go.RowKit
open Go.ChangeMaps (open_string shut_string)
set_option linter.unusedVariables false      -- a walk need not use every 'w<i>' (that an integer argument fits its kind)

theorem own : ownKnob Try.prog.godebug = none := by kernel_rfl

/-! ### STEP 1: THE WALK: the Go text returns true. 'Below w.heap.size w w'': the world has at most new blocks (Derived/RowKit3.lean). Part the cases AHEAD of 'go_enter' where a test parts the walk; take each callee by a contract of your own. -/
theorem walk (a0 : Int) (a1 : Int) (w0 : (Lit.int .i64 a0).wf = true) (w1 : (Lit.int .i64 a1).wf = true) (w : World) :
    Calls Try.prog 6 #[.int .i64 a0, .int .i64 a1] w fun e w' => e = .returned (.bool true) ∧ Below w.heap.size w w' := by
  have aw : ∀ w : World, Calls Try.prog 9 #[] w fun e w' => e = .returned (.bool true) ∧ Below w.heap.size w w' := awake_ok
  by_cases hv0 : a0 < 0
  · have d0 : decide (a0 < 0) = true := decide_eq_true hv0
    go_enter Try.func6, Try.ntmps6
    go_wp2_with (go_at_call 9; refine (awake_ok _).mono ?_; rintro e w' ⟨rfl, hb⟩)
    go_ret
    exact ⟨rfl, hb⟩
  have d0 : decide (a0 < 0) = false := decide_eq_false hv0
  by_cases hv1 : (4611686018427387904 : Int) ≤ a0
  · have d1 : decide ((4611686018427387904 : Int) ≤ a0) = true := decide_eq_true hv1
    clear hv1
    go_enter Try.func6, Try.ntmps6
    go_wp2_with (go_at_call 9; refine (awake_ok _).mono ?_; rintro e w' ⟨rfl, hb⟩)
    go_ret
    exact ⟨rfl, hb⟩
  have d1 : decide ((4611686018427387904 : Int) ≤ a0) = false := decide_eq_false hv1
  by_cases hw0 : a1 < 0
  · have d2 : decide (a1 < 0) = true := decide_eq_true hw0
    clear hv1
    go_enter Try.func6, Try.ntmps6
    go_wp2_with (go_at_call 9; refine (awake_ok _).mono ?_; rintro e w' ⟨rfl, hb⟩)
    go_ret
    exact ⟨rfl, hb⟩
  have d2 : decide (a1 < 0) = false := decide_eq_false hw0
  by_cases hw1 : (4611686018427387904 : Int) ≤ a1
  · have d3 : decide ((4611686018427387904 : Int) ≤ a1) = true := decide_eq_true hw1
    clear hw1 hv1
    go_enter Try.func6, Try.ntmps6
    go_wp2_with (go_at_call 9; refine (awake_ok _).mono ?_; rintro e w' ⟨rfl, hb⟩)
    go_ret
    exact ⟨rfl, hb⟩
  have d3 : decide ((4611686018427387904 : Int) ≤ a1) = false := decide_eq_false hw1
  obtain ⟨n, rfl⟩ := Int.eq_ofNat_of_zero_le (show 0 ≤ a0 by omega)
  obtain ⟨m, rfl⟩ := Int.eq_ofNat_of_zero_le (show 0 ≤ a1 by omega)
  have c1 := fun w => PutNum_ok n w (by omega)
  have c2 := fun w => PutNum_ok m w (by omega)
  have r1 := rd8 w n
  have r1' := r1.later (newAlloc _ (.cells (beArr m 8) 5))
  have r2 := rd8 (w.alloc (.cells (beArr n 8) 5)) m
  rw [World.size_alloc] at r2
  have k1 := conv_rd _ (P := Try.prog) Try.underlying22 Try.underlying5 Try.underlying9 _ _ r1'
  have k2 := conv_rd _ (P := Try.prog) Try.underlying22 Try.underlying5 Try.underlying9 _ _ r2
  have c3 : Calls Try.prog 18 #[.slice (some ⟨w.heap.size, 0, none⟩) 8 8, .slice (some ⟨w.heap.size + 1, 0, none⟩) 8 8] ((w.alloc (.cells (beArr n 8) 5)).alloc (.cells (beArr m 8) 5))
      fun e w' => e = .returned (.bool ((n : Int) == (m : Int))) ∧ (w.alloc (.cells (beArr n 8) 5)).alloc (.cells (beArr m 8) 5) = w' :=
    (Same_any _ _ _ _ _ r1' r2).mono fun e w' h => by
      rw [be8_inj n m (by omega) (by omega)] at h
      refine ⟨h.1.trans ?_, h.2⟩
      congr 2
      by_cases q : n = m <;> simp [q]
      omega
  have hl : Op.bytesLess (bstr (be8 n)).toList (bstr (be8 m)).toList = decide ((n : Int) < (m : Int)) := by
    rw [ByteArray.toList_eq, ByteArray.toList_eq, bstr_toList, bstr_toList, be8_less n m (by omega) (by omega)]
    simp
  have HC1 := Lib.hid c1
  have HC2 := Lib.hid c2
  have HC3 := Lib.hid c3
  clear c1 c2 c3 r1 r1' r2 hv0 hv1 hw0 hw1 aw
  go_enter Try.func6, Try.ntmps6
  go_wp2_with fail
  refine (HC1.out _).mono ?_
  rintro e w' ⟨rfl, rfl⟩
  go_wp2_with fail
  refine (HC2.out _).mono ?_
  rintro e w' ⟨rfl, rfl⟩
  go_wp2_with fail
  refine HC3.out.mono ?_
  rintro e w' ⟨rfl, rfl⟩
  go_wp2_with (go_at_call 9; refine (awake_ok _).mono ?_; rintro e w' ⟨rfl, hb⟩)
  go_ret
  exact ⟨rfl, step (stepAlloc (newAlloc _ _) _) hb⟩

/-! ### THE ROW's STEP: WRITTEN OUT: LEAVE IT -/
set_option maxRecDepth 100000 in
theorem lifted (os : Os) (started : os.Started) (H : Type) (enc : TypeId × Value → H) :
    ReturnsInHanded {} Try.checked os 6 .any (Rows.octetOrderSpec.pre6 enc Try.prog Try.f6 Rows.octetOrderRow.domain false) (Rows.octetOrderSpec.post enc Try.prog Try.f6 false true false false) := by
  refine returnsInHanded_of_change (C := Try.checked) own started (by kernel_rfl) Try.func6
    (ChangeSpec.witness6 (enc := enc) (C := Try.checked) false ⟨#[], #[.int .i64 0, .int .i64 0], []⟩ 8 (by kernel_rfl) (by kernel_rfl) (by kernel_rfl) (by kernel_rfl)) ?_
  intro W base args ds gs before hval0 hW hcnd _
  have hval : ∀ (j : Nat) t v, Try.f6.params[j]? = some t → args[j]? = some v → Value.okWide Try.prog W .any base t v := hval0
  have hW' := hW
  obtain ⟨p, q, hA0, hV, rfl, hfz, hnd⟩ := hW
  have hA : DataW.TrodAll enc Try.prog W 0 (fun _ => true) true Try.f6.params.toList args.toList ds p := hA0
  rw [Try.params6] at hA hval
  obtain ⟨v0, vs0, d0, ds0, p0, q0, hargs, rfl, rfl, h0, r0⟩ := trodAll_cons hA
  obtain ⟨v1, vs1, d1, ds1, p1, q1, rfl, rfl, rfl, h1, r1⟩ := trodAll_cons r0
  obtain ⟨rfl, rfl, rfl⟩ := trodAll_nil r1
  obtain rfl : args = #[v0, v1] := by cases args; simp_all
  obtain ⟨rfl, rfl⟩ := trodVars_none hV
  obtain ⟨a0, rfl, rfl, rfl, w0⟩ := open_int Try.underlying3 (hval 0 3 v0 rfl rfl) h0
  obtain ⟨a1, rfl, rfl, rfl, w1⟩ := open_int Try.underlying3 (hval 1 3 v1 rfl rfl) h1
  clear hA0 hval0
  simp only [List.append_nil] at hW'
  refine (walk a0 a1 w0 w1 W).mono fun e W' ⟨he, bel⟩ => ?_
  subst he
  exact ⟨_, rfl, _, _, _, [], _, [], hW', (trodAll_cons_mk (shut_bool Try.underlying4 _) trodAll_mk0), (trodAll_cons_mk (shut_int Try.underlying3 w0) (trodAll_cons_mk (shut_int Try.underlying3 w1) trodAll_mk0)), rfl, bel.frame _, fun h => by cases h⟩

theorem over : Rows.octetOrderRow.holds Try.pinned (OpenSpec.ofChange Rows.octetOrderSpec) :=
  OpenClaim.holds_of_wide 6 Try.f6 rfl rfl rfl rfl rfl rfl rfl ⟨rfl, rfl, rfl, rfl, rfl⟩ rfl rfl rfl rfl rfl (by kernel_rfl) Try.func6 (by kernel_rfl)
    (of_decide_eq_true (by kernel_rfl)) (by unfold Func.isWrapper; first | (rw [if_pos (by decide +kernel)]; kernel_rfl) | (rw [if_neg (by decide +kernel)]; exact ⟨rfl, rfl⟩))
    (fun os started H enc _ => lifted os started H enc)

/-- THE STATEMENT -/
theorem proved : Rows.OctetOrderSaid :=
  over
end Go.Proofs.Ytfehjlkbgjcioaa.octetOrder
