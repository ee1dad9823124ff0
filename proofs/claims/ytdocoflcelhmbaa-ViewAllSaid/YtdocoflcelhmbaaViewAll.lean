/- PROVED: the statement ViewAll of layer 13: for every input that can be read, the law returns true and leaves its arguments as they were. No condition. -/
import Derived.Test.YtdocoflcelhmbaaRows
import Derived.Test.YtdocoflcelhmbaaVewD
import Derived.WalkKit
import Derived.ProofKit
import Derived.OpenShut
import Derived.ShutString
import Derived.ChangeOld
import Derived.Below
import Derived.BigQuiet
import Derived.Lib.QuietBelow
import Derived.Deep.Cut
import Derived.Deep.CutBlock
import Derived.Deep.DeepCutAuto
namespace Go.Proofs.Ytdocoflcelhmbaa.viewAll
open Go.ChangeShapes Go.WideShapes Go.ChangeAt Go.RowKit
open Go.ChangeMaps (open_string shut_string)
open Go.Sort (grow)
set_option linter.unusedVariables false
set_option maxRecDepth 8000
set_option linter.unusedSimpArgs false

theorem own : ownKnob Try.prog.godebug = none := by kernel_rfl
theorem laidOut : laidOutB Try.prog = true := by kernel_rfl

/-! ### STEP 1: THE WALK -/
set_option maxRecDepth 100000 in
set_option maxHeartbeats 4000000 in
theorem walk (a0 : Int) (a1 : Int) (a2 : Int) (a3 : Int) (a4 : Int) (a5 : Int) (a6 : Vw.ConfV) (w : World) (w0 : (Lit.int .i64 a0).wf = true) (w1 : (Lit.int .i64 a1).wf = true) (w2 : (Lit.int .i64 a2).wf = true) (w3 : (Lit.int .i64 a3).wf = true) (w4 : (Lit.int .i64 a4).wf = true) (w5 : (Lit.int .i64 a5).wf = true) :
    Calls Try.prog 3 #[.int .i64 a0, .int .i64 a1, .int .i64 a2, .int .i64 a3, .int .i64 a4, .int .i64 a5, Vw.confVal a6] w fun e w' => e = .returned (.bool true) ∧ Below w.heap.size w w' := by
  obtain ⟨c0, c1, c2, c3, c4, c5, c6, c7, c8, c9, c10⟩ := a6
  have hh : -9223372036854775808 ≤ a2 ∧ a2 ≤ 9223372036854775807 := by have := w2; simp [Lit.wf, IntKind.min, IntKind.max, IntKind.signed, IntKind.bits] at this; omega
  clear w0 w1 w2 w3 w4 w5
  have C1 := Lib.hid (fun w => Vw.Reach_any a3 a4 a5 w)
  have C2 := Lib.hid (fun w => Vw.RefReach_any a3 a4 a5 w)
  have Q1 := Lib.hid (fun w => (Vw.Quorum_any a1 w).mono fun e w' h => Vw.Tells.b h)
  have Q2 := Lib.hid (fun w => (Vw.RefQuorum_any a1 w).mono fun e w' h => Vw.Tells.b h)
  have Q3 := Lib.hid (fun w => (Vw.Leader_any a0 a1 w).mono fun e w' h => Vw.Tells.b h)
  have Q4 := Lib.hid (fun w => (Vw.RefLeader_any a0 a1 w).mono fun e w' h => Vw.Tells.b h)
  have Q5 := Lib.hid (fun w => (Vw.Led_any a0 a1 a2 hh w).mono fun e w' h => Vw.Tells.b h)
  have Q6 := Lib.hid (fun w => (Vw.RefLed_any a0 a1 a2 w).mono fun e w' h => Vw.Tells.b h)
  have Q7 := Lib.hid (fun w => (Vw.Timeout_any a3 a4 a0 w).mono fun e w' h => Vw.Tells.b h)
  have Q8 := Lib.hid (fun w => (Vw.RefTimeout_any a3 a4 a0 w).mono fun e w' h => Vw.Tells.b h)
  have Q9 := Lib.hid (fun w => Vw.MayConf_any ⟨c0, c1, c2, c3, c4, c5, c6, c7, c8, c9, c10⟩ w)
  have Q10 := Lib.hid (fun w => Vw.RefMayConf_any ⟨c0, c1, c2, c3, c4, c5, c6, c7, c8, c9, c10⟩ w)
  have Q11 := Lib.hid (fun w => Vw.awake13_ok w)
  unfold Vw.TellsB at Q1 Q2 Q3 Q4 Q5 Q6 Q7 Q8 Q9 Q10 Q11
  unfold Vw.confVal at Q9 Q10 ⊢
  dsimp only at Q9 Q10 ⊢
  generalize Vw.quorumF a1 = r1 at Q1 Q2
  generalize Vw.leaderF a0 a1 = r2 at Q3 Q4
  generalize Vw.ledF a0 a1 a2 = r3 at Q5 Q6
  generalize Vw.timeF a3 a4 a0 = r4 at Q7 Q8
  generalize Vw.mayC _ = r5 at Q9 Q10
  have HB := Lib.hid (newAlloc w (.cells #[.int .i64 c0, .int .i64 c1, .int .i64 c2, .int .i64 c3, .int .i64 c4, .int .i64 c5, .int .i64 c6, .int .i64 c7, .int .i64 c8, .int .i64 c9, .int .i64 c10] 23))
  have hx := Hp.at_new w (.cells #[.int .i64 c0, .int .i64 c1, .int .i64 c2, .int .i64 c3, .int .i64 c4, .int .i64 c5, .int .i64 c6, .int .i64 c7, .int .i64 c8, .int .i64 c9, .int .i64 c10] 23) _ rfl
  clear hh
  go_enter Try.func3, Try.ntmps3
  go_upto_region 1 with fail
  generalize hW : (w.alloc (.cells #[.int .i64 c0, .int .i64 c1, .int .i64 c2, .int .i64 c3, .int .i64 c4, .int .i64 c5, .int .i64 c6, .int .i64 c7, .int .i64 c8, .int .i64 c9, .int .i64 c10] 23)) = W at HB hx ⊢
  clear hW
  go_wp2_with fail
  refine (C1.out _).mono ?_
  rintro e w' ⟨k1, o1, rfl, hr1, rfl⟩
  have HR1 := Lib.hid hr1
  clear hr1
  go_wp2_with fail
  refine (C2.out _).mono ?_
  rintro e w' ⟨k2, o2, rfl, hr2, rfl⟩
  obtain ⟨hk, ho⟩ := HR1.out.same hr2
  subst hk
  subst ho
  clear HR1 hr2 C1 C2
  go_upto_region 3 with fail
  have k0 := hx.cell 0
  have k1 := hx.cell 1
  have k2 := hx.cell 2
  have k3 := hx.cell 3
  have k4 := hx.cell 4
  have k5 := hx.cell 5
  have k6 := hx.cell 6
  have k7 := hx.cell 7
  have k8 := hx.cell 8
  have k9 := hx.cell 9
  have k10 := hx.cell 10
  simp only [List.getElem?_toArray, List.getElem?_cons_zero, List.getElem?_cons_succ] at k0 k1 k2 k3 k4 k5 k6 k7 k8 k9 k10
  clear hx
  have q0 := cell_regrown k0
  have q1 := cell_regrown k1
  have q2 := cell_regrown k2
  have q3 := cell_regrown k3
  have q4 := cell_regrown k4
  have q5 := cell_regrown k5
  have q6 := cell_regrown k6
  have q7 := cell_regrown k7
  have q8 := cell_regrown k8
  have q9 := cell_regrown k9
  have q10 := cell_regrown k10
  have D1 := Lib.hid (fun d os => Calls.regrown_of (w := W) (d := d) (os := os) (Q1.out _))
  have D2 := Lib.hid (fun d os => Calls.regrown_of (w := W) (d := d) (os := os) (Q2.out _))
  have D3 := Lib.hid (fun d os => Calls.regrown_of (w := W) (d := d) (os := os) (Q3.out _))
  have D4 := Lib.hid (fun d os => Calls.regrown_of (w := W) (d := d) (os := os) (Q4.out _))
  have D5 := Lib.hid (fun d os => Calls.regrown_of (w := W) (d := d) (os := os) (Q5.out _))
  have D6 := Lib.hid (fun d os => Calls.regrown_of (w := W) (d := d) (os := os) (Q6.out _))
  have D7 := Lib.hid (fun d os => Calls.regrown_of (w := W) (d := d) (os := os) (Q7.out _))
  have D8 := Lib.hid (fun d os => Calls.regrown_of (w := W) (d := d) (os := os) (Q8.out _))
  have D9 := Lib.hid (fun d os => Calls.regrown_of (w := W) (d := d) (os := os) (Q9.out _))
  have D10 := Lib.hid (fun d os => Calls.regrown_of (w := W) (d := d) (os := os) (Q10.out _))
  have D11 := Lib.hid (fun d os => Calls.regrown_of (w := W) (d := d) (os := os) (Q11.out _))
  clear Q1 Q2 Q3 Q4 Q5 Q6 Q7 Q8 Q9 Q10 Q11 k0 k1 k2 k3 k4 k5 k6 k7 k8 k9 k10
  try simp only [List.append_eq, List.cons_append, List.nil_append]
  refine wp_region_quiet_below (by kernel_rfl) (by kernel_rfl) ?_
  try simp only [List.append_eq, List.cons_append, List.nil_append]
  repeat (go_big_quiet_step (fail))
  go_big_quiet_step (exact D1.out _ _)
  repeat (go_big_quiet_step (fail))
  go_big_quiet_step (exact D2.out _ _)
  repeat (go_big_quiet_step (fail))
  go_big_quiet_step (exact D3.out _ _)
  repeat (go_big_quiet_step (fail))
  go_big_quiet_step (exact D4.out _ _)
  repeat (go_big_quiet_step (fail))
  go_big_quiet_step (exact D5.out _ _)
  repeat (go_big_quiet_step (fail))
  go_big_quiet_step (exact D6.out _ _)
  repeat (go_big_quiet_step (fail))
  go_big_quiet_step (exact D7.out _ _)
  repeat (go_big_quiet_step (fail))
  go_big_quiet_step (exact D8.out _ _)
  repeat (go_big_quiet_step (fail))
  go_big_quiet_step (exact D9.out _ _)
  repeat (go_big_quiet_step (fail))
  go_big_quiet_step (exact D10.out _ _)
  repeat (go_big_quiet_step (fail))
  go_big_quiet_step (exact D11.out _ _)
  repeat (go_big_quiet_step (fail))
  refine wpQuiet_nil ?_
  intro _ hw'
  obtain ⟨⟨dq, osq⟩, hw''⟩ := hw'
  subst hw''
  go_wp2
  go_ret
  exact ⟨rfl, step HB.out (below_regrown W dq osq)⟩

/-! ### THE ROW's STEP -/
set_option maxRecDepth 100000 in
theorem lifted (os : Os) (started : os.Started) (H : Type) (enc : TypeId × Value → H) :
    ReturnsInHanded {} Try.checked os 3 .any (Rows.viewAllSpec.pre6 enc Try.prog Try.f3 Rows.viewAllRow.domain false) (Rows.viewAllSpec.post enc Try.prog Try.f3 false true false false) := by
  refine returnsInHanded_of_change (C := Try.checked) own started (by kernel_rfl) Try.func3
    (ChangeSpec.witness6 (enc := enc) (C := Try.checked) false ⟨#[], #[.int .i64 0, .int .i64 0, .int .i64 0, .int .i64 0, .int .i64 0, .int .i64 0, .agg #[.int .i64 0, .int .i64 0, .int .i64 0, .int .i64 0, .int .i64 0, .int .i64 0, .int .i64 0, .int .i64 0, .int .i64 0, .int .i64 0, .int .i64 0]], []⟩ 8 (by kernel_rfl) (by kernel_rfl) (by kernel_rfl) (by kernel_rfl)) ?_
  intro W base args ds gs before hval0 hW hcnd _
  have hval : ∀ (j : Nat) t v, Try.f3.params[j]? = some t → args[j]? = some v → Value.okWide Try.prog W .any base t v := hval0
  have hW' := hW
  obtain ⟨p, q, hA0, hV, rfl, hfz, hnd⟩ := hW
  have hA : DataW.TrodAll enc Try.prog W 0 (fun _ => true) true Try.f3.params.toList args.toList ds p := hA0
  rw [Try.params3] at hA hval
  obtain ⟨v0, vs0, d0, ds0, p0, q0, hargs, rfl, rfl, h0, r0⟩ := trodAll_cons hA
  obtain ⟨v1, vs1, d1, ds1, p1, q1, rfl, rfl, rfl, h1, r1⟩ := trodAll_cons r0
  obtain ⟨v2, vs2, d2, ds2, p2, q2, rfl, rfl, rfl, h2, r2⟩ := trodAll_cons r1
  obtain ⟨v3, vs3, d3, ds3, p3, q3, rfl, rfl, rfl, h3, r3⟩ := trodAll_cons r2
  obtain ⟨v4, vs4, d4, ds4, p4, q4, rfl, rfl, rfl, h4, r4⟩ := trodAll_cons r3
  obtain ⟨v5, vs5, d5, ds5, p5, q5, rfl, rfl, rfl, h5, r5⟩ := trodAll_cons r4
  obtain ⟨v6, vs6, d6, ds6, p6, q6, rfl, rfl, rfl, h6, r6⟩ := trodAll_cons r5
  obtain ⟨rfl, rfl, rfl⟩ := trodAll_nil r6
  obtain rfl : args = #[v0, v1, v2, v3, v4, v5, v6] := by cases args; simp_all
  obtain ⟨rfl, rfl⟩ := trodVars_none hV
  obtain ⟨a0, rfl, rfl, rfl, w0⟩ := open_int Try.underlying3 (hval 0 3 v0 rfl rfl) h0
  obtain ⟨a1, rfl, rfl, rfl, w1⟩ := open_int Try.underlying3 (hval 1 3 v1 rfl rfl) h1
  obtain ⟨a2, rfl, rfl, rfl, w2⟩ := open_int Try.underlying3 (hval 2 3 v2 rfl rfl) h2
  obtain ⟨a3, rfl, rfl, rfl, w3⟩ := open_int Try.underlying3 (hval 3 3 v3 rfl rfl) h3
  obtain ⟨a4, rfl, rfl, rfl, w4⟩ := open_int Try.underlying3 (hval 4 3 v4 rfl rfl) h4
  obtain ⟨a5, rfl, rfl, rfl, w5⟩ := open_int Try.underlying3 (hval 5 3 v5 rfl rfl) h5
  have k6 := h6
  have lt6 : ∀ x ∈ p6, x.block < W.heap.size := by obtain ⟨m, hm⟩ := k6; exact DataW.trod_lt m _ _ _ hm
  obtain ⟨a6, rfl⟩ := Vw.open_conf (hval 6 23 v6 rfl rfl) h6
  clear hA0 hval0
  refine (walk a0 a1 a2 a3 a4 a5 a6 W w0 w1 w2 w3 w4 w5).mono fun e W' ⟨he, bel⟩ => ?_
  subst he
  exact ⟨_, rfl, _, _, _, [], _, [], hW', trodAll_mk1 (shut_bool Try.underlying4 _), (trodAll_cons_mk (shut_int Try.underlying3 w0) (trodAll_cons_mk (shut_int Try.underlying3 w1) (trodAll_cons_mk (shut_int Try.underlying3 w2) (trodAll_cons_mk (shut_int Try.underlying3 w3) (trodAll_cons_mk (shut_int Try.underlying3 w4) (trodAll_cons_mk (shut_int Try.underlying3 w5) (trodAll_cons_mk (Below.trod laidOut (by kernel_rfl) (of_decide_eq_true (by kernel_rfl)) k6 bel lt6) trodAll_mk0))))))), rfl, bel.frame _, fun h => by cases h⟩

theorem over : Rows.viewAllRow.holds Try.pinned (OpenSpec.ofChange Rows.viewAllSpec) :=
  OpenClaim.holds_of_wide 3 Try.f3 rfl rfl rfl rfl rfl rfl rfl ⟨rfl, rfl, rfl, rfl, rfl⟩ rfl rfl rfl rfl rfl (by kernel_rfl) Try.func3 (by kernel_rfl)
    (of_decide_eq_true (by kernel_rfl)) (by unfold Func.isWrapper; first | (rw [if_pos (by decide +kernel)]; kernel_rfl) | (rw [if_neg (by decide +kernel)]; exact ⟨rfl, rfl⟩))
    (fun os started H enc _ => lifted os started H enc)

/-- THE STATEMENT -/
theorem proved : Rows.ViewAllSaid := over
end Go.Proofs.Ytdocoflcelhmbaa.viewAll
