/- PROVED: the statement SessionRuns of layer 6: for every input that can be read, the law returns true and leaves its arguments as they were. No condition. -/
import Derived.Test.YtkhcnhfdcbellaaRows
import Derived.Test.YtkhcnhfdcbellaaLaw6
import Derived.WalkKit
import Derived.ProofKit
import Derived.OpenShut
import Derived.ShutString
import Derived.ChangeOld
import Derived.Below
import Derived.Deep.Cut
import Derived.Deep.CutBlock
import Derived.Deep.DeepCutAuto
namespace Go.Proofs.Ytkhcnhfdcbellaa.sessionRuns
open Go.ChangeShapes Go.WideShapes Go.ChangeAt Go.RowKit
open Go.ChangeMaps (open_string shut_string)
open Go.Sort (grow)
set_option linter.unusedVariables false

theorem own : ownKnob Try.prog.godebug = none := by kernel_rfl
theorem laidOut : laidOutB Try.prog = true := by kernel_rfl

/-! ### STEP 1: THE WALK -/
set_option maxRecDepth 100000 in
set_option maxHeartbeats 4000000 in
theorem walk (a0 : List Cm.ActV × Value) (a1 : Int) (a2 : Int) (a3 : Int) (w : World) (w0 : Cm.actOkA w a0) (w1 : (Lit.int .i64 a1).wf = true) (w2 : (Lit.int .i64 a2).wf = true) (w3 : (Lit.int .i64 a3).wf = true) :
    Calls Try.prog 3 #[Cm.actA a0, .int .i64 a1, .int .i64 a2, .int .i64 a3] w fun e w' => e = .returned (.bool true) ∧ Below w.heap.size w w' := by
  obtain ⟨acts, v⟩ := a0
  unfold Cm.actOkA at w0
  unfold Cm.actA
  dsimp only at w0 ⊢
  have hm := w0.len
  have C0 := Lib.hid (fun w => Cm.awake6_ok w)
  obtain ⟨a, cap, rfl⟩ := w0.form
  have HA := Lib.hid (fun i hi => Cm.acts_at w0 i hi)
  clear w0 w1 w2 w3
  obtain ⟨L, hL⟩ : ∃ L, acts.length = L := ⟨_, rfl⟩
  have HLL := Lib.hid hL
  rw [hL] at hm ⊢
  clear hL
  by_cases h1 : 60 < L
  · go_enter Try.func3, Try.ntmps3
    go_wp2_with (go_at_call 8; refine (C0.out _).mono ?_; rintro e w1 ⟨rfl, hb1⟩)
    go_ret
    exact ⟨rfl, hb1⟩
  go_enter Try.func3, Try.ntmps3
  go_wp2
  go_loopw [9, 10] (fun s i wr => ∃ (j : Nat) (M : List Cm.SesV) (ma : Option Addr) (mp : Nat), j ≤ L ∧ i = .int .i64 (j : Int) ∧ s = .slice ma M.length mp ∧ Hid (Cm.RdS wr (.slice ma M.length mp) M) ∧ Hid (Cm.rightS M = true) ∧ Hid (Below w.heap.size w wr)) (fun _ i _ => L - (intOf i).toNat)
  case atStart => exact ⟨0, [], none, 0, by omega, rfl, rfl, Lib.hid (RdX.nil _), Lib.hid (by decide +kernel), Lib.hid (Below.refl _ _)⟩
  case round =>
    obtain ⟨j, M, ma, mp, hj, rfl, rfl, HM, HR, HB⟩ := hrel
    have hM5 := ((Cm.rightS_iff M).1 HR.out).1
    by_cases hlt : j < L
    · have hjl : j < acts.length := by rw [HLL.out]; exact hlt
      obtain ⟨b, o, rfl, hc⟩ := HA.out j hjl
      obtain ⟨q0, q1, q2, q3⟩ := hc _ HB.out
      clear hc
      generalize acts[j] = g at q0 q1 q2 q3
      obtain ⟨gd, gc, gn, gt⟩ := g
      dsimp only at q0 q1 q2 q3
      have HBL := Lib.hid (Cm.alloc_at6 wr (.cells #[.int .i64 gd, .int .i64 gc, .int .i64 gn, .int .i64 gt] 26))
      have HB1 := Lib.hid (newAlloc wr (.cells #[.int .i64 gd, .int .i64 gc, .int .i64 gn, .int .i64 gt] 26))
      have CS := Lib.hid (fun (R : List Cm.SesV) u v w (h1 : Cm.RdS w u R) (h2 : Cm.RdS w v R) => Cm.SameSes_any u v R R w h1 h2)
      rcases (by omega : gd = 0 ∨ gd = 1 ∨ (gd ≠ 0 ∧ gd ≠ 1)) with rfl | rfl | ⟨g0, g1⟩
      · skip
        have K1 := Lib.hid (fun (w' : World) (hb : Below wr.heap.size wr w') => (Cm.SesOpen_any _ M gc gn gt w' (HM.out.later hb)).mono fun e w' h => Cm.GetsS.s h)
        have K2 := Lib.hid (fun (w' : World) (hb : Below wr.heap.size wr w') => (Cm.Open_any _ M gc gn gt w' (HM.out.later hb)).mono fun e w' h => Cm.GetsS.s h)
        have HRR := Lib.hid (fun h => Cm.openS_right M gc gn gt HR.out h)
        generalize Cm.openS M gc gn gt = RR at K1 K2 HRR
        obtain ⟨R, rc⟩ := RR
        unfold Cm.GetsSS at K1 K2
        dsimp only at K1 K2 HRR
        have hsl : Cm.sameL R R = true := (Cm.sameL_iff _ _).2 rfl
        have CS := Lib.hid (CS.out R)
        rw [hsl] at CS
        clear hsl
        by_cases hrc : rc = 0
        · subst hrc
          have HNR := Lib.hid (HRR.out rfl)
          have F1 := Lib.hid (fun (v : Value) (w' : World) (h : Cm.RdS w' v R) => Cm.SesFind_any v R gc w' h)
          have F2 := Lib.hid (fun (v : Value) (w' : World) (h : Cm.RdS w' v R) => Cm.Find_any v R gc w' h)
          have F3 := Lib.hid (fun (v : Value) (w' : World) (h : Cm.RdS w' v R) => Cm.SesRight_any v R w' h)
          rw [HNR.out] at F3
          generalize Cm.findS R gc = fr at F1 F2
          obtain ⟨⟨fc, fn, ft⟩, fb⟩ := fr
          unfold Cm.Found Cm.sesVal at F1 F2
          dsimp only at F1 F2
          clear HM HR HRR
          go_wp2_with (first
            | (go_at_call 9; refine (K1.out _ HB1.out).mono ?_; rintro e w1 ⟨x1, y1, rfl, hr1, hb1⟩; have HR1 := Lib.hid hr1; have HC1 := Lib.hid (step HB1.out hb1); have HBL1 := Lib.hid (Cm.block_later HBL.out hb1); clear hr1 hb1; obtain ⟨z0, z1, z2, z3⟩ := Cm.quad_cells HBL1.out)
            | (go_at_call 10; refine (K2.out _ HC1.out).mono ?_; rintro e w2 ⟨x2, y2, rfl, hr2, hb2⟩; have HR2 := Lib.hid hr2; have HR1' := Lib.hid (HR1.out.later hb2); have HC2 := Lib.hid (step HC1.out hb2); have HBL2 := Lib.hid (Cm.block_later HBL1.out hb2); clear hr2 hb2)
            | (go_at_call 15; refine (CS.out _ _ _ HR1'.out HR2.out).mono ?_; rintro e w3 ⟨rfl, hb3⟩; have HR3 := Lib.hid (HR2.out.later hb3); have HC3 := Lib.hid (step HC2.out hb3); have HBL3 := Lib.hid (Cm.block_later HBL2.out hb3); clear hb3; obtain ⟨z0, z1, z2, z3⟩ := Cm.quad_cells HBL3.out)
            | (go_at_call 16; refine (F1.out _ _ HR3.out).mono ?_; rintro e w4 ⟨rfl, hb4⟩; have hq := stepAlloc hb4 (.cells #[.int .i64 fc, .int .i64 fn, .int .i64 ft] 34); have HR4 := Lib.hid (HR3.out.later hq); have HC4 := Lib.hid (step HC3.out hq); have HBL4 := Lib.hid (Cm.block_later HBL3.out hq); have HX4 := Lib.hid (Cm.alloc_at6 w4 (.cells #[.int .i64 fc, .int .i64 fn, .int .i64 ft] 34)); clear hb4 hq; obtain ⟨z0, z1, z2, z3⟩ := Cm.quad_cells HBL4.out)
            | (go_at_call 17; refine (F2.out _ _ HR4.out).mono ?_; rintro e w5 ⟨rfl, hb5⟩; have hq := stepAlloc hb5 (.cells #[.int .i64 fc, .int .i64 fn, .int .i64 ft] 34); have HR5 := Lib.hid (HR4.out.later hq); have HC5 := Lib.hid (step HC4.out hq); obtain ⟨u0, u1, u2⟩ := Cm.tri_cells (Cm.block_later HX4.out hq); clear hb5 hq)
            | (go_at_call 18; refine (F3.out _ _ HR5.out).mono ?_; rintro e w6 ⟨rfl, hb6⟩; have HR6 := Lib.hid (HR5.out.later hb6); have HC6 := Lib.hid (step HC5.out hb6); clear hb6))
          go_roundw
          case rel => exact ⟨j + 1, R, _, _, by omega, by go_num, rfl, HR6, HNR, Lib.hid (step HB.out HC6.out)⟩
          case measure => simp [intOf]; omega
        · have drc : (rc == 0) = false := by simpa using hrc
          have F1 := Lib.hid (fun (v : Value) (w' : World) (h : Cm.RdS w' v M) => Cm.SesFind_any v M gc w' h)
          have F2 := Lib.hid (fun (v : Value) (w' : World) (h : Cm.RdS w' v M) => Cm.Find_any v M gc w' h)
          have F3 := Lib.hid (fun (v : Value) (w' : World) (h : Cm.RdS w' v M) => Cm.SesRight_any v M w' h)
          rw [HR.out] at F3
          generalize Cm.findS M gc = fr at F1 F2
          obtain ⟨⟨fc, fn, ft⟩, fb⟩ := fr
          unfold Cm.Found Cm.sesVal at F1 F2
          dsimp only at F1 F2
          clear HRR hrc
          go_wp2_with (first
            | (go_at_call 9; refine (K1.out _ HB1.out).mono ?_; rintro e w1 ⟨x1, y1, rfl, hr1, hb1⟩; have HR1 := Lib.hid hr1; have HC1 := Lib.hid (step HB1.out hb1); have HBL1 := Lib.hid (Cm.block_later HBL.out hb1); clear hr1 hb1; obtain ⟨z0, z1, z2, z3⟩ := Cm.quad_cells HBL1.out)
            | (go_at_call 10; refine (K2.out _ HC1.out).mono ?_; rintro e w2 ⟨x2, y2, rfl, hr2, hb2⟩; have HR2 := Lib.hid hr2; have HR1' := Lib.hid (HR1.out.later hb2); have HC2 := Lib.hid (step HC1.out hb2); have HBL2 := Lib.hid (Cm.block_later HBL1.out hb2); clear hr2 hb2)
            | (go_at_call 15; refine (CS.out _ _ _ HR1'.out HR2.out).mono ?_; rintro e w3 ⟨rfl, hb3⟩; have HC3 := Lib.hid (step HC2.out hb3); have HR3 := Lib.hid (HM.out.later HC3.out); have HBL3 := Lib.hid (Cm.block_later HBL2.out hb3); clear hb3; obtain ⟨z0, z1, z2, z3⟩ := Cm.quad_cells HBL3.out)
            | (go_at_call 16; refine (F1.out _ _ HR3.out).mono ?_; rintro e w4 ⟨rfl, hb4⟩; have hq := stepAlloc hb4 (.cells #[.int .i64 fc, .int .i64 fn, .int .i64 ft] 34); have HR4 := Lib.hid (HR3.out.later hq); have HC4 := Lib.hid (step HC3.out hq); have HBL4 := Lib.hid (Cm.block_later HBL3.out hq); have HX4 := Lib.hid (Cm.alloc_at6 w4 (.cells #[.int .i64 fc, .int .i64 fn, .int .i64 ft] 34)); clear hb4 hq; obtain ⟨z0, z1, z2, z3⟩ := Cm.quad_cells HBL4.out)
            | (go_at_call 17; refine (F2.out _ _ HR4.out).mono ?_; rintro e w5 ⟨rfl, hb5⟩; have hq := stepAlloc hb5 (.cells #[.int .i64 fc, .int .i64 fn, .int .i64 ft] 34); have HR5 := Lib.hid (HR4.out.later hq); have HC5 := Lib.hid (step HC4.out hq); obtain ⟨u0, u1, u2⟩ := Cm.tri_cells (Cm.block_later HX4.out hq); clear hb5 hq)
            | (go_at_call 18; refine (F3.out _ _ HR5.out).mono ?_; rintro e w6 ⟨rfl, hb6⟩; have HR6 := Lib.hid (HR5.out.later hb6); have HC6 := Lib.hid (step HC5.out hb6); clear hb6))
          go_roundw
          case rel => exact ⟨j + 1, M, _, _, by omega, by go_num, rfl, HR6, HR, Lib.hid (step HB.out HC6.out)⟩
          case measure => simp [intOf]; omega
      · skip
        have K1 := Lib.hid (fun (w' : World) (hb : Below wr.heap.size wr w') => (Cm.SesRenew_any _ M gc gt w' (HM.out.later hb) HR.out).mono fun e w' h => Cm.GetsS.s h)
        have K2 := Lib.hid (fun (w' : World) (hb : Below wr.heap.size wr w') => (Cm.Renew_any _ M gc gt w' (HM.out.later hb) (by omega)).mono fun e w' h => Cm.GetsS.s h)
        have HRR := Lib.hid (fun h => Cm.renewS_right M gc gt HR.out h)
        generalize Cm.renewS M gc gt = RR at K1 K2 HRR
        obtain ⟨R, rc⟩ := RR
        unfold Cm.GetsSS at K1 K2
        dsimp only at K1 K2 HRR
        have hsl : Cm.sameL R R = true := (Cm.sameL_iff _ _).2 rfl
        have CS := Lib.hid (CS.out R)
        rw [hsl] at CS
        clear hsl
        by_cases hrc : rc = 0
        · subst hrc
          have HNR := Lib.hid (HRR.out rfl)
          have F1 := Lib.hid (fun (v : Value) (w' : World) (h : Cm.RdS w' v R) => Cm.SesFind_any v R gc w' h)
          have F2 := Lib.hid (fun (v : Value) (w' : World) (h : Cm.RdS w' v R) => Cm.Find_any v R gc w' h)
          have F3 := Lib.hid (fun (v : Value) (w' : World) (h : Cm.RdS w' v R) => Cm.SesRight_any v R w' h)
          rw [HNR.out] at F3
          generalize Cm.findS R gc = fr at F1 F2
          obtain ⟨⟨fc, fn, ft⟩, fb⟩ := fr
          unfold Cm.Found Cm.sesVal at F1 F2
          dsimp only at F1 F2
          clear HM HR HRR
          go_wp2_with (first
            | (go_at_call 11; refine (K1.out _ HB1.out).mono ?_; rintro e w1 ⟨x1, y1, rfl, hr1, hb1⟩; have HR1 := Lib.hid hr1; have HC1 := Lib.hid (step HB1.out hb1); have HBL1 := Lib.hid (Cm.block_later HBL.out hb1); clear hr1 hb1; obtain ⟨z0, z1, z2, z3⟩ := Cm.quad_cells HBL1.out)
            | (go_at_call 12; refine (K2.out _ HC1.out).mono ?_; rintro e w2 ⟨x2, y2, rfl, hr2, hb2⟩; have HR2 := Lib.hid hr2; have HR1' := Lib.hid (HR1.out.later hb2); have HC2 := Lib.hid (step HC1.out hb2); have HBL2 := Lib.hid (Cm.block_later HBL1.out hb2); clear hr2 hb2)
            | (go_at_call 15; refine (CS.out _ _ _ HR1'.out HR2.out).mono ?_; rintro e w3 ⟨rfl, hb3⟩; have HR3 := Lib.hid (HR2.out.later hb3); have HC3 := Lib.hid (step HC2.out hb3); have HBL3 := Lib.hid (Cm.block_later HBL2.out hb3); clear hb3; obtain ⟨z0, z1, z2, z3⟩ := Cm.quad_cells HBL3.out)
            | (go_at_call 16; refine (F1.out _ _ HR3.out).mono ?_; rintro e w4 ⟨rfl, hb4⟩; have hq := stepAlloc hb4 (.cells #[.int .i64 fc, .int .i64 fn, .int .i64 ft] 34); have HR4 := Lib.hid (HR3.out.later hq); have HC4 := Lib.hid (step HC3.out hq); have HBL4 := Lib.hid (Cm.block_later HBL3.out hq); have HX4 := Lib.hid (Cm.alloc_at6 w4 (.cells #[.int .i64 fc, .int .i64 fn, .int .i64 ft] 34)); clear hb4 hq; obtain ⟨z0, z1, z2, z3⟩ := Cm.quad_cells HBL4.out)
            | (go_at_call 17; refine (F2.out _ _ HR4.out).mono ?_; rintro e w5 ⟨rfl, hb5⟩; have hq := stepAlloc hb5 (.cells #[.int .i64 fc, .int .i64 fn, .int .i64 ft] 34); have HR5 := Lib.hid (HR4.out.later hq); have HC5 := Lib.hid (step HC4.out hq); obtain ⟨u0, u1, u2⟩ := Cm.tri_cells (Cm.block_later HX4.out hq); clear hb5 hq)
            | (go_at_call 18; refine (F3.out _ _ HR5.out).mono ?_; rintro e w6 ⟨rfl, hb6⟩; have HR6 := Lib.hid (HR5.out.later hb6); have HC6 := Lib.hid (step HC5.out hb6); clear hb6))
          go_roundw
          case rel => exact ⟨j + 1, R, _, _, by omega, by go_num, rfl, HR6, HNR, Lib.hid (step HB.out HC6.out)⟩
          case measure => simp [intOf]; omega
        · have drc : (rc == 0) = false := by simpa using hrc
          have F1 := Lib.hid (fun (v : Value) (w' : World) (h : Cm.RdS w' v M) => Cm.SesFind_any v M gc w' h)
          have F2 := Lib.hid (fun (v : Value) (w' : World) (h : Cm.RdS w' v M) => Cm.Find_any v M gc w' h)
          have F3 := Lib.hid (fun (v : Value) (w' : World) (h : Cm.RdS w' v M) => Cm.SesRight_any v M w' h)
          rw [HR.out] at F3
          generalize Cm.findS M gc = fr at F1 F2
          obtain ⟨⟨fc, fn, ft⟩, fb⟩ := fr
          unfold Cm.Found Cm.sesVal at F1 F2
          dsimp only at F1 F2
          clear HRR hrc
          go_wp2_with (first
            | (go_at_call 11; refine (K1.out _ HB1.out).mono ?_; rintro e w1 ⟨x1, y1, rfl, hr1, hb1⟩; have HR1 := Lib.hid hr1; have HC1 := Lib.hid (step HB1.out hb1); have HBL1 := Lib.hid (Cm.block_later HBL.out hb1); clear hr1 hb1; obtain ⟨z0, z1, z2, z3⟩ := Cm.quad_cells HBL1.out)
            | (go_at_call 12; refine (K2.out _ HC1.out).mono ?_; rintro e w2 ⟨x2, y2, rfl, hr2, hb2⟩; have HR2 := Lib.hid hr2; have HR1' := Lib.hid (HR1.out.later hb2); have HC2 := Lib.hid (step HC1.out hb2); have HBL2 := Lib.hid (Cm.block_later HBL1.out hb2); clear hr2 hb2)
            | (go_at_call 15; refine (CS.out _ _ _ HR1'.out HR2.out).mono ?_; rintro e w3 ⟨rfl, hb3⟩; have HC3 := Lib.hid (step HC2.out hb3); have HR3 := Lib.hid (HM.out.later HC3.out); have HBL3 := Lib.hid (Cm.block_later HBL2.out hb3); clear hb3; obtain ⟨z0, z1, z2, z3⟩ := Cm.quad_cells HBL3.out)
            | (go_at_call 16; refine (F1.out _ _ HR3.out).mono ?_; rintro e w4 ⟨rfl, hb4⟩; have hq := stepAlloc hb4 (.cells #[.int .i64 fc, .int .i64 fn, .int .i64 ft] 34); have HR4 := Lib.hid (HR3.out.later hq); have HC4 := Lib.hid (step HC3.out hq); have HBL4 := Lib.hid (Cm.block_later HBL3.out hq); have HX4 := Lib.hid (Cm.alloc_at6 w4 (.cells #[.int .i64 fc, .int .i64 fn, .int .i64 ft] 34)); clear hb4 hq; obtain ⟨z0, z1, z2, z3⟩ := Cm.quad_cells HBL4.out)
            | (go_at_call 17; refine (F2.out _ _ HR4.out).mono ?_; rintro e w5 ⟨rfl, hb5⟩; have hq := stepAlloc hb5 (.cells #[.int .i64 fc, .int .i64 fn, .int .i64 ft] 34); have HR5 := Lib.hid (HR4.out.later hq); have HC5 := Lib.hid (step HC4.out hq); obtain ⟨u0, u1, u2⟩ := Cm.tri_cells (Cm.block_later HX4.out hq); clear hb5 hq)
            | (go_at_call 18; refine (F3.out _ _ HR5.out).mono ?_; rintro e w6 ⟨rfl, hb6⟩; have HR6 := Lib.hid (HR5.out.later hb6); have HC6 := Lib.hid (step HC5.out hb6); clear hb6))
          go_roundw
          case rel => exact ⟨j + 1, M, _, _, by omega, by go_num, rfl, HR6, HR, Lib.hid (step HB.out HC6.out)⟩
          case measure => simp [intOf]; omega
      · have d0 : (gd == 0) = false := by simpa using g0
        have d1 : (gd == 1) = false := by simpa using g1
        clear g0 g1
        have K1 := Lib.hid (fun (w' : World) (hb : Below wr.heap.size wr w') => (Cm.SesClose_any _ M gc w' (HM.out.later hb) HR.out).mono fun e w' h => Cm.GetsS.s h)
        have K2 := Lib.hid (fun (w' : World) (hb : Below wr.heap.size wr w') => (Cm.Close_any _ M gc w' (HM.out.later hb) (by omega)).mono fun e w' h => Cm.GetsS.s h)
        have HRR := Lib.hid (fun h => Cm.closeS_right M gc HR.out h)
        generalize Cm.closeS M gc = RR at K1 K2 HRR
        obtain ⟨R, rc⟩ := RR
        unfold Cm.GetsSS at K1 K2
        dsimp only at K1 K2 HRR
        have hsl : Cm.sameL R R = true := (Cm.sameL_iff _ _).2 rfl
        have CS := Lib.hid (CS.out R)
        rw [hsl] at CS
        clear hsl
        by_cases hrc : rc = 0
        · subst hrc
          have HNR := Lib.hid (HRR.out rfl)
          have F1 := Lib.hid (fun (v : Value) (w' : World) (h : Cm.RdS w' v R) => Cm.SesFind_any v R gc w' h)
          have F2 := Lib.hid (fun (v : Value) (w' : World) (h : Cm.RdS w' v R) => Cm.Find_any v R gc w' h)
          have F3 := Lib.hid (fun (v : Value) (w' : World) (h : Cm.RdS w' v R) => Cm.SesRight_any v R w' h)
          rw [HNR.out] at F3
          generalize Cm.findS R gc = fr at F1 F2
          obtain ⟨⟨fc, fn, ft⟩, fb⟩ := fr
          unfold Cm.Found Cm.sesVal at F1 F2
          dsimp only at F1 F2
          clear HM HR HRR
          go_wp2_with (first
            | (go_at_call 13; refine (K1.out _ HB1.out).mono ?_; rintro e w1 ⟨x1, y1, rfl, hr1, hb1⟩; have HR1 := Lib.hid hr1; have HC1 := Lib.hid (step HB1.out hb1); have HBL1 := Lib.hid (Cm.block_later HBL.out hb1); clear hr1 hb1; obtain ⟨z0, z1, z2, z3⟩ := Cm.quad_cells HBL1.out)
            | (go_at_call 14; refine (K2.out _ HC1.out).mono ?_; rintro e w2 ⟨x2, y2, rfl, hr2, hb2⟩; have HR2 := Lib.hid hr2; have HR1' := Lib.hid (HR1.out.later hb2); have HC2 := Lib.hid (step HC1.out hb2); have HBL2 := Lib.hid (Cm.block_later HBL1.out hb2); clear hr2 hb2)
            | (go_at_call 15; refine (CS.out _ _ _ HR1'.out HR2.out).mono ?_; rintro e w3 ⟨rfl, hb3⟩; have HR3 := Lib.hid (HR2.out.later hb3); have HC3 := Lib.hid (step HC2.out hb3); have HBL3 := Lib.hid (Cm.block_later HBL2.out hb3); clear hb3; obtain ⟨z0, z1, z2, z3⟩ := Cm.quad_cells HBL3.out)
            | (go_at_call 16; refine (F1.out _ _ HR3.out).mono ?_; rintro e w4 ⟨rfl, hb4⟩; have hq := stepAlloc hb4 (.cells #[.int .i64 fc, .int .i64 fn, .int .i64 ft] 34); have HR4 := Lib.hid (HR3.out.later hq); have HC4 := Lib.hid (step HC3.out hq); have HBL4 := Lib.hid (Cm.block_later HBL3.out hq); have HX4 := Lib.hid (Cm.alloc_at6 w4 (.cells #[.int .i64 fc, .int .i64 fn, .int .i64 ft] 34)); clear hb4 hq; obtain ⟨z0, z1, z2, z3⟩ := Cm.quad_cells HBL4.out)
            | (go_at_call 17; refine (F2.out _ _ HR4.out).mono ?_; rintro e w5 ⟨rfl, hb5⟩; have hq := stepAlloc hb5 (.cells #[.int .i64 fc, .int .i64 fn, .int .i64 ft] 34); have HR5 := Lib.hid (HR4.out.later hq); have HC5 := Lib.hid (step HC4.out hq); obtain ⟨u0, u1, u2⟩ := Cm.tri_cells (Cm.block_later HX4.out hq); clear hb5 hq)
            | (go_at_call 18; refine (F3.out _ _ HR5.out).mono ?_; rintro e w6 ⟨rfl, hb6⟩; have HR6 := Lib.hid (HR5.out.later hb6); have HC6 := Lib.hid (step HC5.out hb6); clear hb6))
          go_roundw
          case rel => exact ⟨j + 1, R, _, _, by omega, by go_num, rfl, HR6, HNR, Lib.hid (step HB.out HC6.out)⟩
          case measure => simp [intOf]; omega
        · have drc : (rc == 0) = false := by simpa using hrc
          have F1 := Lib.hid (fun (v : Value) (w' : World) (h : Cm.RdS w' v M) => Cm.SesFind_any v M gc w' h)
          have F2 := Lib.hid (fun (v : Value) (w' : World) (h : Cm.RdS w' v M) => Cm.Find_any v M gc w' h)
          have F3 := Lib.hid (fun (v : Value) (w' : World) (h : Cm.RdS w' v M) => Cm.SesRight_any v M w' h)
          rw [HR.out] at F3
          generalize Cm.findS M gc = fr at F1 F2
          obtain ⟨⟨fc, fn, ft⟩, fb⟩ := fr
          unfold Cm.Found Cm.sesVal at F1 F2
          dsimp only at F1 F2
          clear HRR hrc
          go_wp2_with (first
            | (go_at_call 13; refine (K1.out _ HB1.out).mono ?_; rintro e w1 ⟨x1, y1, rfl, hr1, hb1⟩; have HR1 := Lib.hid hr1; have HC1 := Lib.hid (step HB1.out hb1); have HBL1 := Lib.hid (Cm.block_later HBL.out hb1); clear hr1 hb1; obtain ⟨z0, z1, z2, z3⟩ := Cm.quad_cells HBL1.out)
            | (go_at_call 14; refine (K2.out _ HC1.out).mono ?_; rintro e w2 ⟨x2, y2, rfl, hr2, hb2⟩; have HR2 := Lib.hid hr2; have HR1' := Lib.hid (HR1.out.later hb2); have HC2 := Lib.hid (step HC1.out hb2); have HBL2 := Lib.hid (Cm.block_later HBL1.out hb2); clear hr2 hb2)
            | (go_at_call 15; refine (CS.out _ _ _ HR1'.out HR2.out).mono ?_; rintro e w3 ⟨rfl, hb3⟩; have HC3 := Lib.hid (step HC2.out hb3); have HR3 := Lib.hid (HM.out.later HC3.out); have HBL3 := Lib.hid (Cm.block_later HBL2.out hb3); clear hb3; obtain ⟨z0, z1, z2, z3⟩ := Cm.quad_cells HBL3.out)
            | (go_at_call 16; refine (F1.out _ _ HR3.out).mono ?_; rintro e w4 ⟨rfl, hb4⟩; have hq := stepAlloc hb4 (.cells #[.int .i64 fc, .int .i64 fn, .int .i64 ft] 34); have HR4 := Lib.hid (HR3.out.later hq); have HC4 := Lib.hid (step HC3.out hq); have HBL4 := Lib.hid (Cm.block_later HBL3.out hq); have HX4 := Lib.hid (Cm.alloc_at6 w4 (.cells #[.int .i64 fc, .int .i64 fn, .int .i64 ft] 34)); clear hb4 hq; obtain ⟨z0, z1, z2, z3⟩ := Cm.quad_cells HBL4.out)
            | (go_at_call 17; refine (F2.out _ _ HR4.out).mono ?_; rintro e w5 ⟨rfl, hb5⟩; have hq := stepAlloc hb5 (.cells #[.int .i64 fc, .int .i64 fn, .int .i64 ft] 34); have HR5 := Lib.hid (HR4.out.later hq); have HC5 := Lib.hid (step HC4.out hq); obtain ⟨u0, u1, u2⟩ := Cm.tri_cells (Cm.block_later HX4.out hq); clear hb5 hq)
            | (go_at_call 18; refine (F3.out _ _ HR5.out).mono ?_; rintro e w6 ⟨rfl, hb6⟩; have HR6 := Lib.hid (HR5.out.later hb6); have HC6 := Lib.hid (step HC5.out hb6); clear hb6))
          go_roundw
          case rel => exact ⟨j + 1, M, _, _, by omega, by go_num, rfl, HR6, HR, Lib.hid (step HB.out HC6.out)⟩
          case measure => simp [intOf]; omega
    · obtain rfl : j = L := by omega
      have hr := Cm.right_ren HR.out
      have D1 := Lib.hid (fun (w' : World) (hb : Below wr.heap.size wr w') => (Cm.SesDue_any _ M a1 a2 w' (HM.out.later hb) (by omega) hr).mono fun e w' h => Cm.GetsN.s h)
      have D2 := Lib.hid (fun (w' : World) (hb : Below wr.heap.size wr w') => (Cm.Due_any _ M a1 a2 w' (HM.out.later hb) (by omega) hr).mono fun e w' h => Cm.GetsN.s h)
      generalize Cm.dueS M a1 a2 = ds at D1 D2
      have D3 := Lib.hid (fun u v w (h1 : Cm.RdI w u ds) (h2 : Cm.RdI w v ds) => Cm.SameInts_any u v ds ds w h1 h2)
      have hsd : Cm.sameI ds ds = true := (Cm.sameI_iff _ _).2 rfl
      rw [hsd] at D3
      clear hr hsd
      go_wp2_with (first
        | (go_at_call 20; refine (D1.out _ (Below.refl _ _)).mono ?_; rintro e w1 ⟨x1, y1, rfl, hr1, hb1⟩; have HR1 := Lib.hid hr1; have HC1 := Lib.hid hb1; clear hr1 hb1)
        | (go_at_call 21; refine (D2.out _ HC1.out).mono ?_; rintro e w2 ⟨x2, y2, rfl, hr2, hb2⟩; have HR2 := Lib.hid hr2; have HR1' := Lib.hid (HR1.out.later hb2); have HC2 := Lib.hid (step HC1.out hb2); clear hr2 hb2)
        | (go_at_call 19; refine (D3.out _ _ _ HR1'.out HR2.out).mono ?_; rintro e w3 ⟨rfl, hb3⟩; have HC3 := Lib.hid (step HC2.out hb3); clear hb3)
        | (go_at_call 8; refine (C0.out _).mono ?_; rintro e w4 ⟨rfl, hb4⟩))
      go_ret
      exact ⟨rfl, step HB.out (step HC3.out hb4)⟩

/-! ### THE ROW's STEP -/
set_option maxRecDepth 100000 in
theorem lifted (os : Os) (started : os.Started) (H : Type) (enc : TypeId × Value → H) :
    ReturnsInHanded {} Try.checked os 3 .any (Rows.sessionRunsSpec.pre6 enc Try.prog Try.f3 Rows.sessionRunsRow.domain false) (Rows.sessionRunsSpec.post enc Try.prog Try.f3 false true false false) := by
  refine returnsInHanded_of_change (C := Try.checked) own started (by kernel_rfl) Try.func3
    (ChangeSpec.witness6 (enc := enc) (C := Try.checked) false ⟨#[], #[.slice none 0 0, .int .i64 0, .int .i64 0, .int .i64 0], []⟩ 8 (by kernel_rfl) (by kernel_rfl) (by kernel_rfl) (by kernel_rfl)) ?_
  intro W base args ds gs before hval0 hW hcnd _
  have hval : ∀ (j : Nat) t v, Try.f3.params[j]? = some t → args[j]? = some v → Value.okWide Try.prog W .any base t v := hval0
  have hW' := hW
  obtain ⟨p, q, hA0, hV, rfl, hfz, hnd⟩ := hW
  have hA : DataW.TrodAll enc Try.prog W 0 (fun _ => true) true Try.f3.params.toList args.toList ds p := hA0
  rw [Try.params3] at hA hval
  obtain ⟨v0, vs0, d0, ds0, p0, q0, hargs, rfl, rfl, h0, r0⟩ := trodAll_cons hA
  obtain ⟨v1, vs1, d1, ds1, p1, q1, rfl, rfl, rfl, h1, r1⟩ := trodAll_cons r0
  obtain ⟨v2, vs2, d2, ds2, p2, q2, rfl, rfl, rfl, h2, r2⟩ := trodAll_cons r1
  obtain ⟨v3, vs3, d3, ds3, p3, q3, rfl, rfl, rfl, h3, r3⟩ := trodAll_cons r2
  obtain ⟨rfl, rfl, rfl⟩ := trodAll_nil r3
  obtain rfl : args = #[v0, v1, v2, v3] := by cases args; simp_all
  obtain ⟨rfl, rfl⟩ := trodVars_none hV
  have k0 := h0
  have lt0 : ∀ x ∈ p0, x.block < W.heap.size := by obtain ⟨m, hm⟩ := k0; exact DataW.trod_lt m _ _ _ hm
  obtain ⟨a0, rfl, w0⟩ := Cm.open_act (hval 0 22 v0 rfl rfl) h0
  obtain ⟨a1, rfl, rfl, rfl, w1⟩ := open_int Try.underlying3 (hval 1 3 v1 rfl rfl) h1
  obtain ⟨a2, rfl, rfl, rfl, w2⟩ := open_int Try.underlying3 (hval 2 3 v2 rfl rfl) h2
  obtain ⟨a3, rfl, rfl, rfl, w3⟩ := open_int Try.underlying3 (hval 3 3 v3 rfl rfl) h3
  clear hA0 hval0
  refine (walk a0 a1 a2 a3 W w0 w1 w2 w3).mono fun e W' ⟨he, bel⟩ => ?_
  subst he
  exact ⟨_, rfl, _, _, _, [], _, [], hW', trodAll_mk1 (shut_bool Try.underlying4 _), (trodAll_cons_mk (Below.trod laidOut (by kernel_rfl) (of_decide_eq_true (by kernel_rfl)) k0 bel lt0) (trodAll_cons_mk (shut_int Try.underlying3 w1) (trodAll_cons_mk (shut_int Try.underlying3 w2) (trodAll_cons_mk (shut_int Try.underlying3 w3) trodAll_mk0)))), rfl, bel.frame _, fun h => by cases h⟩

theorem over : Rows.sessionRunsRow.holds Try.pinned (OpenSpec.ofChange Rows.sessionRunsSpec) :=
  OpenClaim.holds_of_wide 3 Try.f3 rfl rfl rfl rfl rfl rfl rfl ⟨rfl, rfl, rfl, rfl, rfl⟩ rfl rfl rfl rfl rfl (by kernel_rfl) Try.func3 (by kernel_rfl)
    (of_decide_eq_true (by kernel_rfl)) (by unfold Func.isWrapper; first | (rw [if_pos (by decide +kernel)]; kernel_rfl) | (rw [if_neg (by decide +kernel)]; exact ⟨rfl, rfl⟩))
    (fun os started H enc _ => lifted os started H enc)

/-- THE STATEMENT -/
theorem proved : Rows.SessionRunsSaid := over
end Go.Proofs.Ytkhcnhfdcbellaa.sessionRuns
