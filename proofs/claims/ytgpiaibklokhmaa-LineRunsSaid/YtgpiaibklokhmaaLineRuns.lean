/- PROVED: the statement LineRuns of layer 7: for every input that can be read, the law returns true and leaves its arguments as they were. No condition. -/
import Derived.Test.YtgpiaibklokhmaaRows
import Derived.Test.YtgpiaibklokhmaaLaw7
import Derived.WalkKit
import Derived.ProofKit
import Derived.OpenShut
import Derived.ShutString
import Derived.ChangeOld
import Derived.Below
import Derived.Deep.Cut
import Derived.Deep.CutBlock
import Derived.Deep.DeepCutAuto
namespace Go.Proofs.Ytgpiaibklokhmaa.lineRuns
open Go.ChangeShapes Go.WideShapes Go.ChangeAt Go.RowKit
open Go.ChangeMaps (open_string shut_string)
open Go.Sort (grow)
set_option linter.unusedVariables false

theorem own : ownKnob Try.prog.godebug = none := by kernel_rfl
theorem laidOut : laidOutB Try.prog = true := by kernel_rfl

/-! ### STEP 1: THE WALK -/
set_option maxRecDepth 100000 in
set_option maxHeartbeats 4000000 in
theorem walk (a0 : List Cm.Act2 × Value) (a1 : List Int × Value) (w : World) (w0 : Cm.act2OkA w a0) (w1 : Cm.numOkA w a1) :
    Calls Try.prog 3 #[Cm.act2A a0, Cm.numA a1] w fun e w' => e = .returned (.bool true) ∧ Below w.heap.size w w' := by
  obtain ⟨acts, v⟩ := a0
  obtain ⟨gone, gv⟩ := a1
  unfold Cm.act2OkA at w0
  unfold Cm.numOkA at w1
  unfold Cm.act2A Cm.numA
  dsimp only at w0 w1 ⊢
  have hm := w0.len
  have hm2 := w1.len
  have C0 := Lib.hid (fun w => Cm.awake7_ok w)
  have HGN := Lib.hid w1
  obtain ⟨a, cap, rfl⟩ := w0.form
  obtain ⟨ga, gp, rfl⟩ := w1.form
  have HA := Lib.hid (fun i hi => Cm.acts2_at w0 i hi)
  clear w0 w1
  obtain ⟨L, hL⟩ : ∃ L, acts.length = L := ⟨_, rfl⟩
  have HLL := Lib.hid hL
  rw [hL] at hm ⊢
  clear hL
  obtain ⟨GL, hGL⟩ : ∃ GL, gone.length = GL := ⟨_, rfl⟩
  rw [hGL] at hm2 HGN ⊢
  clear hGL
  by_cases h1 : 60 < L
  · go_enter Try.func3, Try.ntmps3
    go_wp2_with (go_at_call 8; refine (C0.out _).mono ?_; rintro e w1 ⟨rfl, hb1⟩)
    go_ret
    exact ⟨rfl, hb1⟩
  by_cases h2 : 30 < GL
  · go_enter Try.func3, Try.ntmps3
    go_wp2_with (go_at_call 8; refine (C0.out _).mono ?_; rintro e w1 ⟨rfl, hb1⟩)
    go_ret
    exact ⟨rfl, hb1⟩
  have d1 : decide (60 < (L : Int)) = false := by simp; omega
  have d2 : decide (30 < (GL : Int)) = false := by simp; omega
  clear h1 h2
  go_enter Try.func3, Try.ntmps3
  go_wp2
  clear d1 d2
  go_loopw [5, 6] (fun s i wr => ∃ (j : Nat) (M : List Int) (ma : Option Addr) (mp : Nat), j ≤ L ∧ i = .int .i64 (j : Int) ∧ s = .slice ma M.length mp ∧ Hid (Cm.RdI wr (.slice ma M.length mp) M) ∧ Hid (Cm.rightL M = true) ∧ Hid (Below w.heap.size w wr)) (fun _ i _ => L - (intOf i).toNat)
  case atStart => exact ⟨0, [], none, 0, by omega, rfl, rfl, Lib.hid (RdX.nil _), Lib.hid Cm.nil_right, Lib.hid (Below.refl _ _)⟩
  case round =>
    obtain ⟨j, M, ma, mp, hj, rfl, rfl, HM, HR, HB⟩ := hrel
    have hM3 := ((Cm.rightL_iff M).1 HR.out).1
    by_cases hlt : j < L
    · have hjl : j < acts.length := by rw [HLL.out]; exact hlt
      obtain ⟨b, o, rfl, hc⟩ := HA.out j hjl
      obtain ⟨q0, q1⟩ := hc _ HB.out
      clear hc HA
      generalize acts[j] = g at q0 q1
      obtain ⟨gd, gc⟩ := g
      dsimp only at q0 q1
      rcases (by omega : gd = 0 ∨ gd = 1 ∨ (gd ≠ 0 ∧ gd ≠ 1)) with rfl | rfl | ⟨g0, g1⟩
      · have K1 := Lib.hid (fun (w' : World) (hb : Below wr.heap.size wr w') => (Cm.LineJoin_any _ M gc w' (HM.out.later hb)).mono fun e w' h => Cm.GetsJ.s h)
        have K2 := Lib.hid (fun (w' : World) (hb : Below wr.heap.size wr w') => (Cm.Join_any _ M gc w' (HM.out.later hb)).mono fun e w' h => Cm.GetsJ.s h)
        have HRR := Lib.hid (fun h => Cm.join_right M gc HR.out h)
        generalize Cm.joinL M gc = RR at K1 K2 HRR
        obtain ⟨R, rn, rc⟩ := RR
        unfold Cm.GetsJS at K1 K2
        dsimp only at K1 K2 HRR
        by_cases hrc : rc = 0
        · subst hrc
          have HNR := Lib.hid (HRR.out rfl)
          clear HRR
          have hR3 := ((Cm.rightL_iff R).1 HNR.out).1
          have T1 := Lib.hid (fun (v : Value) (w' : World) (h : Cm.RdI w' v R) => Cm.LineAhead_any v R gc w' h)
          have T2 := Lib.hid (fun (v : Value) (w' : World) (h : Cm.RdI w' v R) => Cm.Ahead_any v R gc w' h)
          have T3 := Lib.hid (fun (v : Value) (w' : World) (h : Cm.RdI w' v R) => Cm.LineRight_any v R w' h)
          rw [HNR.out] at T3
          have T4 := Lib.hid (fun (v : Value) (w' : World) (h : Cm.RdI w' v R) (hb : Below w.heap.size w w') => (Cm.LineWithout_any v _ R gone w' h (HGN.out.later hb) (by omega)).mono fun e w' h => Cm.GetsN.s h)
          have T5 := Lib.hid (fun (v : Value) (w' : World) (h : Cm.RdI w' v R) (hb : Below w.heap.size w w') => (Cm.Without_any v _ R gone w' h (HGN.out.later hb) (by omega)).mono fun e w' h => Cm.GetsN.s h)
          generalize Cm.aheadL R gc = fr at T1 T2
          obtain ⟨fn, fb⟩ := fr
          generalize Cm.withoutL R gone = U at T4 T5
          unfold Cm.StandsB at T1
          unfold Cm.Stands at T2
          unfold Cm.GetsNS at T4 T5
          dsimp only at T1 T2
          clear hR3
          go_wp2_with fail
          refine (K1.out _ (Below.refl _ _)).mono ?_
          rintro e w1 ⟨x1, y1, rfl, hr1, hb1⟩
          have HR1 := Lib.hid hr1
          have HC1 := Lib.hid hb1
          clear hr1 hb1
          go_wp2_with fail
          refine (K2.out _ HC1.out).mono ?_
          rintro e w2 ⟨x2, y2, rfl, hr2, hb2⟩
          have HR2 := Lib.hid hr2
          have HR1' := Lib.hid (HR1.out.later hb2)
          have HC2 := Lib.hid (step HC1.out hb2)
          clear hr2 hb2
          go_wp2_with fail
          refine (Cm.same_refl _ _ R _ HR1'.out HR2.out).mono ?_
          rintro e w3 ⟨rfl, hb3⟩
          have HC3 := Lib.hid (step HC2.out hb3)
          have HR3 := Lib.hid (HR2.out.later hb3)
          have HM3 := Lib.hid (HM.out.later HC3.out)
          have HB3 := Lib.hid (step HB.out HC3.out)
          clear hb3
          go_wp2_with fail
          refine (T1.out _ _ HR3.out).mono ?_
          rintro e wa ⟨rfl, hba⟩
          go_wp2_with fail
          refine (T2.out _ _ (HR3.out.later hba)).mono ?_
          rintro e wb ⟨rfl, rfl⟩
          have HCa := Lib.hid (step HB3.out hba)
          have HRa := Lib.hid (HR3.out.later hba)
          clear hba
          go_wp2_with fail
          refine (T3.out _ _ HRa.out).mono ?_
          rintro e wc ⟨rfl, hbc⟩
          have HCc := Lib.hid (step HCa.out hbc)
          have HRc := Lib.hid (HRa.out.later hbc)
          clear hbc
          go_wp2_with fail
          refine (T4.out _ _ HRc.out HCc.out).mono ?_
          rintro e wd ⟨da, dp, rfl, hud, hbd⟩
          have HCd := Lib.hid (step HCc.out hbd)
          have HRd := Lib.hid (HRc.out.later hbd)
          have HUd := Lib.hid hud
          clear hbd hud
          go_wp2_with fail
          refine (T5.out _ _ HRd.out HCd.out).mono ?_
          rintro e we ⟨ea, ep, rfl, hue, hbe⟩
          have HCe := Lib.hid (step HCd.out hbe)
          have HRe := Lib.hid (HRd.out.later hbe)
          have HUe := Lib.hid (HUd.out.later hbe)
          have HUe2 := Lib.hid hue
          clear hbe hue
          go_wp2_with fail
          refine (Cm.same_refl _ _ U _ HUe.out HUe2.out).mono ?_
          rintro e wf ⟨rfl, hbf⟩
          have HCf := Lib.hid (step HCe.out hbf)
          have HRf := Lib.hid (HRe.out.later hbf)
          clear hbf
          go_wp2
          go_roundw
          case rel => exact ⟨j + 1, R, _, _, by omega, by go_num, rfl, HRf, Lib.hid HNR.out, HCf⟩
          case measure => simp [intOf]; omega
        · have drc : (rc == 0) = false := by simpa using hrc
          clear hrc HRR
          have hR3 := ((Cm.rightL_iff M).1 HR.out).1
          have T1 := Lib.hid (fun (v : Value) (w' : World) (h : Cm.RdI w' v M) => Cm.LineAhead_any v M gc w' h)
          have T2 := Lib.hid (fun (v : Value) (w' : World) (h : Cm.RdI w' v M) => Cm.Ahead_any v M gc w' h)
          have T3 := Lib.hid (fun (v : Value) (w' : World) (h : Cm.RdI w' v M) => Cm.LineRight_any v M w' h)
          rw [HR.out] at T3
          have T4 := Lib.hid (fun (v : Value) (w' : World) (h : Cm.RdI w' v M) (hb : Below w.heap.size w w') => (Cm.LineWithout_any v _ M gone w' h (HGN.out.later hb) (by omega)).mono fun e w' h => Cm.GetsN.s h)
          have T5 := Lib.hid (fun (v : Value) (w' : World) (h : Cm.RdI w' v M) (hb : Below w.heap.size w w') => (Cm.Without_any v _ M gone w' h (HGN.out.later hb) (by omega)).mono fun e w' h => Cm.GetsN.s h)
          generalize Cm.aheadL M gc = fr at T1 T2
          obtain ⟨fn, fb⟩ := fr
          generalize Cm.withoutL M gone = U at T4 T5
          unfold Cm.StandsB at T1
          unfold Cm.Stands at T2
          unfold Cm.GetsNS at T4 T5
          dsimp only at T1 T2
          clear hR3
          go_wp2_with fail
          refine (K1.out _ (Below.refl _ _)).mono ?_
          rintro e w1 ⟨x1, y1, rfl, hr1, hb1⟩
          have HR1 := Lib.hid hr1
          have HC1 := Lib.hid hb1
          clear hr1 hb1
          go_wp2_with fail
          refine (K2.out _ HC1.out).mono ?_
          rintro e w2 ⟨x2, y2, rfl, hr2, hb2⟩
          have HR2 := Lib.hid hr2
          have HR1' := Lib.hid (HR1.out.later hb2)
          have HC2 := Lib.hid (step HC1.out hb2)
          clear hr2 hb2
          go_wp2_with fail
          refine (Cm.same_refl _ _ R _ HR1'.out HR2.out).mono ?_
          rintro e w3 ⟨rfl, hb3⟩
          have HC3 := Lib.hid (step HC2.out hb3)
          have HR3 := Lib.hid (HR2.out.later hb3)
          have HM3 := Lib.hid (HM.out.later HC3.out)
          have HB3 := Lib.hid (step HB.out HC3.out)
          clear hb3
          go_wp2_with fail
          refine (T1.out _ _ HM3.out).mono ?_
          rintro e wa ⟨rfl, hba⟩
          go_wp2_with fail
          refine (T2.out _ _ (HM3.out.later hba)).mono ?_
          rintro e wb ⟨rfl, rfl⟩
          have HCa := Lib.hid (step HB3.out hba)
          have HRa := Lib.hid (HM3.out.later hba)
          clear hba
          go_wp2_with fail
          refine (T3.out _ _ HRa.out).mono ?_
          rintro e wc ⟨rfl, hbc⟩
          have HCc := Lib.hid (step HCa.out hbc)
          have HRc := Lib.hid (HRa.out.later hbc)
          clear hbc
          go_wp2_with fail
          refine (T4.out _ _ HRc.out HCc.out).mono ?_
          rintro e wd ⟨da, dp, rfl, hud, hbd⟩
          have HCd := Lib.hid (step HCc.out hbd)
          have HRd := Lib.hid (HRc.out.later hbd)
          have HUd := Lib.hid hud
          clear hbd hud
          go_wp2_with fail
          refine (T5.out _ _ HRd.out HCd.out).mono ?_
          rintro e we ⟨ea, ep, rfl, hue, hbe⟩
          have HCe := Lib.hid (step HCd.out hbe)
          have HRe := Lib.hid (HRd.out.later hbe)
          have HUe := Lib.hid (HUd.out.later hbe)
          have HUe2 := Lib.hid hue
          clear hbe hue
          go_wp2_with fail
          refine (Cm.same_refl _ _ U _ HUe.out HUe2.out).mono ?_
          rintro e wf ⟨rfl, hbf⟩
          have HCf := Lib.hid (step HCe.out hbf)
          have HRf := Lib.hid (HRe.out.later hbf)
          clear hbf
          go_wp2
          go_roundw
          case rel => exact ⟨j + 1, M, _, _, by omega, by go_num, rfl, HRf, Lib.hid HR.out, HCf⟩
          case measure => simp [intOf]; omega
      · have K1 := Lib.hid (fun (w' : World) (hb : Below wr.heap.size wr w') => (Cm.LineLeave_any _ M gc w' (HM.out.later hb) (by omega)).mono fun e w' h => Cm.GetsL.s h)
        have K2 := Lib.hid (fun (w' : World) (hb : Below wr.heap.size wr w') => Cm.Ahead_any _ M gc w' (HM.out.later hb))
        have K3 := Lib.hid (fun (u : Value) (w' : World) (hb : Below wr.heap.size wr w') (hu : Cm.RdI w' u [gc]) => (Cm.Without_any _ u M [gc] w' (HM.out.later hb) hu (by omega)).mono fun e w' h => Cm.GetsN.s h)
        have HNR := Lib.hid (Cm.without_right M [gc] HR.out)
        have hh := Cm.aheadL_has M gc
        unfold Cm.leaveL at K1
        rw [← hh] at K1
        clear hh
        generalize Cm.withoutL M [gc] = R at K1 K3 HNR
        generalize Cm.aheadL M gc = ah at K1 K2
        obtain ⟨an, ab⟩ := ah
        unfold Cm.GetsLS at K1
        unfold Cm.Stands at K2
        unfold Cm.GetsNS at K3
        dsimp only at K1 K2
        have hR3 := ((Cm.rightL_iff R).1 HNR.out).1
        have T1 := Lib.hid (fun (v : Value) (w' : World) (h : Cm.RdI w' v R) => Cm.LineAhead_any v R gc w' h)
        have T2 := Lib.hid (fun (v : Value) (w' : World) (h : Cm.RdI w' v R) => Cm.Ahead_any v R gc w' h)
        have T3 := Lib.hid (fun (v : Value) (w' : World) (h : Cm.RdI w' v R) => Cm.LineRight_any v R w' h)
        rw [HNR.out] at T3
        have T4 := Lib.hid (fun (v : Value) (w' : World) (h : Cm.RdI w' v R) (hb : Below w.heap.size w w') => (Cm.LineWithout_any v _ R gone w' h (HGN.out.later hb) (by omega)).mono fun e w' h => Cm.GetsN.s h)
        have T5 := Lib.hid (fun (v : Value) (w' : World) (h : Cm.RdI w' v R) (hb : Below w.heap.size w w') => (Cm.Without_any v _ R gone w' h (HGN.out.later hb) (by omega)).mono fun e w' h => Cm.GetsN.s h)
        generalize Cm.aheadL R gc = fr at T1 T2
        obtain ⟨fn, fb⟩ := fr
        generalize Cm.withoutL R gone = U at T4 T5
        unfold Cm.StandsB at T1
        unfold Cm.Stands at T2
        unfold Cm.GetsNS at T4 T5
        dsimp only at T1 T2
        clear hR3
        go_wp2_with fail
        refine (K1.out _ (Below.refl _ _)).mono ?_
        rintro e w1 ⟨x1, y1, rfl, hr1, hb1⟩
        have HR1 := Lib.hid hr1
        have HC1 := Lib.hid hb1
        clear hr1 hb1
        go_wp2_with fail
        refine (K2.out _ HC1.out).mono ?_
        rintro e w2 ⟨rfl, rfl⟩
        go_wp2_with fail
        refine (K3.out _ _ (step HC1.out (newAlloc w2 (.cells #[.int .i64 gc] 3))) (Cm.lit1 w2 gc)).mono ?_
        rintro e w3 ⟨x3, y3, rfl, hr3, hb3⟩
        have hq := step (newAlloc w2 (.cells #[.int .i64 gc] 3)) hb3
        have HC3 := Lib.hid (step HC1.out hq)
        have HR3 := Lib.hid hr3
        have HR1' := Lib.hid (HR1.out.later hq)
        clear hq hr3 hb3
        go_wp2_with fail
        refine (Cm.same_refl _ _ R _ HR1'.out HR3.out).mono ?_
        rintro e w4 ⟨rfl, hb4⟩
        have HC4 := Lib.hid (step HC3.out hb4)
        clear hb4
        go_wp2_with fail
        refine (K3.out _ _ (step HC4.out (newAlloc w4 (.cells #[.int .i64 gc] 3))) (Cm.lit1 w4 gc)).mono ?_
        rintro e w5 ⟨x5, y5, rfl, hr5, hb5⟩
        have HC5 := Lib.hid (step HC4.out (step (newAlloc w4 (.cells #[.int .i64 gc] 3)) hb5))
        have HR5 := Lib.hid hr5
        have HB5 := Lib.hid (step HB.out HC5.out)
        clear hr5 hb5
        go_wp2_with fail
        refine (T1.out _ _ HR5.out).mono ?_
        rintro e wa ⟨rfl, hba⟩
        go_wp2_with fail
        refine (T2.out _ _ (HR5.out.later hba)).mono ?_
        rintro e wb ⟨rfl, rfl⟩
        have HCa := Lib.hid (step HB5.out hba)
        have HRa := Lib.hid (HR5.out.later hba)
        clear hba
        go_wp2_with fail
        refine (T3.out _ _ HRa.out).mono ?_
        rintro e wc ⟨rfl, hbc⟩
        have HCc := Lib.hid (step HCa.out hbc)
        have HRc := Lib.hid (HRa.out.later hbc)
        clear hbc
        go_wp2_with fail
        refine (T4.out _ _ HRc.out HCc.out).mono ?_
        rintro e wd ⟨da, dp, rfl, hud, hbd⟩
        have HCd := Lib.hid (step HCc.out hbd)
        have HRd := Lib.hid (HRc.out.later hbd)
        have HUd := Lib.hid hud
        clear hbd hud
        go_wp2_with fail
        refine (T5.out _ _ HRd.out HCd.out).mono ?_
        rintro e we ⟨ea, ep, rfl, hue, hbe⟩
        have HCe := Lib.hid (step HCd.out hbe)
        have HRe := Lib.hid (HRd.out.later hbe)
        have HUe := Lib.hid (HUd.out.later hbe)
        have HUe2 := Lib.hid hue
        clear hbe hue
        go_wp2_with fail
        refine (Cm.same_refl _ _ U _ HUe.out HUe2.out).mono ?_
        rintro e wf ⟨rfl, hbf⟩
        have HCf := Lib.hid (step HCe.out hbf)
        have HRf := Lib.hid (HRe.out.later hbf)
        clear hbf
        go_wp2
        go_roundw
        case rel => exact ⟨j + 1, R, _, _, by omega, by go_num, rfl, HRf, Lib.hid HNR.out, HCf⟩
        case measure => simp [intOf]; omega
      · have hx : (gd == 0) = false ∧ (gd == 1) = false := ⟨by simpa using g0, by simpa using g1⟩
        obtain ⟨d3, d4⟩ := hx
        clear g0 g1
        cases M with
        | nil =>
          have K1 := Lib.hid (fun (w' : World) (hb : Below wr.heap.size wr w') => (Cm.LineNext_any _ [] w' (HM.out.later hb) (by simp)).mono fun e w' h => Cm.GetsX.s h)
          unfold Cm.nextL Cm.GetsXS at K1
          dsimp only at K1
          simp only [List.length_nil] at K1 HM hM3 ⊢
          have hR3 := ((Cm.rightL_iff []).1 Cm.nil_right).1
          have T1 := Lib.hid (fun (v : Value) (w' : World) (h : Cm.RdI w' v []) => Cm.LineAhead_any v [] gc w' h)
          have T2 := Lib.hid (fun (v : Value) (w' : World) (h : Cm.RdI w' v []) => Cm.Ahead_any v [] gc w' h)
          have T3 := Lib.hid (fun (v : Value) (w' : World) (h : Cm.RdI w' v []) => Cm.LineRight_any v [] w' h)
          rw [Cm.nil_right] at T3
          have T4 := Lib.hid (fun (v : Value) (w' : World) (h : Cm.RdI w' v []) (hb : Below w.heap.size w w') => (Cm.LineWithout_any v _ [] gone w' h (HGN.out.later hb) (by omega)).mono fun e w' h => Cm.GetsN.s h)
          have T5 := Lib.hid (fun (v : Value) (w' : World) (h : Cm.RdI w' v []) (hb : Below w.heap.size w w') => (Cm.Without_any v _ [] gone w' h (HGN.out.later hb) (by omega)).mono fun e w' h => Cm.GetsN.s h)
          generalize Cm.aheadL [] gc = fr at T1 T2
          obtain ⟨fn, fb⟩ := fr
          generalize Cm.withoutL [] gone = U at T4 T5
          unfold Cm.StandsB at T1
          unfold Cm.Stands at T2
          unfold Cm.GetsNS at T4 T5
          dsimp only at T1 T2
          clear hR3
          go_wp2_with fail
          refine (K1.out _ (Below.refl _ _)).mono ?_
          rintro e w1 ⟨x1, y1, rfl, -, hb1⟩
          have HM1 := Lib.hid (HM.out.later hb1)
          have HB1 := Lib.hid (step HB.out hb1)
          clear hb1
          go_wp2_with fail
          refine (T1.out _ _ HM1.out).mono ?_
          rintro e wa ⟨rfl, hba⟩
          go_wp2_with fail
          refine (T2.out _ _ (HM1.out.later hba)).mono ?_
          rintro e wb ⟨rfl, rfl⟩
          have HCa := Lib.hid (step HB1.out hba)
          have HRa := Lib.hid (HM1.out.later hba)
          clear hba
          go_wp2_with fail
          refine (T3.out _ _ HRa.out).mono ?_
          rintro e wc ⟨rfl, hbc⟩
          have HCc := Lib.hid (step HCa.out hbc)
          have HRc := Lib.hid (HRa.out.later hbc)
          clear hbc
          go_wp2_with fail
          refine (T4.out _ _ HRc.out HCc.out).mono ?_
          rintro e wd ⟨da, dp, rfl, hud, hbd⟩
          have HCd := Lib.hid (step HCc.out hbd)
          have HRd := Lib.hid (HRc.out.later hbd)
          have HUd := Lib.hid hud
          clear hbd hud
          go_wp2_with fail
          refine (T5.out _ _ HRd.out HCd.out).mono ?_
          rintro e we ⟨ea, ep, rfl, hue, hbe⟩
          have HCe := Lib.hid (step HCd.out hbe)
          have HRe := Lib.hid (HRd.out.later hbe)
          have HUe := Lib.hid (HUd.out.later hbe)
          have HUe2 := Lib.hid hue
          clear hbe hue
          go_wp2_with fail
          refine (Cm.same_refl _ _ U _ HUe.out HUe2.out).mono ?_
          rintro e wf ⟨rfl, hbf⟩
          have HCf := Lib.hid (step HCe.out hbf)
          have HRf := Lib.hid (HRe.out.later hbf)
          clear hbf
          go_wp2
          go_roundw
          case rel => exact ⟨j + 1, [], _, _, by omega, by go_num, rfl, HRf, Lib.hid Cm.nil_right, HCf⟩
          case measure => simp [intOf]; omega
        | cons x t =>
          obtain ⟨N, hN⟩ : ∃ N, t.length = N := ⟨_, rfl⟩
          have HNN := Lib.hid hN
          have K1 := Lib.hid (fun (w' : World) (hb : Below wr.heap.size wr w') => (Cm.LineNext_any _ (x :: t) w' (HM.out.later hb) (by omega)).mono fun e w' h => Cm.GetsX.s h)
          unfold Cm.nextL Cm.GetsXS at K1
          dsimp only at K1
          have hcl : (x :: t).length = N + 1 := by rw [List.length_cons, hN]
          rw [hN] at K1
          rw [hcl] at HM K1 hM3 ⊢
          have HNR : Hid (Cm.rightL t = true) := Lib.hid (Cm.tail_right (x :: t) HR.out)
          have hcap : N + 1 ≤ mp := by
            obtain ⟨a', cap', hv, q1, q2, _⟩ := HM.out.ex
            cases hv
            rw [hcl] at q1
            exact q1
          obtain ⟨mb, mo, rfl, hx⟩ := Cm.rdi_at HM.out 0 (by simp)
          have HX := Lib.hid hx
          have hd := HM.out.drop (by omega) 1 (by omega)
          rw [List.drop_one, List.tail_cons] at hd
          clear hx hN hcl HR
          have hR3 := ((Cm.rightL_iff t).1 HNR.out).1
          have T1 := Lib.hid (fun (v : Value) (w' : World) (h : Cm.RdI w' v t) => Cm.LineAhead_any v t gc w' h)
          have T2 := Lib.hid (fun (v : Value) (w' : World) (h : Cm.RdI w' v t) => Cm.Ahead_any v t gc w' h)
          have T3 := Lib.hid (fun (v : Value) (w' : World) (h : Cm.RdI w' v t) => Cm.LineRight_any v t w' h)
          rw [HNR.out] at T3
          have T4 := Lib.hid (fun (v : Value) (w' : World) (h : Cm.RdI w' v t) (hb : Below w.heap.size w w') => (Cm.LineWithout_any v _ t gone w' h (HGN.out.later hb) (by omega)).mono fun e w' h => Cm.GetsN.s h)
          have T5 := Lib.hid (fun (v : Value) (w' : World) (h : Cm.RdI w' v t) (hb : Below w.heap.size w w') => (Cm.Without_any v _ t gone w' h (HGN.out.later hb) (by omega)).mono fun e w' h => Cm.GetsN.s h)
          generalize Cm.aheadL t gc = fr at T1 T2
          obtain ⟨fn, fb⟩ := fr
          generalize Cm.withoutL t gone = U at T4 T5
          unfold Cm.StandsB at T1
          unfold Cm.Stands at T2
          unfold Cm.GetsNS at T4 T5
          dsimp only at T1 T2
          clear hR3
          by_cases hmp : mp = 1
          · rw [if_pos hmp] at hd
            obtain rfl : N = 0 := by omega
            subst hmp
            have HD := Lib.hid hd
            simp only [Nat.sub_self, Nat.zero_add] at HD
            clear hd hcap
            simp only [Nat.zero_add] at K1 HM ⊢
            go_wp2_with fail
            refine (K1.out _ (Below.refl _ _)).mono ?_
            rintro e w1 ⟨x1, y1, rfl, hr1, hb1⟩
            have HD1 := Lib.hid (HD.out.later hb1)
            have HR1 := Lib.hid hr1
            have HB1 := Lib.hid (step HB.out hb1)
            have z0 := HX.out _ hb1
            simp only [List.getElem_cons_zero, Nat.add_zero] at z0
            clear hb1 hr1
            go_wp2_with fail
            refine (Cm.same_refl _ _ t _ HR1.out HD1.out).mono ?_
            rintro e w2 ⟨rfl, hb2⟩
            have HD2 := Lib.hid (HD1.out.later hb2)
            have HB2 := Lib.hid (step HB1.out hb2)
            clear hb2 z0
            go_wp2_with fail
            refine (T1.out _ _ HD2.out).mono ?_
            rintro e wa ⟨rfl, hba⟩
            go_wp2_with fail
            refine (T2.out _ _ (HD2.out.later hba)).mono ?_
            rintro e wb ⟨rfl, rfl⟩
            have HCa := Lib.hid (step HB2.out hba)
            have HRa := Lib.hid (HD2.out.later hba)
            clear hba
            go_wp2_with fail
            refine (T3.out _ _ HRa.out).mono ?_
            rintro e wc ⟨rfl, hbc⟩
            have HCc := Lib.hid (step HCa.out hbc)
            have HRc := Lib.hid (HRa.out.later hbc)
            clear hbc
            go_wp2_with fail
            refine (T4.out _ _ HRc.out HCc.out).mono ?_
            rintro e wd ⟨da, dp, rfl, hud, hbd⟩
            have HCd := Lib.hid (step HCc.out hbd)
            have HRd := Lib.hid (HRc.out.later hbd)
            have HUd := Lib.hid hud
            clear hbd hud
            go_wp2_with fail
            refine (T5.out _ _ HRd.out HCd.out).mono ?_
            rintro e we ⟨ea, ep, rfl, hue, hbe⟩
            have HCe := Lib.hid (step HCd.out hbe)
            have HRe := Lib.hid (HRd.out.later hbe)
            have HUe := Lib.hid (HUd.out.later hbe)
            have HUe2 := Lib.hid hue
            clear hbe hue
            go_wp2_with fail
            refine (Cm.same_refl _ _ U _ HUe.out HUe2.out).mono ?_
            rintro e wf ⟨rfl, hbf⟩
            have HCf := Lib.hid (step HCe.out hbf)
            have HRf := Lib.hid (HRe.out.later hbf)
            clear hbf
            go_wp2
            go_roundw
            case rel => exact ⟨j + 1, t, _, _, by omega, by go_num, by rw [HNN.out], by rw [HNN.out]; exact HRf, Lib.hid HNR.out, HCf⟩
            case measure => simp [intOf]; omega
          · rw [if_neg hmp] at hd
            have hadd : (⟨mb, mo, none⟩ : Addr).add (1 * 1) = ⟨mb, mo + 1, none⟩ := by unfold Addr.add; split <;> simp_all
            rw [Option.map_some, hadd] at hd
            have HD := Lib.hid hd
            simp only [Nat.add_sub_cancel] at HD
            have g2 : (1 : Int) ≤ (N : Int) + 1 := by omega
            have g3 : 1 ≤ N + 1 := by omega
            have g4 : (0 : Int) < (N : Int) + 1 := by omega
            have g5 : 0 < N + 1 := by omega
            clear hd hadd
            go_wp2_with fail
            refine (K1.out _ (Below.refl _ _)).mono ?_
            rintro e w1 ⟨x1, y1, rfl, hr1, hb1⟩
            have HD1 := Lib.hid (HD.out.later hb1)
            have HR1 := Lib.hid hr1
            have HB1 := Lib.hid (step HB.out hb1)
            have z0 := HX.out _ hb1
            simp only [List.getElem_cons_zero, Nat.add_zero] at z0
            clear hb1 hr1
            go_wp2_with fail
            refine (Cm.same_refl _ _ t _ HR1.out HD1.out).mono ?_
            rintro e w2 ⟨rfl, hb2⟩
            have HD2 := Lib.hid (HD1.out.later hb2)
            have HB2 := Lib.hid (step HB1.out hb2)
            clear hb2 z0
            go_wp2_with fail
            refine (T1.out _ _ HD2.out).mono ?_
            rintro e wa ⟨rfl, hba⟩
            go_wp2_with fail
            refine (T2.out _ _ (HD2.out.later hba)).mono ?_
            rintro e wb ⟨rfl, rfl⟩
            have HCa := Lib.hid (step HB2.out hba)
            have HRa := Lib.hid (HD2.out.later hba)
            clear hba
            go_wp2_with fail
            refine (T3.out _ _ HRa.out).mono ?_
            rintro e wc ⟨rfl, hbc⟩
            have HCc := Lib.hid (step HCa.out hbc)
            have HRc := Lib.hid (HRa.out.later hbc)
            clear hbc
            go_wp2_with fail
            refine (T4.out _ _ HRc.out HCc.out).mono ?_
            rintro e wd ⟨da, dp, rfl, hud, hbd⟩
            have HCd := Lib.hid (step HCc.out hbd)
            have HRd := Lib.hid (HRc.out.later hbd)
            have HUd := Lib.hid hud
            clear hbd hud
            go_wp2_with fail
            refine (T5.out _ _ HRd.out HCd.out).mono ?_
            rintro e we ⟨ea, ep, rfl, hue, hbe⟩
            have HCe := Lib.hid (step HCd.out hbe)
            have HRe := Lib.hid (HRd.out.later hbe)
            have HUe := Lib.hid (HUd.out.later hbe)
            have HUe2 := Lib.hid hue
            clear hbe hue
            go_wp2_with fail
            refine (Cm.same_refl _ _ U _ HUe.out HUe2.out).mono ?_
            rintro e wf ⟨rfl, hbf⟩
            have HCf := Lib.hid (step HCe.out hbf)
            have HRf := Lib.hid (HRe.out.later hbf)
            clear hbf
            go_wp2
            go_roundw
            case rel => exact ⟨j + 1, t, _, _, by omega, by go_num, by rw [HNN.out], by rw [HNN.out]; exact HRf, Lib.hid HNR.out, HCf⟩
            case measure => simp [intOf]; omega
    · obtain rfl : j = L := by omega
      go_wp2_with (go_at_call 8; refine (C0.out _).mono ?_; rintro e w4 ⟨rfl, hb4⟩)
      go_ret
      exact ⟨rfl, step HB.out hb4⟩

/-! ### THE ROW's STEP -/
set_option maxRecDepth 100000 in
theorem lifted (os : Os) (started : os.Started) (H : Type) (enc : TypeId × Value → H) :
    ReturnsInHanded {} Try.checked os 3 .any (Rows.lineRunsSpec.pre6 enc Try.prog Try.f3 Rows.lineRunsRow.domain false) (Rows.lineRunsSpec.post enc Try.prog Try.f3 false true false false) := by
  refine returnsInHanded_of_change (C := Try.checked) own started (by kernel_rfl) Try.func3
    (ChangeSpec.witness6 (enc := enc) (C := Try.checked) false ⟨#[], #[.slice none 0 0, .slice none 0 0], []⟩ 8 (by kernel_rfl) (by kernel_rfl) (by kernel_rfl) (by kernel_rfl)) ?_
  intro W base args ds gs before hval0 hW hcnd _
  have hval : ∀ (j : Nat) t v, Try.f3.params[j]? = some t → args[j]? = some v → Value.okWide Try.prog W .any base t v := hval0
  have hW' := hW
  obtain ⟨p, q, hA0, hV, rfl, hfz, hnd⟩ := hW
  have hA : DataW.TrodAll enc Try.prog W 0 (fun _ => true) true Try.f3.params.toList args.toList ds p := hA0
  rw [Try.params3] at hA hval
  obtain ⟨v0, vs0, d0, ds0, p0, q0, hargs, rfl, rfl, h0, r0⟩ := trodAll_cons hA
  obtain ⟨v1, vs1, d1, ds1, p1, q1, rfl, rfl, rfl, h1, r1⟩ := trodAll_cons r0
  obtain ⟨rfl, rfl, rfl⟩ := trodAll_nil r1
  obtain rfl : args = #[v0, v1] := by cases args; simp_all
  obtain ⟨rfl, rfl⟩ := trodVars_none hV
  have k0 := h0
  have lt0 : ∀ x ∈ p0, x.block < W.heap.size := by obtain ⟨m, hm⟩ := k0; exact DataW.trod_lt m _ _ _ hm
  obtain ⟨a0, rfl, w0⟩ := Cm.open_act2 (hval 0 22 v0 rfl rfl) h0
  have k1 := h1
  have lt1 : ∀ x ∈ p1, x.block < W.heap.size := by obtain ⟨m, hm⟩ := k1; exact DataW.trod_lt m _ _ _ hm
  obtain ⟨a1, rfl, w1⟩ := Cm.open_num (hval 1 23 v1 rfl rfl) h1
  clear hA0 hval0
  refine (walk a0 a1 W w0 w1).mono fun e W' ⟨he, bel⟩ => ?_
  subst he
  exact ⟨_, rfl, _, _, _, [], _, [], hW', trodAll_mk1 (shut_bool Try.underlying4 _), (trodAll_cons_mk (Below.trod laidOut (by kernel_rfl) (of_decide_eq_true (by kernel_rfl)) k0 bel lt0) (trodAll_cons_mk (Below.trod laidOut (by kernel_rfl) (of_decide_eq_true (by kernel_rfl)) k1 bel lt1) trodAll_mk0)), rfl, bel.frame _, fun h => by cases h⟩

theorem over : Rows.lineRunsRow.holds Try.pinned (OpenSpec.ofChange Rows.lineRunsSpec) :=
  OpenClaim.holds_of_wide 3 Try.f3 rfl rfl rfl rfl rfl rfl rfl ⟨rfl, rfl, rfl, rfl, rfl⟩ rfl rfl rfl rfl rfl (by kernel_rfl) Try.func3 (by kernel_rfl)
    (of_decide_eq_true (by kernel_rfl)) (by unfold Func.isWrapper; first | (rw [if_pos (by decide +kernel)]; kernel_rfl) | (rw [if_neg (by decide +kernel)]; exact ⟨rfl, rfl⟩))
    (fun os started H enc _ => lifted os started H enc)

/-- THE STATEMENT -/
theorem proved : Rows.LineRunsSaid := over
end Go.Proofs.Ytgpiaibklokhmaa.lineRuns
