/- PROVED: the statement AcceptRuns of layer 14: for every input that can be read, the law returns true and leaves its arguments as they were. No condition. -/
import Derived.Test.YtmodbbmdkealdaaRows
import Derived.Test.YtmodbbmdkealdaaV13
import Derived.WalkKit
import Derived.ProofKit
import Derived.OpenShut
import Derived.ShutString
import Derived.ChangeOld
import Derived.Below
import Derived.BigQuiet
import Derived.Lib.QuietBelow
import Derived.SizedLaws
import Derived.Deep.Cut
import Derived.Deep.CutBlock
import Derived.Deep.DeepCutAuto
namespace Go.Proofs.Ytmodbbmdkealdaa.acceptRuns
open Go.ChangeShapes Go.WideShapes Go.ChangeAt Go.RowKit
open Go.ChangeMaps (open_string shut_string)
open Go.Sort (grow)
set_option linter.unusedVariables false
set_option maxRecDepth 8000
set_option linter.unusedSimpArgs false

theorem own : ownKnob Try.prog.godebug = none := by kernel_rfl
theorem laidOut : laidOutB Try.prog = true := by kernel_rfl

/-! ### STEP 1: THE WALK -/
set_option maxRecDepth 100000 in
set_option maxHeartbeats 4000000 in
theorem walk (a0 : Ac.ActsC) (a1 : Cm.BatV × Value) (w : World) (w0 : Ac.actsOk w a0) (w1 : Cm.batOkA w a1) :
    Calls Try.prog 3 #[Ac.actsVal a0, Cm.batA a1] w fun e w' => e = .returned (.bool true) ∧ Below w.heap.size w w' := by
  obtain ⟨L, va⟩ := a0
  obtain ⟨hrow, hok⟩ := w0
  obtain ⟨R, rv⟩ := a1
  unfold Cm.batOkA at w1
  unfold Ac.actsVal Cm.batA
  dsimp only at hrow hok w1 ⊢
  obtain ⟨aa, ac, rfl⟩ := hrow.form
  obtain ⟨ra, rc, rfl⟩ := w1.form
  have hn := hrow.len
  have C0 := Lib.hid (fun w => Ac.awake14_ok w)
  have HAT := Lib.hid (fun i hi => Ac.acts_at hrow i hi)
  have HOK := Lib.hid hok
  have HRR := Lib.hid w1
  have HRLT : Hid (∀ k, (Value.slice ra R.reqs.length rc).ownBlock = some k → R.reqs ≠ [] → k < w.heap.size) := Lib.hid (Ac.RdX.blockLt w1 (fun x => by rw [Cm.cellsR_length]; omega))
  have CG := Lib.hid (fun W hb => Cm.Great_any R (.slice ra R.reqs.length rc) W (HRR.out.later hb))
  clear hrow hok w1
  obtain ⟨n, hn2⟩ : ∃ n, L.length = n := ⟨_, rfl⟩
  have HN := Lib.hid hn2
  rw [hn2] at hn ⊢
  clear hn2
  unfold Cm.batVal at CG ⊢
  have HB1' := Lib.hid (newAlloc w (.cells #[.bool R.fill, .int .i64 R.view, .int .i64 R.tv, .int .i64 R.ts, .int .i64 R.time, .slice ra R.reqs.length rc] 27))
  have hr1 := Cm.alloc_atB w (.cells #[.bool R.fill, .int .i64 R.view, .int .i64 R.tv, .int .i64 R.ts, .int .i64 R.time, .slice ra R.reqs.length rc] 27) _ rfl
  go_enter Try.func3, Try.ntmps3
  go_upto_region 1 with fail
  generalize w.alloc (.cells #[.bool R.fill, .int .i64 R.view, .int .i64 R.tv, .int .i64 R.ts, .int .i64 R.time, .slice ra R.reqs.length rc] 27) = W1 at HB1' hr1 ⊢
  obtain ⟨pr, hpr⟩ : ∃ pr, w.heap.size = pr := ⟨_, rfl⟩
  rw [hpr] at hr1 ⊢
  have HPRL : Hid (pr < W1.heap.size) := Lib.hid (Cm.get_ltB hr1)
  have HR1 := Lib.hid hr1
  have HPW := Lib.hid hpr
  have HB1 : Hid (Below w.heap.size w W1) := HB1'
  clear hr1 hpr HB1'
  have r0 := Cm.cell_at HR1.out 0
  have r1 := Cm.cell_at HR1.out 1
  have r2 := Cm.cell_at HR1.out 2
  have r3 := Cm.cell_at HR1.out 3
  have r4 := Cm.cell_at HR1.out 4
  have r5 := Cm.cell_at HR1.out 5
  simp at r0 r1 r2 r3 r4 r5
  by_cases h60 : 60 < n
  · go_wp2_with (go_at_call 9; refine (C0.out _).mono ?_; rintro e w8 ⟨rfl, hb⟩; have HB8 := Lib.hid (step HB1.out hb); clear hb)
    go_ret
    exact ⟨rfl, HB8.out⟩
  have hgr := CG.out W1 HB1.out
  cases hGB : Cm.greatB R
  case true =>
    rw [hGB] at hgr
    have CGW := Lib.hid hgr
    clear hgr
    go_wp2_with (first
      | (go_at_call 8; refine CGW.out.mono ?_; rintro e w2 ⟨rfl, hb⟩; have HB2 := Lib.hid (step HB1.out hb); clear hb)
      | (go_at_call 9; refine (C0.out _).mono ?_; rintro e w8 ⟨rfl, hb⟩; have HB8 := Lib.hid (step HB2.out hb); clear hb))
    go_ret
    exact ⟨rfl, HB8.out⟩
  rw [hGB] at hgr
  have CGW := Lib.hid hgr
  clear hgr hGB
  go_upto_region 3 with (go_at_call 8; refine CGW.out.mono ?_; rintro e W2 ⟨rfl, hb⟩; have HB2 := Lib.hid (step HB1.out hb); have HR2 := Lib.hid (Cm.cells_later HR1.out hb); have HRR2 := Lib.hid (HRR.out.later (step HB1.out hb)); clear hb)
  clear r0 r1 r2 r3 r4 r5 CGW CG HB1 HR1 HRR HPRL
  have CN := Lib.hid (Ac.New_any W2)
  have hw1 := newAlloc W2 (.cells (Ac.accCells 0 0 (List.replicate 9 Ac.zeroC)) 62)
  have hx1 := Cm.alloc_atB W2 (.cells (Ac.accCells 0 0 (List.replicate 9 Ac.zeroC)) 62) _ rfl
  have hs1 : (W2.alloc (.cells (Ac.accCells 0 0 (List.replicate 9 Ac.zeroC)) 62)).heap.size = W2.heap.size + 1 := by simp
  obtain ⟨g1, hg1⟩ : ∃ g1, W2.heap.size = g1 := ⟨_, rfl⟩
  have HFR : Hid (∀ k, (Value.slice ra R.reqs.length rc).ownBlock = some k → R.reqs ≠ [] → k ≠ g1 + 1 ∧ k ≠ g1) := Lib.hid fun k hk hl => by
    have := HRLT.out k hk hl
    have := HB2.out.size
    omega
  rw [hg1] at CN hx1 hs1
  have hg2 : W2.heap.size ≤ g1 := by omega
  have HG2 := Lib.hid hg2
  have HGE := Lib.hid hg1
  clear hg1 hg2
  go_wp2_with fail
  refine CN.out.mono ?_
  rintro e w3 ⟨rfl, hw3⟩
  rw [← hw3] at hw1 hx1 hs1
  have HW3 := Lib.hid hw1
  have HX3 := Lib.hid hx1
  have HS3 := Lib.hid hs1
  clear hw3 hw1 hx1 hs1 CN
  go_upto_region 4 with fail
  have HX4 := Lib.hid (Cm.cells_later HX3.out (newAlloc w3 (.cells #[.int .i64 0, .int .i64 0, .slice none 0 0] 35)))
  have HY4 : Hid ((w3.alloc (.cells #[.int .i64 0, .int .i64 0, .slice none 0 0] 35)).heap[g1 + 1]? = _) := Lib.hid (Cm.alloc_atB w3 (.cells #[.int .i64 0, .int .i64 0, .slice none 0 0] 35) _ HS3.out)
  have HD4 := Lib.hid (stepAlloc HW3.out (.cells #[.int .i64 0, .int .i64 0, .slice none 0 0] 35))
  have hs4 : (w3.alloc (.cells #[.int .i64 0, .int .i64 0, .slice none 0 0] 35)).heap.size = w3.heap.size + 1 := by simp
  rw [HS3.out] at hs4
  try rw [HS3.out]
  generalize w3.alloc (.cells #[.int .i64 0, .int .i64 0, .slice none 0 0] 35) = W4 at HX4 HY4 HD4 hs4 ⊢
  have HA4 : Hid (Ac.HasA W4 g1 (g1 + 2) Ac.newA) := Lib.hid (Ac.HasA.new HX4.out (by omega) (by omega))
  have HW4 : Hid (Ac.HasW W4 g1 (g1 + 1) (g1 + 2) Ac.newA) := Lib.hid (Ac.HasW.new HY4.out (by omega) (by omega) (by omega))
  clear HX4 HY4 hs4 HX3 HS3 HW3
  have HQC : Hid (∀ (V V' : World) (g : Nat), V.grownBy V' (some g) → True) := Lib.hid (fun _ _ _ _ => trivial)
  clear HQC
  go_upto_region 7 with fail
  go_loopw [7, 8, 9] (fun i _ _ wr => ∃ (I : Nat) (st : Ac.AccV), I ≤ n ∧ i = .int .i64 (I : Int) ∧ Hid (Ac.Good st) ∧ Hid (Ac.HasA wr g1 (g1 + 2) st) ∧ Hid (Ac.HasW wr g1 (g1 + 1) (g1 + 2) st) ∧ Hid (Below W2.heap.size W2 wr)) (fun i _ _ _ => n - (intOf i).toNat)
  case atStart => exact ⟨0, Ac.newA, by omega, rfl, Lib.hid Ac.newA_good, HA4, HW4, HD4⟩
  case round =>
    obtain ⟨I, st, hI, rfl, HGS, HAR, HWR, HDR⟩ := hrel
    by_cases hlt : I < n
    · have hil : I < L.length := by rw [HN.out]; exact hlt
      obtain ⟨b, o, rfl, hc⟩ := HAT.out I hil
      obtain ⟨q0, q1, q2, q3⟩ := hc _ (step HB2.out HDR.out)
      have hox := HOK.out L[I] (List.getElem_mem hil)
      clear hc HAT HOK
      generalize L[I] = x at q0 q1 q2 q3 hox
      obtain ⟨xd, xb, xs, ns, na, nc⟩ := x
      unfold Ac.ActC.u at q3
      dsimp only at q0 q1 q2 q3
      have CBT := Lib.hid (fun (W : World) (hb : Below w.heap.size w W) => Cm.Batch_F (.slice na ns.length nc) ns W (hox.1.later hb) (by have h2 : ns.length ≤ 140737488355328 := hox.2; omega))
      clear hox
      have HA2' := Lib.hid (HAR.out.later (newAlloc wr (.cells #[.int .i64 xd, .int .i64 xb, .int .i64 xs, .slice na ns.length nc] 38)))
      have HW2' := Lib.hid (HWR.out.later (newAlloc wr (.cells #[.int .i64 xd, .int .i64 xb, .int .i64 xs, .slice na ns.length nc] 38)))
      have HD2' := Lib.hid (stepAlloc HDR.out (.cells #[.int .i64 xd, .int .i64 xb, .int .i64 xs, .slice na ns.length nc] 38))
      have HX2' := Lib.hid (Cm.alloc_atB wr (.cells #[.int .i64 xd, .int .i64 xb, .int .i64 xs, .slice na ns.length nc] 38) _ rfl)
      go_upto_region 10 with fail
      generalize wr.alloc (.cells #[.int .i64 xd, .int .i64 xb, .int .i64 xs, .slice na ns.length nc] 38) = Wa at HA2' HW2' HD2' HX2' ⊢
      have HPG : Hid (g1 + 1 < wr.heap.size) := Lib.hid HWR.out.lt
      generalize wr.heap.size = px at HX2' HPG ⊢
      have HAa := HA2'
      have HWa := HW2'
      have HDa := HD2'
      have HXa := HX2'
      clear HA2' HW2' HD2' HX2' q0 q1 q2 q3 HAR HWR HDR
      have p0 := Cm.cell_at HXa.out 0
      have p1 := Cm.cell_at HXa.out 1
      have p2 := Cm.cell_at HXa.out 2
      have p3 := Cm.cell_at HXa.out 3
      simp at p0 p1 p2 p3
      go_wp2_with fail
      refine (CBT.out _ (step HB2.out HDa.out)).mono ?_
      intro e Wb hmb
      obtain ⟨u, rfl, -, ho, hb⟩ := hmb.out
      obtain ⟨ua, uc, hu⟩ := Rw.own_form ho
      subst hu
      generalize Cm.batchF ns = Q at ho ⊢
      obtain ⟨Qf, Qv, Qt, Qs, Qm, Ql⟩ := Q
      unfold Cm.batVal
      dsimp only at ho ⊢
      have HAb := Lib.hid (HAa.out.later hb)
      have HWb := Lib.hid (HWa.out.later hb)
      have HDb := Lib.hid (step HDa.out hb)
      have HXb := Lib.hid (Cm.cells_later HXa.out hb)
      have HRb := Lib.hid (RdX.own Cm.cellsR_length ho)
      have HFb : Hid (∀ k, (Value.slice ua Ql.length uc).ownBlock = some k → Ql ≠ [] → k ≠ g1 + 1 ∧ k ≠ g1) := Lib.hid fun k hk _ => by
        have := (Rw.own_lt ho k hk).1
        have := HAa.out.mw
        omega
      clear hmb ho hb p0 p1 p2 p3 HAa HWa HDa HXa CBT
      obtain ⟨pb, hpb⟩ : ∃ pb, Wb.heap.size = pb := ⟨_, rfl⟩
      go_upto_region 11 with fail
      have hq := Cm.alloc_atB Wb (.cells #[.bool Qf, .int .i64 Qv, .int .i64 Qt, .int .i64 Qs, .int .i64 Qm, .slice ua Ql.length uc] 27) _ hpb
      have hbq := newAlloc Wb (.cells #[.bool Qf, .int .i64 Qv, .int .i64 Qt, .int .i64 Qs, .int .i64 Qm, .slice ua Ql.length uc] 27)
      have hpgb : px < pb := by rw [← hpb]; exact Cm.get_ltB HXb.out
      try rw [hpb]
      generalize Wb.alloc (.cells #[.bool Qf, .int .i64 Qv, .int .i64 Qt, .int .i64 Qs, .int .i64 Qm, .slice ua Ql.length uc] 27) = Wc at hq hbq ⊢
      have HQ := Lib.hid hq
      have HBQ := Lib.hid hbq
      have HPBE := Lib.hid hpb
      clear hq hbq hpb
      have hxc := Cm.cells_later HXb.out HBQ.out
      have p0 := Cm.cell_at hxc 0
      have p1 := Cm.cell_at hxc 1
      have p2 := Cm.cell_at hxc 2
      have p3 := Cm.cell_at hxc 3
      simp at p0 p1 p2 p3
      clear hxc
      obtain ⟨nl, hnl⟩ : ∃ nl, ns.length = nl := ⟨_, rfl⟩
      rw [hnl] at p3
      have HNL := Lib.hid hnl
      clear hnl
      go_upto_if 39 with fail
      go_cut [] from 40 to 40 (fun wc => ∃ (bf : Bool) (bv bt bs bm : Int) (bl : List Cm.ReqV) (ba : Option Addr) (bc : Nat), Hid (wc.heap[pb]? = some (.cells #[.bool bf, .int .i64 bv, .int .i64 bt, .int .i64 bs, .int .i64 bm, .slice ba bl.length bc] 27)) ∧ Hid (Cm.RdR wc (.slice ba bl.length bc) bl) ∧ Hid (∀ k, (Value.slice ba bl.length bc).ownBlock = some k → bl ≠ [] → k ≠ g1 + 1 ∧ k ≠ g1) ∧ Hid (Ac.HasA wc g1 (g1 + 2) st) ∧ Hid (Ac.HasW wc g1 (g1 + 1) (g1 + 2) st) ∧ Hid (Below W2.heap.size W2 wc) ∧ Hid (wc.heap[px]? = some (.cells #[.int .i64 xd, .int .i64 xb, .int .i64 xs, .slice na ns.length nc] 38)))
      case first =>
        by_cases hz : nl = 0
        · subst hz
          have hr := Cm.cells_later HR2.out (step HDb.out HBQ.out)
          have r0 := Cm.cell_at hr 0
          have r1 := Cm.cell_at hr 1
          have r2 := Cm.cell_at hr 2
          have r3 := Cm.cell_at hr 3
          have r4 := Cm.cell_at hr 4
          have r5 := Cm.cell_at hr 5
          have b0 := Cm.cell_at HQ.out 0
          have b1 := Cm.cell_at HQ.out 1
          have b2 := Cm.cell_at HQ.out 2
          have b3 := Cm.cell_at HQ.out 3
          have b4 := Cm.cell_at HQ.out 4
          have b5 := Cm.cell_at HQ.out 5
          have bfz := Cm.frozen_at HQ.out
          simp at r0 r1 r2 r3 r4 r5 b0 b1 b2 b3 b4 b5
          clear hr
          have hle : Wb.heap.size ≤ pb := by rw [HPBE.out]; exact Nat.le_refl _
          have hch : Below Wb.heap.size Wb ((((((Wc.setCell ⟨pb, 0, none⟩ (.bool R.fill)).setCell ⟨pb, 1, none⟩ (.int .i64 R.view)).setCell ⟨pb, 2, none⟩ (.int .i64 R.tv)).setCell ⟨pb, 3, none⟩ (.int .i64 R.ts)).setCell ⟨pb, 4, none⟩ (.int .i64 R.time)).setCell ⟨pb, 5, none⟩ (.slice ra R.reqs.length rc)) := (((((HBQ.out.setCell (p := ⟨pb, 0, none⟩) hle _).setCell (p := ⟨pb, 1, none⟩) hle _).setCell (p := ⟨pb, 2, none⟩) hle _).setCell (p := ⟨pb, 3, none⟩) hle _).setCell (p := ⟨pb, 4, none⟩) hle _).setCell (p := ⟨pb, 5, none⟩) hle _
          have hcq : ((((((Wc.setCell ⟨pb, 0, none⟩ (.bool R.fill)).setCell ⟨pb, 1, none⟩ (.int .i64 R.view)).setCell ⟨pb, 2, none⟩ (.int .i64 R.tv)).setCell ⟨pb, 3, none⟩ (.int .i64 R.ts)).setCell ⟨pb, 4, none⟩ (.int .i64 R.time)).setCell ⟨pb, 5, none⟩ (.slice ra R.reqs.length rc)).heap[pb]? = some (.cells #[.bool R.fill, .int .i64 R.view, .int .i64 R.tv, .int .i64 R.ts, .int .i64 R.time, .slice ra R.reqs.length rc] 27) := by rw [Cm.set_atB (Cm.set_atB (Cm.set_atB (Cm.set_atB (Cm.set_atB (Cm.set_atB HQ.out _ _) _ _) _ _) _ _) _ _) _ _]; rfl
          have HCH := Lib.hid hch
          have HCQ := Lib.hid hcq
          clear hch hcq hle
          go_wp2
          go_meet
          exact ⟨R.fill, R.view, R.tv, R.ts, R.time, R.reqs, ra, rc, HCQ, Lib.hid (HRR2.out.later (step HDb.out HCH.out)), HFR, Lib.hid (HAb.out.later HCH.out), Lib.hid (HWb.out.later HCH.out), Lib.hid (step HDb.out HCH.out), Lib.hid (Cm.cells_later HXb.out HCH.out)⟩
        · have z1 : ((nl : Int) == 0) = false := by simp; omega
          have z2 : (nl == 0) = false := by simp; omega
          go_wp2_with fail
          go_meet
          exact ⟨Qf, Qv, Qt, Qs, Qm, Ql, ua, uc, HQ, Lib.hid (HRb.out.later HBQ.out), HFb, Lib.hid (HAb.out.later HBQ.out), Lib.hid (HWb.out.later HBQ.out), Lib.hid (step HDb.out HBQ.out), Lib.hid (Cm.cells_later HXb.out HBQ.out)⟩
      case rest =>
        obtain ⟨bf, bv, bt, bs, bm, bl, ba, bc, HQ5, HRQ, HFB, HA5, HW5, HD5, HX5⟩ := hcut
        clear HQ HBQ HPBE HAb HWb HDb HXb HRb HFb p0 p1 p2 p3 HNL
        obtain ⟨W5, hW5⟩ : ∃ W5, W5 = wc := ⟨_, rfl⟩
        rw [← hW5] at HQ5 HRQ HA5 HW5 HD5 HX5 ⊢
        clear hW5
        have hpg := HPG.out
        have HPQ : Hid (∀ W, Below W5.heap.size W5 W → W.cell? ⟨px, 1, none⟩ = some (.int .i64 xb) ∧ W.cell? ⟨px, 2, none⟩ = some (.int .i64 xs) ∧ W.cell? ⟨pb, 0, none⟩ = some (.bool bf) ∧ W.cell? ⟨pb, 1, none⟩ = some (.int .i64 bv) ∧ W.cell? ⟨pb, 2, none⟩ = some (.int .i64 bt) ∧ W.cell? ⟨pb, 3, none⟩ = some (.int .i64 bs) ∧ W.cell? ⟨pb, 4, none⟩ = some (.int .i64 bm) ∧ W.cell? ⟨pb, 5, none⟩ = some (.slice ba bl.length bc)) := Lib.hid fun W hb => by
          have h := Cm.cells_later HX5.out hb
          have h2 := Cm.cells_later HQ5.out hb
          exact ⟨Cm.cell_at h 1, Cm.cell_at h 2, Cm.cell_at h2 0, Cm.cell_at h2 1, Cm.cell_at h2 2, Cm.cell_at h2 3, Cm.cell_at h2 4, Cm.cell_at h2 5⟩
        have HQC : Hid (∀ (V V' : World) (k : Nat), V.grownBy V' (some k) → k < px → k < pb → (V.cell? ⟨px, 1, none⟩ = some (.int .i64 xb) ∧ V.cell? ⟨px, 2, none⟩ = some (.int .i64 xs) ∧ V.cell? ⟨pb, 0, none⟩ = some (.bool bf) ∧ V.cell? ⟨pb, 1, none⟩ = some (.int .i64 bv) ∧ V.cell? ⟨pb, 2, none⟩ = some (.int .i64 bt) ∧ V.cell? ⟨pb, 3, none⟩ = some (.int .i64 bs) ∧ V.cell? ⟨pb, 4, none⟩ = some (.int .i64 bm) ∧ V.cell? ⟨pb, 5, none⟩ = some (.slice ba bl.length bc)) → V'.cell? ⟨px, 1, none⟩ = some (.int .i64 xb) ∧ V'.cell? ⟨px, 2, none⟩ = some (.int .i64 xs) ∧ V'.cell? ⟨pb, 0, none⟩ = some (.bool bf) ∧ V'.cell? ⟨pb, 1, none⟩ = some (.int .i64 bv) ∧ V'.cell? ⟨pb, 2, none⟩ = some (.int .i64 bt) ∧ V'.cell? ⟨pb, 3, none⟩ = some (.int .i64 bs) ∧ V'.cell? ⟨pb, 4, none⟩ = some (.int .i64 bm) ∧ V'.cell? ⟨pb, 5, none⟩ = some (.slice ba bl.length bc)) := Lib.hid fun V V' k hg h1 h2 h => by
          obtain ⟨x1, x2, y0, y1, y2, y3, y4, y5⟩ := h
          have n1 : some px ≠ some k := fun q => by injection q with q; omega
          have n2 : some pb ≠ some k := fun q => by injection q with q; omega
          exact ⟨hg.cell x1 n1, hg.cell x2 n1, hg.cell y0 n2, hg.cell y1 n2, hg.cell y2 n2, hg.cell y3 n2, hg.cell y4 n2, hg.cell y5 n2⟩
        have p0 := Cm.cell_at HX5.out 0
        have p1 := Cm.cell_at HX5.out 1
        have p2 := Cm.cell_at HX5.out 2
        simp at p0 p1 p2
        go_upto_block 2 with fail
        go_cut [] from 43 to 78 (fun wc => ∃ st' : Ac.AccV, Hid (Ac.Good st') ∧ Hid (Ac.HasA wc g1 (g1 + 2) st') ∧ Hid (Ac.HasW wc g1 (g1 + 1) (g1 + 2) st') ∧ Hid (Below W2.heap.size W2 wc))
        case first =>
          by_cases h0 : xd = 0
          · subst h0
            go_upto_region 17 with fail
            clear p0 p1 p2
            refine wp_region_held_drew (S := (fun W => W.cell? ⟨px, 1, none⟩ = some (.int .i64 xb) ∧ W.cell? ⟨px, 2, none⟩ = some (.int .i64 xs) ∧ W.cell? ⟨pb, 0, none⟩ = some (.bool bf) ∧ W.cell? ⟨pb, 1, none⟩ = some (.int .i64 bv) ∧ W.cell? ⟨pb, 2, none⟩ = some (.int .i64 bt) ∧ W.cell? ⟨pb, 3, none⟩ = some (.int .i64 bs) ∧ W.cell? ⟨pb, 4, none⟩ = some (.int .i64 bm) ∧ W.cell? ⟨pb, 5, none⟩ = some (.slice ba bl.length bc))) (by kernel_rfl) (HPQ.out _ (Below.refl _ _).drew) (fun hHeld => ?_)
            obtain ⟨V, hV⟩ : ∃ V, V = W5.drew := ⟨_, rfl⟩
            have HBV : Hid (Below W5.heap.size W5 V) := Lib.hid (by rw [hV]; exact (Below.refl _ _).drew)
            have HSV : Hid (Ac.HasA V g1 (g1 + 2) st) := Lib.hid (HA5.out.later HBV.out)
            have HWV : Hid (Ac.HasW V g1 (g1 + 1) (g1 + 2) st) := Lib.hid (HW5.out.later HBV.out)
            have HDV : Hid (Below W2.heap.size W2 V) := Lib.hid (step HD5.out HBV.out)
            rw [← hV] at hHeld ⊢
            clear hV
            refine wpAnyH_take (i := 0) (v := ?_) rfl (by kernel_rfl) (by kernel_rfl) (by kernel_rfl) (fun _ _ _ h => h) (Or.inl ⟨by rfl, ?_⟩) (by assumption) ?_
            rotate_left
            · intro w hSw; (try dsimp only at hSw); go_simp <;> with_reducible rfl
            try simp only [Act.put, List.getElem_toArray, List.getElem_cons_zero, List.setIfInBounds_toArray, List.set_cons_zero, List.set_cons_succ]
            refine wpAnyH_take (i := 1) (v := ?_) rfl (by kernel_rfl) (by kernel_rfl) (by kernel_rfl) (fun _ _ _ h => h) (Or.inl ⟨by rfl, ?_⟩) (by assumption) ?_
            rotate_left
            · intro w hSw; (try dsimp only at hSw); go_simp <;> with_reducible rfl
            try simp only [Act.put, List.getElem_toArray, List.getElem_cons_succ, List.getElem_cons_zero, List.setIfInBounds_toArray, List.set_cons_zero, List.set_cons_succ]
            refine wpAnyH_take (i := 2) (v := ?_) rfl (by kernel_rfl) (by kernel_rfl) (by kernel_rfl) (fun _ _ _ h => h) (Or.inl ⟨by rfl, ?_⟩) (by assumption) ?_
            rotate_left
            · intro w hSw; (try dsimp only at hSw); go_simp <;> with_reducible rfl
            try simp only [Act.put, List.getElem_toArray, List.getElem_cons_succ, List.getElem_cons_zero, List.setIfInBounds_toArray, List.set_cons_zero, List.set_cons_succ]
            refine wpAnyH_take (i := 4) (v := ?_) rfl (by kernel_rfl) (by kernel_rfl) (by kernel_rfl) (fun _ _ _ h => h) (Or.inl ⟨by rfl, ?_⟩) (by assumption) ?_
            rotate_left
            · intro w hSw; (try dsimp only at hSw); go_simp <;> with_reducible rfl
            try simp only [Act.put, List.getElem_toArray, List.getElem_cons_succ, List.getElem_cons_zero, List.setIfInBounds_toArray, List.set_cons_zero, List.set_cons_succ]
            refine wpAnyH_take (i := 5) (v := ?_) rfl (by kernel_rfl) (by kernel_rfl) (by kernel_rfl) (fun _ _ _ h => h) (Or.inl ⟨by rfl, ?_⟩) (by assumption) ?_
            rotate_left
            · intro w hSw; (try dsimp only at hSw); go_simp <;> with_reducible rfl
            try simp only [Act.put, List.getElem_toArray, List.getElem_cons_succ, List.getElem_cons_zero, List.setIfInBounds_toArray, List.set_cons_zero, List.set_cons_succ]
            refine wpAnyH_take (i := 6) (v := ?_) rfl (by kernel_rfl) (by kernel_rfl) (by kernel_rfl) (fun _ _ _ h => h) (Or.inl ⟨by rfl, ?_⟩) (by assumption) ?_
            rotate_left
            · intro w hSw; (try dsimp only at hSw); go_simp <;> with_reducible rfl
            try simp only [Act.put, List.getElem_toArray, List.getElem_cons_succ, List.getElem_cons_zero, List.setIfInBounds_toArray, List.set_cons_zero, List.set_cons_succ]
            refine wpAnyH_ready (rs := [3]) (by kernel_rfl) (by simp) ?_
            refine AllReadyH.cons rfl (fun K hK => ?_) AllReadyH.nil
            go_simp
            have CX := Lib.hid (Ac.Promise_any g1 (g1 + 2) st xb V HSV.out)
            go_at_call 12
            refine CX.out.mono ?_
            rintro e VX ⟨rfl, ha, hg⟩
            have HSx := Lib.hid ha
            have HWx := Lib.hid (HWV.out.other hg (by omega))
            have HDx := Lib.hid (Ac.step_gr HDV.out hg HG2.out HDV.out.size)
            have HQx := Lib.hid (HQC.out V VX g1 hg (by omega) (by omega) hHeld)
            clear ha hg CX
            refine hK.out _ _ HQx.out (fun hHeld => ?_)
            clear hK K
            try simp only [Act.put, List.getElem_toArray, List.getElem_cons_succ, List.getElem_cons_zero, List.setIfInBounds_toArray, List.set_cons_zero, List.set_cons_succ]
            refine wpAnyH_ready (rs := [7]) (by kernel_rfl) (by simp) ?_
            refine AllReadyH.cons rfl (fun K hK => ?_) AllReadyH.nil
            go_simp
            have CX := Lib.hid (Ac.RefPromise_any g1 (g1 + 1) (g1 + 2) st xb VX HWx.out)
            go_at_call 13
            refine CX.out.mono ?_
            rintro e VY ⟨rfl, ha, hg⟩
            have HWy := Lib.hid ha
            have HSy := Lib.hid (HSx.out.other hg (by omega) (by omega))
            have HDy := Lib.hid (Ac.step_gr HDx.out hg (Nat.le_trans HG2.out (Nat.le_succ _)) HDx.out.size)
            have HQy := Lib.hid (HQC.out VX VY (g1 + 1) hg (by omega) (by omega) hHeld)
            clear ha hg CX
            refine hK.out _ _ HQy.out (fun hHeld => ?_)
            clear hK K
            try simp only [Act.put, List.getElem_toArray, List.getElem_cons_succ, List.getElem_cons_zero, List.setIfInBounds_toArray, List.set_cons_zero, List.set_cons_succ]
            refine wpAnyH_take (i := 8) (v := ?_) rfl (by kernel_rfl) (by kernel_rfl) (by kernel_rfl) (fun _ _ _ h => h) (Or.inl ⟨by rfl, ?_⟩) (by assumption) ?_
            rotate_left
            · intro w hSw; (try dsimp only at hSw); go_simp <;> with_reducible rfl
            try simp only [Act.put, List.getElem_toArray, List.getElem_cons_succ, List.getElem_cons_zero, List.setIfInBounds_toArray, List.set_cons_zero, List.set_cons_succ]
            refine wpAnyH_done (by kernel_rfl) ?_ _
            go_wp2_with fail
            go_meet
            exact ⟨(Ac.promF st xb).1, Lib.hid (HGS.out.prom xb), HSy, HWy, HDy⟩
          have d0 : (xd == 0) = false := by simpa using h0
          by_cases h1 : xd = 1
          · subst h1
            go_upto_region 20 with fail
            clear p0 p1 p2
            refine wp_region_held_drew (S := (fun W => W.cell? ⟨px, 1, none⟩ = some (.int .i64 xb) ∧ W.cell? ⟨px, 2, none⟩ = some (.int .i64 xs) ∧ W.cell? ⟨pb, 0, none⟩ = some (.bool bf) ∧ W.cell? ⟨pb, 1, none⟩ = some (.int .i64 bv) ∧ W.cell? ⟨pb, 2, none⟩ = some (.int .i64 bt) ∧ W.cell? ⟨pb, 3, none⟩ = some (.int .i64 bs) ∧ W.cell? ⟨pb, 4, none⟩ = some (.int .i64 bm) ∧ W.cell? ⟨pb, 5, none⟩ = some (.slice ba bl.length bc))) (by kernel_rfl) (HPQ.out _ (Below.refl _ _).drew) (fun hHeld => ?_)
            obtain ⟨V, hV⟩ : ∃ V, V = W5.drew := ⟨_, rfl⟩
            have HBV : Hid (Below W5.heap.size W5 V) := Lib.hid (by rw [hV]; exact (Below.refl _ _).drew)
            have HSV : Hid (Ac.HasA V g1 (g1 + 2) st) := Lib.hid (HA5.out.later HBV.out)
            have HWV : Hid (Ac.HasW V g1 (g1 + 1) (g1 + 2) st) := Lib.hid (HW5.out.later HBV.out)
            have HDV : Hid (Below W2.heap.size W2 V) := Lib.hid (step HD5.out HBV.out)
            rw [← hV] at hHeld ⊢
            clear hV
            refine wpAnyH_take (i := 0) (v := ?_) rfl (by kernel_rfl) (by kernel_rfl) (by kernel_rfl) (fun _ _ _ h => h) (Or.inl ⟨by rfl, ?_⟩) (by assumption) ?_
            rotate_left
            · intro w hSw; (try dsimp only at hSw); go_simp <;> with_reducible rfl
            try simp only [Act.put, List.getElem_toArray, List.getElem_cons_zero, List.setIfInBounds_toArray, List.set_cons_zero, List.set_cons_succ]
            refine wpAnyH_take (i := 1) (v := ?_) rfl (by kernel_rfl) (by kernel_rfl) (by kernel_rfl) (fun _ _ _ h => h) (Or.inl ⟨by rfl, ?_⟩) (by assumption) ?_
            rotate_left
            · intro w hSw; (try dsimp only at hSw); go_simp <;> with_reducible rfl
            try simp only [Act.put, List.getElem_toArray, List.getElem_cons_succ, List.getElem_cons_zero, List.setIfInBounds_toArray, List.set_cons_zero, List.set_cons_succ]
            refine wpAnyH_take (i := 2) (v := ?_) rfl (by kernel_rfl) (by kernel_rfl) (by kernel_rfl) (fun _ _ _ h => h) (Or.inl ⟨by rfl, ?_⟩) (by assumption) ?_
            rotate_left
            · intro w hSw; (try dsimp only at hSw); go_simp <;> with_reducible rfl
            try simp only [Act.put, List.getElem_toArray, List.getElem_cons_succ, List.getElem_cons_zero, List.setIfInBounds_toArray, List.set_cons_zero, List.set_cons_succ]
            refine wpAnyH_take (i := 3) (v := ?_) rfl (by kernel_rfl) (by kernel_rfl) (by kernel_rfl) (fun _ _ _ h => h) (Or.inl ⟨by rfl, ?_⟩) (by assumption) ?_
            rotate_left
            · intro w hSw; (try dsimp only at hSw); go_simp <;> with_reducible rfl
            try simp only [Act.put, List.getElem_toArray, List.getElem_cons_succ, List.getElem_cons_zero, List.setIfInBounds_toArray, List.set_cons_zero, List.set_cons_succ]
            refine wpAnyH_take (i := 4) (v := ?_) rfl (by kernel_rfl) (by kernel_rfl) (by kernel_rfl) (fun _ _ _ h => h) (Or.inl ⟨by rfl, ?_⟩) (by assumption) ?_
            rotate_left
            · intro w hSw; (try dsimp only at hSw); go_simp <;> with_reducible rfl
            try simp only [Act.put, List.getElem_toArray, List.getElem_cons_succ, List.getElem_cons_zero, List.setIfInBounds_toArray, List.set_cons_zero, List.set_cons_succ]
            refine wpAnyH_take (i := 5) (v := ?_) rfl (by kernel_rfl) (by kernel_rfl) (by kernel_rfl) (fun _ _ _ h => h) (Or.inl ⟨by rfl, ?_⟩) (by assumption) ?_
            rotate_left
            · intro w hSw; (try dsimp only at hSw); go_simp <;> with_reducible rfl
            try simp only [Act.put, List.getElem_toArray, List.getElem_cons_succ, List.getElem_cons_zero, List.setIfInBounds_toArray, List.set_cons_zero, List.set_cons_succ]
            refine wpAnyH_take (i := 7) (v := ?_) rfl (by kernel_rfl) (by kernel_rfl) (by kernel_rfl) (fun _ _ _ h => h) (Or.inl ⟨by rfl, ?_⟩) (by assumption) ?_
            rotate_left
            · intro w hSw; (try dsimp only at hSw); go_simp <;> with_reducible rfl
            try simp only [Act.put, List.getElem_toArray, List.getElem_cons_succ, List.getElem_cons_zero, List.setIfInBounds_toArray, List.set_cons_zero, List.set_cons_succ]
            refine wpAnyH_take (i := 8) (v := ?_) rfl (by kernel_rfl) (by kernel_rfl) (by kernel_rfl) (fun _ _ _ h => h) (Or.inl ⟨by rfl, ?_⟩) (by assumption) ?_
            rotate_left
            · intro w hSw; (try dsimp only at hSw); go_simp <;> with_reducible rfl
            try simp only [Act.put, List.getElem_toArray, List.getElem_cons_succ, List.getElem_cons_zero, List.setIfInBounds_toArray, List.set_cons_zero, List.set_cons_succ]
            refine wpAnyH_take (i := 9) (v := ?_) rfl (by kernel_rfl) (by kernel_rfl) (by kernel_rfl) (fun _ _ _ h => h) (Or.inl ⟨by rfl, ?_⟩) (by assumption) ?_
            rotate_left
            · intro w hSw; (try dsimp only at hSw); go_simp <;> with_reducible rfl
            try simp only [Act.put, List.getElem_toArray, List.getElem_cons_succ, List.getElem_cons_zero, List.setIfInBounds_toArray, List.set_cons_zero, List.set_cons_succ]
            refine wpAnyH_take (i := 10) (v := ?_) rfl (by kernel_rfl) (by kernel_rfl) (by kernel_rfl) (fun _ _ _ h => h) (Or.inl ⟨by rfl, ?_⟩) (by assumption) ?_
            rotate_left
            · intro w hSw; (try dsimp only at hSw); go_simp <;> with_reducible rfl
            try simp only [Act.put, List.getElem_toArray, List.getElem_cons_succ, List.getElem_cons_zero, List.setIfInBounds_toArray, List.set_cons_zero, List.set_cons_succ]
            refine wpAnyH_take (i := 11) (v := ?_) rfl (by kernel_rfl) (by kernel_rfl) (by kernel_rfl) (fun _ _ _ h => h) (Or.inl ⟨by rfl, ?_⟩) (by assumption) ?_
            rotate_left
            · intro w hSw; (try dsimp only at hSw); go_simp <;> with_reducible rfl
            try simp only [Act.put, List.getElem_toArray, List.getElem_cons_succ, List.getElem_cons_zero, List.setIfInBounds_toArray, List.set_cons_zero, List.set_cons_succ]
            refine wpAnyH_take (i := 12) (v := ?_) rfl (by kernel_rfl) (by kernel_rfl) (by kernel_rfl) (fun _ _ _ h => h) (Or.inl ⟨by rfl, ?_⟩) (by assumption) ?_
            rotate_left
            · intro w hSw; (try dsimp only at hSw); go_simp <;> with_reducible rfl
            try simp only [Act.put, List.getElem_toArray, List.getElem_cons_succ, List.getElem_cons_zero, List.setIfInBounds_toArray, List.set_cons_zero, List.set_cons_succ]
            refine wpAnyH_ready (rs := [6]) (by kernel_rfl) (by simp) ?_
            refine AllReadyH.cons rfl (fun K hK => ?_) AllReadyH.nil
            go_simp
            have CX := Lib.hid (Ac.Accept_gen g1 (g1 + 2) st xb xs ⟨bf, bv, bt, bs, bm, bl⟩ (.slice ba bl.length bc) V HSV.out HGS.out (HRQ.out.later HBV.out) (fun hl q => (HFB.out _ q hl).2 rfl))
            unfold Cm.batVal at CX
            dsimp only at CX
            go_at_call 14
            refine CX.out.mono ?_
            rintro e VX ⟨rfl, ha, hg⟩
            have HSx := Lib.hid ha
            have HWx := Lib.hid (HWV.out.other hg (by omega))
            have HDx := Lib.hid (Ac.step_gr HDV.out hg HG2.out HDV.out.size)
            have HQx := Lib.hid (HQC.out V VX g1 hg (by omega) (by omega) hHeld)
            have HRX : Hid (Cm.RdR VX (.slice ba bl.length bc) bl) := Lib.hid ((HRQ.out.later HBV.out).but hg (fun k hk hl q => (HFB.out k hk hl).2 (by cases q; rfl)))
            clear ha hg CX
            refine hK.out _ _ HQx.out (fun hHeld => ?_)
            clear hK K
            try simp only [Act.put, List.getElem_toArray, List.getElem_cons_succ, List.getElem_cons_zero, List.setIfInBounds_toArray, List.set_cons_zero, List.set_cons_succ]
            refine wpAnyH_ready (rs := [13]) (by kernel_rfl) (by simp) ?_
            refine AllReadyH.cons rfl (fun K hK => ?_) AllReadyH.nil
            go_simp
            have CX := Lib.hid (Ac.RefAccept_any g1 (g1 + 1) (g1 + 2) st xb xs ⟨bf, bv, bt, bs, bm, bl⟩ (.slice ba bl.length bc) VX HWx.out HGS.out (HRX.out) HFB.out)
            unfold Cm.batVal at CX
            dsimp only at CX
            go_at_call 15
            refine CX.out.mono ?_
            rintro e VY ⟨rfl, ha, hg⟩
            have HWy := Lib.hid ha
            have HSy := Lib.hid (HSx.out.other hg (by omega) (by omega))
            have HDy := Lib.hid (Ac.step_gr HDx.out hg (Nat.le_trans HG2.out (Nat.le_succ _)) HDx.out.size)
            have HQy := Lib.hid (HQC.out VX VY (g1 + 1) hg (by omega) (by omega) hHeld)
            clear ha hg CX
            refine hK.out _ _ HQy.out (fun hHeld => ?_)
            clear hK K
            try simp only [Act.put, List.getElem_toArray, List.getElem_cons_succ, List.getElem_cons_zero, List.setIfInBounds_toArray, List.set_cons_zero, List.set_cons_succ]
            refine wpAnyH_take (i := 14) (v := ?_) rfl (by kernel_rfl) (by kernel_rfl) (by kernel_rfl) (fun _ _ _ h => h) (Or.inl ⟨by rfl, ?_⟩) (by assumption) ?_
            rotate_left
            · intro w hSw; (try dsimp only at hSw); go_simp <;> with_reducible rfl
            try simp only [Act.put, List.getElem_toArray, List.getElem_cons_succ, List.getElem_cons_zero, List.setIfInBounds_toArray, List.set_cons_zero, List.set_cons_succ]
            refine wpAnyH_done (by kernel_rfl) ?_ _
            go_wp2_with fail
            go_meet
            exact ⟨(Ac.accF st xb xs ⟨bf, bv, bt, bs, bm, bl⟩).1, Lib.hid (HGS.out.acc _ _ _), HSy, HWy, HDy⟩
          have d1 : (xd == 1) = false := by simpa using h1
          have CT := Lib.hid (Ac.Trim_any g1 (g1 + 2) st xs W5 HA5.out HGS.out)
          go_wp2_with fail
          refine CT.out.mono ?_
          rintro e V ⟨rfl, ha, hg⟩
          have HS1 := Lib.hid ha
          have HW1 := Lib.hid (HW5.out.other hg (by omega))
          have HD1 := Lib.hid (Ac.step_gr HD5.out hg HG2.out HD5.out.size)
          have p2 := (HQC.out W5 V g1 hg (by omega) (by omega) (HPQ.out _ (Below.refl _ _))).2.1
          clear ha hg CT
          have CT2 := Lib.hid (Ac.RefTrim_any g1 (g1 + 1) (g1 + 2) st xs V HW1.out HGS.out)
          go_wp2_with fail
          refine CT2.out.mono ?_
          rintro e V2 ⟨rfl, ha, hg⟩
          have HW2 := Lib.hid ha
          have HS2 := Lib.hid (HS1.out.other hg (by omega) (by omega))
          have HD2 := Lib.hid (Ac.step_gr HD1.out hg (Nat.le_trans HG2.out (Nat.le_succ _)) HD1.out.size)
          clear ha hg CT2
          go_wp2_with fail
          go_meet
          exact ⟨Ac.trimF st xs, Lib.hid (HGS.out.trim xs), HS2, HW2, HD2⟩
        case rest =>
          obtain ⟨st', HGS', HA6, HW6, HD6⟩ := hcut
          obtain ⟨wd, hwd⟩ : ∃ wd, wd = wc := ⟨_, rfl⟩
          clear HQ5 HRQ HFB HA5 HW5 HD5 HX5 HPQ HQC p0 p1 p2
          obtain ⟨lv, M3, hb3, hv3, ho3, hr3⟩ := HW6.out.ex
          obtain ⟨la, lc, hlv⟩ := Rw.own_form ho3
          subst hlv
          have HVL := Lib.hid hv3
          have HRL : Hid (Ac.RdV wc (.slice la M3.length lc) M3) := Lib.hid ⟨RdX.own Ac.cellsV_length ho3, fun x hx => (hr3 x hx).1⟩
          have CSV := Lib.hid (fun (v : Value) (M : List Ac.VoteC) (W : World) (h1 : Ac.RdV W v M) (h2 : Ac.RdV W (.slice la M3.length lc) M3) => Ac.SameVotes_any v (.slice la M3.length lc) M M3 W h1 h2)
          have HB3 := Lib.hid hb3
          clear hv3 ho3 hr3 hb3 hwd
          generalize M3.length = n3 at HRL CSV HB3
          have HKP : Hid (∀ W, Below wc.heap.size wc W → W.cell? ⟨g1 + 1, 0, none⟩ = some (.int .i64 st'.ballot) ∧ W.cell? ⟨g1 + 1, 1, none⟩ = some (.int .i64 st'.done) ∧ W.cell? ⟨g1 + 1, 2, none⟩ = some (.slice la n3 lc)) := Lib.hid fun W hb => by
            have h := Cm.cells_later HB3.out hb
            exact ⟨Cm.cell_at h 0, Cm.cell_at h 1, Cm.cell_at h 2⟩
          have CBL := Lib.hid (fun (w' : World) h => Ac.Ballot_any g1 (g1 + 2) st' w' h)
          have CDN := Lib.hid (fun (w' : World) h => Ac.Done_any g1 (g1 + 2) st' w' h)
          have CV := Lib.hid (fun (w' : World) h => Ac.Votes_any g1 (g1 + 2) st' w' h HGS'.out)
          go_upto_region 22 with fail
          refine wp_region_held_drew (S := (fun W => W.cell? ⟨g1 + 1, 0, none⟩ = some (.int .i64 st'.ballot) ∧ W.cell? ⟨g1 + 1, 1, none⟩ = some (.int .i64 st'.done) ∧ W.cell? ⟨g1 + 1, 2, none⟩ = some (.slice la n3 lc))) (by kernel_rfl) (HKP.out _ (Below.refl _ _).drew) (fun hHeld => ?_)
          obtain ⟨V, hV⟩ : ∃ V, V = wc.drew := ⟨_, rfl⟩
          have HBV : Hid (Below wc.heap.size wc V) := Lib.hid (by rw [hV]; exact (Below.refl _ _).drew)
          rw [← hV] at hHeld ⊢
          clear hV
          refine wpAnyH_take (i := 0) (v := ?_) rfl (by kernel_rfl) (by kernel_rfl) (by kernel_rfl) (fun _ _ _ h => h) (Or.inl ⟨by rfl, ?_⟩) (by assumption) ?_
          rotate_left
          · intro w hSw; (try dsimp only at hSw); go_simp <;> with_reducible rfl
          try simp only [Act.put, List.getElem_toArray, List.getElem_cons_zero, List.setIfInBounds_toArray, List.set_cons_zero, List.set_cons_succ]
          refine wpAnyH_take (i := 2) (v := ?_) rfl (by kernel_rfl) (by kernel_rfl) (by kernel_rfl) (fun _ _ _ h => h) (Or.inl ⟨by rfl, ?_⟩) (by assumption) ?_
          rotate_left
          · intro w hSw; (try dsimp only at hSw); go_simp <;> with_reducible rfl
          try simp only [Act.put, List.getElem_toArray, List.getElem_cons_succ, List.getElem_cons_zero, List.setIfInBounds_toArray, List.set_cons_zero, List.set_cons_succ]
          refine wpAnyH_take (i := 3) (v := ?_) rfl (by kernel_rfl) (by kernel_rfl) (by kernel_rfl) (fun _ _ _ h => h) (Or.inl ⟨by rfl, ?_⟩) (by assumption) ?_
          rotate_left
          · intro w hSw; (try dsimp only at hSw); go_simp <;> with_reducible rfl
          try simp only [Act.put, List.getElem_toArray, List.getElem_cons_succ, List.getElem_cons_zero, List.setIfInBounds_toArray, List.set_cons_zero, List.set_cons_succ]
          refine wpAnyH_take (i := 4) (v := ?_) rfl (by kernel_rfl) (by kernel_rfl) (by kernel_rfl) (fun _ _ _ h => h) (Or.inl ⟨by rfl, ?_⟩) (by assumption) ?_
          rotate_left
          · intro w hSw; (try dsimp only at hSw); go_simp <;> with_reducible rfl
          try simp only [Act.put, List.getElem_toArray, List.getElem_cons_succ, List.getElem_cons_zero, List.setIfInBounds_toArray, List.set_cons_zero, List.set_cons_succ]
          refine wpAnyH_take (i := 5) (v := ?_) rfl (by kernel_rfl) (by kernel_rfl) (by kernel_rfl) (fun _ _ _ h => h) (Or.inl ⟨by rfl, ?_⟩) (by assumption) ?_
          rotate_left
          · intro w hSw; (try dsimp only at hSw); go_simp <;> with_reducible rfl
          try simp only [Act.put, List.getElem_toArray, List.getElem_cons_succ, List.getElem_cons_zero, List.setIfInBounds_toArray, List.set_cons_zero, List.set_cons_succ]
          refine wpAnyH_ready (rs := [1]) (by kernel_rfl) (by simp) ?_
          refine AllReadyH.cons rfl (fun K hK => ?_) AllReadyH.nil
          go_simp
          go_at_call 18
          refine (CBL.out _ (HA6.out.later HBV.out)).mono ?_
          rintro e wz ⟨rfl, hwz⟩
          rw [hwz]
          clear hwz wz
          refine hK.out _ _ (HKP.out _ HBV.out) (fun hHeld => ?_)
          clear hK K
          try simp only [Act.put, List.getElem_toArray, List.getElem_cons_succ, List.getElem_cons_zero, List.setIfInBounds_toArray, List.set_cons_zero, List.set_cons_succ]
          refine wpAnyH_take (i := 6) (v := ?_) rfl (by kernel_rfl) (by kernel_rfl) (by kernel_rfl) (fun _ _ _ h => h) (Or.inl ⟨by rfl, ?_⟩) (by assumption) ?_
          rotate_left
          · intro w hSw; (try dsimp only at hSw); go_simp <;> with_reducible rfl
          try simp only [Act.put, List.getElem_toArray, List.getElem_cons_succ, List.getElem_cons_zero, List.setIfInBounds_toArray, List.set_cons_zero, List.set_cons_succ]
          refine wpAnyH_take (i := 7) (v := ?_) rfl (by kernel_rfl) (by kernel_rfl) (by kernel_rfl) (fun _ _ _ h => h) (Or.inl ⟨by rfl, ?_⟩) (by assumption) ?_
          rotate_left
          · intro w hSw; (try dsimp only at hSw); go_simp <;> with_reducible rfl
          try simp only [Act.put, List.getElem_toArray, List.getElem_cons_succ, List.getElem_cons_zero, List.setIfInBounds_toArray, List.set_cons_zero, List.set_cons_succ]
          refine wpAnyH_take (i := 8) (v := ?_) rfl (by kernel_rfl) (by kernel_rfl) (by kernel_rfl) (fun _ _ _ h => h) (Or.inl ⟨by rfl, ?_⟩) (by assumption) ?_
          rotate_left
          · intro w hSw; (try dsimp only at hSw); go_simp <;> with_reducible rfl
          try simp only [Act.put, List.getElem_toArray, List.getElem_cons_succ, List.getElem_cons_zero, List.setIfInBounds_toArray, List.set_cons_zero, List.set_cons_succ]
          refine wpAnyH_take (i := 10) (v := ?_) rfl (by kernel_rfl) (by kernel_rfl) (by kernel_rfl) (fun _ _ _ h => h) (Or.inl ⟨by rfl, ?_⟩) (by assumption) ?_
          rotate_left
          · intro w hSw; (try dsimp only at hSw); go_simp <;> with_reducible rfl
          try simp only [Act.put, List.getElem_toArray, List.getElem_cons_succ, List.getElem_cons_zero, List.setIfInBounds_toArray, List.set_cons_zero, List.set_cons_succ]
          refine wpAnyH_take (i := 11) (v := ?_) rfl (by kernel_rfl) (by kernel_rfl) (by kernel_rfl) (fun _ _ _ h => h) (Or.inl ⟨by rfl, ?_⟩) (by assumption) ?_
          rotate_left
          · intro w hSw; (try dsimp only at hSw); go_simp <;> with_reducible rfl
          try simp only [Act.put, List.getElem_toArray, List.getElem_cons_succ, List.getElem_cons_zero, List.setIfInBounds_toArray, List.set_cons_zero, List.set_cons_succ]
          refine wpAnyH_take (i := 12) (v := ?_) rfl (by kernel_rfl) (by kernel_rfl) (by kernel_rfl) (fun _ _ _ h => h) (Or.inl ⟨by rfl, ?_⟩) (by assumption) ?_
          rotate_left
          · intro w hSw; (try dsimp only at hSw); go_simp <;> with_reducible rfl
          try simp only [Act.put, List.getElem_toArray, List.getElem_cons_succ, List.getElem_cons_zero, List.setIfInBounds_toArray, List.set_cons_zero, List.set_cons_succ]
          refine wpAnyH_take (i := 13) (v := ?_) rfl (by kernel_rfl) (by kernel_rfl) (by kernel_rfl) (fun _ _ _ h => h) (Or.inl ⟨by rfl, ?_⟩) (by assumption) ?_
          rotate_left
          · intro w hSw; (try dsimp only at hSw); go_simp <;> with_reducible rfl
          try simp only [Act.put, List.getElem_toArray, List.getElem_cons_succ, List.getElem_cons_zero, List.setIfInBounds_toArray, List.set_cons_zero, List.set_cons_succ]
          refine wpAnyH_ready (rs := [9]) (by kernel_rfl) (by simp) ?_
          refine AllReadyH.cons rfl (fun K hK => ?_) AllReadyH.nil
          go_simp
          go_at_call 19
          refine (CDN.out _ (HA6.out.later HBV.out)).mono ?_
          rintro e wz ⟨rfl, hwz⟩
          rw [hwz]
          clear hwz wz
          refine hK.out _ _ (HKP.out _ HBV.out) (fun hHeld => ?_)
          clear hK K
          try simp only [Act.put, List.getElem_toArray, List.getElem_cons_succ, List.getElem_cons_zero, List.setIfInBounds_toArray, List.set_cons_zero, List.set_cons_succ]
          refine wpAnyH_take (i := 14) (v := ?_) rfl (by kernel_rfl) (by kernel_rfl) (by kernel_rfl) (fun _ _ _ h => h) (Or.inl ⟨by rfl, ?_⟩) (by assumption) ?_
          rotate_left
          · intro w hSw; (try dsimp only at hSw); go_simp <;> with_reducible rfl
          try simp only [Act.put, List.getElem_toArray, List.getElem_cons_succ, List.getElem_cons_zero, List.setIfInBounds_toArray, List.set_cons_zero, List.set_cons_succ]
          refine wpAnyH_take (i := 15) (v := ?_) rfl (by kernel_rfl) (by kernel_rfl) (by kernel_rfl) (fun _ _ _ h => h) (Or.inl ⟨by rfl, ?_⟩) (by assumption) ?_
          rotate_left
          · intro w hSw; (try dsimp only at hSw); go_simp <;> with_reducible rfl
          try simp only [Act.put, List.getElem_toArray, List.getElem_cons_succ, List.getElem_cons_zero, List.setIfInBounds_toArray, List.set_cons_zero, List.set_cons_succ]
          refine wpAnyH_take (i := 16) (v := ?_) rfl (by kernel_rfl) (by kernel_rfl) (by kernel_rfl) (fun _ _ _ h => h) (Or.inl ⟨by rfl, ?_⟩) (by assumption) ?_
          rotate_left
          · intro w hSw; (try dsimp only at hSw); go_simp <;> with_reducible rfl
          try simp only [Act.put, List.getElem_toArray, List.getElem_cons_succ, List.getElem_cons_zero, List.setIfInBounds_toArray, List.set_cons_zero, List.set_cons_succ]
          refine wpAnyH_take (i := 17) (v := ?_) rfl (by kernel_rfl) (by kernel_rfl) (by kernel_rfl) (fun _ _ _ h => h) (Or.inl ⟨by rfl, ?_⟩) (by assumption) ?_
          rotate_left
          · intro w hSw; (try dsimp only at hSw); go_simp <;> with_reducible rfl
          try simp only [Act.put, List.getElem_toArray, List.getElem_cons_succ, List.getElem_cons_zero, List.setIfInBounds_toArray, List.set_cons_zero, List.set_cons_succ]
          refine wpAnyH_take (i := 19) (v := ?_) rfl (by kernel_rfl) (by kernel_rfl) (by kernel_rfl) (fun _ _ _ h => h) (Or.inl ⟨by rfl, ?_⟩) (by assumption) ?_
          rotate_left
          · intro w hSw; (try dsimp only at hSw); go_simp <;> with_reducible rfl
          try simp only [Act.put, List.getElem_toArray, List.getElem_cons_succ, List.getElem_cons_zero, List.setIfInBounds_toArray, List.set_cons_zero, List.set_cons_succ]
          refine wpAnyH_take (i := 20) (v := ?_) rfl (by kernel_rfl) (by kernel_rfl) (by kernel_rfl) (fun _ _ _ h => h) (Or.inl ⟨by rfl, ?_⟩) (by assumption) ?_
          rotate_left
          · intro w hSw; (try dsimp only at hSw); go_simp <;> with_reducible rfl
          try simp only [Act.put, List.getElem_toArray, List.getElem_cons_succ, List.getElem_cons_zero, List.setIfInBounds_toArray, List.set_cons_zero, List.set_cons_succ]
          refine wpAnyH_take (i := 21) (v := ?_) rfl (by kernel_rfl) (by kernel_rfl) (by kernel_rfl) (fun _ _ _ h => h) (Or.inl ⟨by rfl, ?_⟩) (by assumption) ?_
          rotate_left
          · intro w hSw; (try dsimp only at hSw); go_simp <;> with_reducible rfl
          try simp only [Act.put, List.getElem_toArray, List.getElem_cons_succ, List.getElem_cons_zero, List.setIfInBounds_toArray, List.set_cons_zero, List.set_cons_succ]
          refine wpAnyH_take (i := 22) (v := ?_) rfl (by kernel_rfl) (by kernel_rfl) (by kernel_rfl) (fun _ _ _ h => h) (Or.inl ⟨by rfl, ?_⟩) (by assumption) ?_
          rotate_left
          · intro w hSw; (try dsimp only at hSw); go_simp <;> with_reducible rfl
          try simp only [Act.put, List.getElem_toArray, List.getElem_cons_succ, List.getElem_cons_zero, List.setIfInBounds_toArray, List.set_cons_zero, List.set_cons_succ]
          refine wpAnyH_ready (rs := [18]) (by kernel_rfl) (by simp) ?_
          refine AllReadyH.cons rfl (fun K hK => ?_) AllReadyH.nil
          go_simp
          go_at_call 21
          refine (CV.out _ (HA6.out.later HBV.out)).mono ?_
          rintro e V2 ⟨v, M, rfl, hM, ho, hb⟩
          have HBV2 := Lib.hid (step HBV.out hb)
          have HM := Lib.hid hM
          have HOM := Lib.hid ho.rd
          clear hM ho hb HBV
          refine hK.out _ _ (HKP.out _ HBV2.out) (fun hHeld => ?_)
          clear hK K
          try simp only [Act.put, List.getElem_toArray, List.getElem_cons_succ, List.getElem_cons_zero, List.setIfInBounds_toArray, List.set_cons_zero, List.set_cons_succ]
          refine wpAnyH_ready (rs := [23]) (by kernel_rfl) (by simp) ?_
          refine AllReadyH.cons rfl (fun K hK => ?_) AllReadyH.nil
          go_simp
          go_at_call 20
          refine (CSV.out v M V2 HOM.out (HRL.out.later HBV2.out)).mono ?_
          rw [HM.out, HVL.out, Ac.sameVs_refl]
          rintro e V3 ⟨rfl, hb⟩
          have HBV3 := Lib.hid (step HBV2.out hb)
          clear hb
          refine hK.out _ _ (HKP.out _ HBV3.out) (fun hHeld => ?_)
          clear hK K
          try simp only [Act.put, List.getElem_toArray, List.getElem_cons_succ, List.getElem_cons_zero, List.setIfInBounds_toArray, List.set_cons_zero, List.set_cons_succ]
          refine wpAnyH_take (i := 24) (v := ?_) rfl (by kernel_rfl) (by kernel_rfl) (by kernel_rfl) (fun _ _ _ h => h) (Or.inl ⟨by rfl, ?_⟩) (by assumption) ?_
          rotate_left
          · intro w hSw; (try dsimp only at hSw); go_simp <;> with_reducible rfl
          try simp only [Act.put, List.getElem_toArray, List.getElem_cons_succ, List.getElem_cons_zero, List.setIfInBounds_toArray, List.set_cons_zero, List.set_cons_succ]
          refine wpAnyH_take (i := 25) (v := ?_) rfl (by kernel_rfl) (by kernel_rfl) (by kernel_rfl) (fun _ _ _ h => h) (Or.inl ⟨by rfl, ?_⟩) (by assumption) ?_
          rotate_left
          · intro w hSw; (try dsimp only at hSw); go_simp <;> with_reducible rfl
          try simp only [Act.put, List.getElem_toArray, List.getElem_cons_succ, List.getElem_cons_zero, List.setIfInBounds_toArray, List.set_cons_zero, List.set_cons_succ]
          refine wpAnyH_done (by kernel_rfl) ?_ _
          go_wp2
          go_roundw
          case rel => exact ⟨I + 1, st', by omega, by go_num, HGS', Lib.hid (HA6.out.later HBV3.out), Lib.hid (HW6.out.later HBV3.out), Lib.hid (step HD6.out HBV3.out)⟩
          case measure => simp [intOf]; omega
    · obtain rfl : I = n := by omega
      go_wp2_with (go_at_call 9; refine (C0.out _).mono ?_; rintro e w8 ⟨rfl, hb⟩; have HB8 := Lib.hid (step (step HB2.out HDR.out) hb); clear hb)
      go_ret
      exact ⟨rfl, HB8.out⟩

/-! ### THE ROW's STEP -/
set_option maxRecDepth 100000 in
theorem lifted (os : Os) (started : os.Started) (H : Type) (enc : TypeId × Value → H) :
    ReturnsInHanded {} Try.checked os 3 .any (Rows.acceptRunsSpec.pre6 enc Try.prog Try.f3 Rows.acceptRunsRow.domain false) (Rows.acceptRunsSpec.post enc Try.prog Try.f3 false true false false) := by
  refine returnsInHanded_of_change_sized (C := Try.checked) own started (by kernel_rfl) Try.func3
    (ChangeSpec.witness6 (enc := enc) (C := Try.checked) false ⟨#[], #[.slice none 0 0, .agg #[.bool false, .int .i64 0, .int .i64 0, .int .i64 0, .int .i64 0, .slice none 0 0]], []⟩ 8 (by kernel_rfl) (by kernel_rfl) (by kernel_rfl) (by kernel_rfl)) ?_
  intro W base args ds gs before hval0 hW hcnd hsz _
  have hval : ∀ (j : Nat) t v, Try.f3.params[j]? = some t → args[j]? = some v → Value.okWide Try.prog W .any base t v := hval0
  have hW' := hW
  obtain ⟨p, q, hA0, hV, rfl, hfz, hnd⟩ := hW
  have hA : DataW.TrodAll enc Try.prog W 0 (fun _ => true) true Try.f3.params.toList args.toList ds p := hA0
  rw [Try.params3] at hA hval hsz
  obtain ⟨v0, vs0, d0, ds0, p0, q0, hargs, rfl, rfl, h0, r0⟩ := trodAll_cons hA
  obtain ⟨v1, vs1, d1, ds1, p1, q1, rfl, rfl, rfl, h1, r1⟩ := trodAll_cons r0
  obtain ⟨rfl, rfl, rfl⟩ := trodAll_nil r1
  obtain rfl : args = #[v0, v1] := by cases args; simp_all
  obtain ⟨rfl, rfl⟩ := trodVars_none hV
  have k0 := h0
  have lt0 : ∀ x ∈ p0, x.block < W.heap.size := by obtain ⟨m, hm⟩ := k0; exact DataW.trod_lt m _ _ _ hm
  obtain ⟨a0, rfl, w0⟩ := Ac.open_acts14 (hval 0 22 v0 rfl rfl) h0 (fun n hn => by have := List.all_eq_true.1 hsz n (DataW.weights_mem_each (j := 0) rfl rfl n hn); simpa using this)
  have k1 := h1
  have lt1 : ∀ x ∈ p1, x.block < W.heap.size := by obtain ⟨m, hm⟩ := k1; exact DataW.trod_lt m _ _ _ hm
  obtain ⟨a1, rfl, w1⟩ := Cm.open_bat (hval 1 27 v1 rfl rfl) h1
  clear hA0 hval0
  refine (walk a0 a1 W w0 w1).mono fun e W' ⟨he, bel⟩ => ?_
  subst he
  exact ⟨_, rfl, _, _, _, [], _, [], hW', trodAll_mk1 (shut_bool Try.underlying4 _), (trodAll_cons_mk (Below.trod laidOut (by kernel_rfl) (of_decide_eq_true (by kernel_rfl)) k0 bel lt0) (trodAll_cons_mk (Below.trod laidOut (by kernel_rfl) (of_decide_eq_true (by kernel_rfl)) k1 bel lt1) trodAll_mk0)), rfl, bel.frame _, fun h => by cases h⟩

theorem over : Rows.acceptRunsRow.holds Try.pinned (OpenSpec.ofChange Rows.acceptRunsSpec) :=
  OpenClaim.holds_of_wide 3 Try.f3 rfl rfl rfl rfl rfl rfl rfl ⟨rfl, rfl, rfl, rfl, rfl⟩ rfl rfl rfl rfl rfl (by kernel_rfl) Try.func3 (by kernel_rfl)
    (of_decide_eq_true (by kernel_rfl)) (by unfold Func.isWrapper; first | (rw [if_pos (by decide +kernel)]; kernel_rfl) | (rw [if_neg (by decide +kernel)]; exact ⟨rfl, rfl⟩))
    (fun os started H enc _ => lifted os started H enc)

/-- THE STATEMENT -/
theorem proved : Rows.AcceptRunsSaid := over
end Go.Proofs.Ytmodbbmdkealdaa.acceptRuns
