/- PROVED: the statement SnapRefuses of layer 11: for every input that can be read, the law returns true and leaves its arguments as they were. No condition. -/
import Derived.Test.YtlnbmblbeaodcaaGreatRows
import Derived.Test.YtlnbmblbeaodcaaGreatQT1
import Derived.WalkKit
import Derived.ProofKit
import Derived.OpenShut
import Derived.ShutString
import Derived.ChangeOld
import Derived.Below
import Derived.BigQuiet
import Derived.Lib.QuietBelow
import Derived.Deep.Cut
import Derived.Deep.CutBlock
import Derived.Deep.DeepCutAuto
namespace Go.Proofs.YtlnbmblbeaodcaaGreat.snapRefuses
open Go.ChangeShapes Go.WideShapes Go.ChangeAt Go.RowKit
open Go.ChangeMaps (open_string shut_string)
open Go.Sort (grow)
set_option linter.unusedVariables false
set_option maxRecDepth 8000
set_option linter.unusedSimpArgs false

theorem own : ownKnob Tryz.prog.godebug = none := by kernel_rfl
theorem laidOut : laidOutB Tryz.prog = true := by kernel_rfl

/-! ### STEP 1: THE WALK -/
set_option maxRecDepth 100000 in
set_option maxHeartbeats 4000000 in
theorem walk (a0 : List Cm.Act10 × Value) (a1 : Int) (a2 : Int) (w : World) (w0 : Cm.act10OkA w a0) (w1 : (Lit.int .u8 a1).wf = true) (w2 : (Lit.int .u8 a2).wf = true) :
    Calls Tryz.prog 8 #[Cm.act10A a0, .int .u8 a1, .int .u8 a2] w fun e w' => e = .returned (.bool true) ∧ Below w.heap.size w w' := by
  obtain ⟨L0, v0⟩ := a0
  unfold Cm.act10OkA at w0
  unfold Cm.act10A
  dsimp only at w0 ⊢
  have nat8 : ∀ a : Int, (Lit.int .u8 a).wf = true → ∃ n : Nat, a = (n : Int) ∧ n < 256 := fun a h => by
    simp [Lit.wf, IntKind.min, IntKind.max, IntKind.signed, IntKind.bits] at h
    exact ⟨a.toNat, by omega, by omega⟩
  obtain ⟨h, rfl, lh⟩ := nat8 a1 w1
  obtain ⟨n, rfl, ln⟩ := nat8 a2 w2
  clear nat8 w1 w2
  have C0 := Lib.hid (fun w => Cm.awake11_ok w)
  have hfew := Cm.made_few 60 L0
  have CB := Lib.hid (Cm.Made_any11 v0 L0 n n n w w0 ln ln ln)
  obtain ⟨s, hs⟩ : ∃ s, Cm.madeA 60 (L0.take 60) = s := ⟨_, rfl⟩
  rw [hs] at hfew CB
  have hR := hfew.right
  have hnum := hfew.num
  clear hfew hs w0
  obtain ⟨m, hm⟩ : ∃ m, h % 6 = m := ⟨_, rfl⟩
  have hm6 : m < 6 := by omega
  have hM : (h : Int) % 6 = (m : Int) := by omega
  have hM2 : (h : Int).tmod 6 = (m : Int) := by rw [Int.tmod_eq_emod_of_nonneg (by omega)]; exact hM
  clear hm
  go_enter Tryz.func8, Tryz.ntmps8
  go_wp2_with fail
  refine CB.out.mono ?_
  rintro e w1 ⟨y, rfl, hyv, hry, hb1⟩
  clear CB
  have hRy : Cm.Rst y.v := by rw [hyv]; exact hR
  have hmay : Cm.maySn ⟨(n : Int), (n : Int), (n : Int), y⟩ = true := by
    have hra : Cm.rightA y.v = true := (Cm.rightA_iff _).2 hRy
    unfold Cm.maySn Cm.highF
    simp [hra]
    omega
  have hfit := hRy.fits
  have C2 := Lib.hid (fun W hh => by have := Cm.MaySnap_any ⟨(n : Int), (n : Int), (n : Int), y⟩ W hh hfit.1 hfit.2.1 hfit.2.2.1 hfit.2.2.2; rw [hmay] at this; exact this)
  have CC := Lib.hid (fun W (hh : Cm.RdSt W y) => Cm.CopyK_any y.kv y.K W hh.k (by have := hRy.small.k; omega) hfit.2.2.1)
  have hyn : y.num ≤ 60 := by have := congrArg Cm.StV.num hyv; have e : y.v.num = y.num := rfl; omega
  have HRY := Lib.hid hry
  have HB1 := Lib.hid hb1
  have HS5 : Hid (y.S.length ≤ 900) := Lib.hid (by have := ((Cm.rightS_iff y.S).1 hRy.ses).1; omega)
  have HNU : Hid (0 ≤ y.num) := Lib.hid hRy.num.1
  have HK5 : Hid (y.K.length ≤ 1000) := Lib.hid (by have := hRy.small.k; omega)
  have HK7 := Lib.hid hfit.2.2.1
  have HKN := Lib.hid hfit.2.2.2
  clear hry hb1 hmay hR hRy hfit hyv hnum
  obtain ⟨ti, nu, tk, S, sa, sc, KL, ka, kc, M, ma, mc⟩ := y
  unfold Cm.snapVal Cm.StC.sv Cm.StC.kv Cm.StC.mv at C2
  unfold Cm.StC.kv at CC
  unfold Cm.snapVal Cm.StC.sv Cm.StC.kv Cm.StC.mv
  dsimp only at C2 CC HS5 HK5 HK7 HKN HNU hyn ⊢
  have HYN := Lib.hid hyn
  clear hyn
  go_upto_region 2 with fail
  have hst := newAlloc w1 (.cells #[.int .i64 (n : Int), .int .i64 (n : Int), .int .i64 (n : Int), .int .i64 ti, .int .i64 nu, .int .i64 tk, .slice sa S.length sc, .slice ka KL.length kc, .slice ma M.length mc] 46)
  have HX : Hid (Cm.BxAt (w1.alloc (.cells #[.int .i64 (n : Int), .int .i64 (n : Int), .int .i64 (n : Int), .int .i64 ti, .int .i64 nu, .int .i64 tk, .slice sa S.length sc, .slice ka KL.length kc, .slice ma M.length mc] 46)) w1.heap.size (.cells #[.int .i64 (n : Int), .int .i64 (n : Int), .int .i64 (n : Int), .int .i64 ti, .int .i64 nu, .int .i64 tk, .slice sa S.length sc, .slice ka KL.length kc, .slice ma M.length mc] 46)) := Lib.hid (Cm.BxAt.new _ _)
  have RX := Lib.hid (HRY.out.later hst)
  have BW := Lib.hid (step HB1.out hst)
  have HSA : Hid (w.heap.size ≤ w1.heap.size) := Lib.hid HB1.out.size
  generalize hW : w1.alloc _ = W at HX RX BW ⊢
  generalize w1.heap.size = A at HX HSA ⊢
  clear hW HRY HB1 hst
  have hA := HX.out
  have k0 := Cm.cell_atW hA 0
  have k1 := Cm.cell_atW hA 1
  have k2 := Cm.cell_atW hA 2
  have k3 := Cm.cell_atW hA 3
  have k4 := Cm.cell_atW hA 4
  have k5 := Cm.cell_atW hA 5
  have k6 := Cm.cell_atW hA 6
  have k7 := Cm.cell_atW hA 7
  have k8 := Cm.cell_atW hA 8
  have kf := Cm.frozen_atW hA
  simp only [List.getElem?_toArray, List.getElem?_cons_zero, List.getElem?_cons_succ] at k0 k1 k2 k3 k4 k5 k6 k7 k8
  clear hA
  go_upto_region 3 with fail
  have hst := newAlloc W (.cells #[.int .i64 (n : Int), .int .i64 (n : Int), .int .i64 (n : Int), .int .i64 ti, .int .i64 nu, .int .i64 tk, .slice sa S.length sc, .slice ka KL.length kc, .slice ma M.length mc] 46)
  have HAB : Hid (A < W.heap.size) := Lib.hid (by have := lt_of_cell k0; exact this)
  have BB := Lib.hid hst
  have HY : Hid (Cm.BxAt (W.alloc (.cells #[.int .i64 (n : Int), .int .i64 (n : Int), .int .i64 (n : Int), .int .i64 ti, .int .i64 nu, .int .i64 tk, .slice sa S.length sc, .slice ka KL.length kc, .slice ma M.length mc] 46)) W.heap.size (.cells #[.int .i64 (n : Int), .int .i64 (n : Int), .int .i64 (n : Int), .int .i64 ti, .int .i64 nu, .int .i64 tk, .slice sa S.length sc, .slice ka KL.length kc, .slice ma M.length mc] 46)) := Lib.hid (Cm.BxAt.new _ _)
  have HSW : Hid ((W.alloc (.cells #[.int .i64 (n : Int), .int .i64 (n : Int), .int .i64 (n : Int), .int .i64 ti, .int .i64 nu, .int .i64 tk, .slice sa S.length sc, .slice ka KL.length kc, .slice ma M.length mc] 46)).heap.size = W.heap.size + 1) := Lib.hid (by simp)
  generalize hW : W.alloc _ = W2 at HY BB HSW ⊢
  clear hW hst
  clear k0 k1 k2 k3 k4 k5 k6 k7 k8 kf
  have hA := HX.out.later BB.out
  have k0 := Cm.cell_atW hA 0
  have k1 := Cm.cell_atW hA 1
  have k2 := Cm.cell_atW hA 2
  have k3 := Cm.cell_atW hA 3
  have k4 := Cm.cell_atW hA 4
  have k5 := Cm.cell_atW hA 5
  have k6 := Cm.cell_atW hA 6
  have k7 := Cm.cell_atW hA 7
  have k8 := Cm.cell_atW hA 8
  have kf := Cm.frozen_atW hA
  simp only [List.getElem?_toArray, List.getElem?_cons_zero, List.getElem?_cons_succ] at k0 k1 k2 k3 k4 k5 k6 k7 k8
  clear hA
  go_wp2_with fail
  refine (CC.out _ (RX.out.later BB.out)).mono ?_
  rintro e w3 ⟨cv, MK, rfl, hvals, ho, hb3⟩
  obtain ⟨ca, cc, rfl⟩ := Rw.own_form ho.row
  have HOR := Lib.hid ho
  have HY3 := Lib.hid (HY.out.later hb3)
  have BB3 := Lib.hid (step BB.out hb3)
  clear CC hb3 ho
  clear k0 k1 k2 k3 k4 k5 k6 k7 k8 kf
  have hA := HY3.out
  have k0 := Cm.cell_atW hA 0
  have k1 := Cm.cell_atW hA 1
  have k2 := Cm.cell_atW hA 2
  have k3 := Cm.cell_atW hA 3
  have k4 := Cm.cell_atW hA 4
  have k5 := Cm.cell_atW hA 5
  have k6 := Cm.cell_atW hA 6
  have k7 := Cm.cell_atW hA 7
  have k8 := Cm.cell_atW hA 8
  have kf := Cm.frozen_atW hA
  simp only [List.getElem?_toArray, List.getElem?_cons_zero, List.getElem?_cons_succ] at k0 k1 k2 k3 k4 k5 k6 k7 k8
  clear hA
  have HMK : Hid (MK.length ≤ 1000 ∧ (∀ x ∈ MK, x.line.length ≤ 1000) ∧ (∀ x ∈ MK, x.name.length ≤ maxLen)) := Lib.hid (by
    have hl : MK.length = KL.length := by have := congrArg List.length hvals; rwa [Cm.vals_length, Cm.vals_length] at this
    have key : ∀ x ∈ MK, ∃ z ∈ KL, z.val = x.val := fun x hx => by
      have : x.val ∈ Cm.vals KL := by rw [← hvals]; exact List.mem_map.2 ⟨x, hx, rfl⟩
      obtain ⟨z, hz, e⟩ := List.mem_map.1 this
      exact ⟨z, hz, e⟩
    refine ⟨by rw [hl]; exact HK5.out, fun x hx => ?_, fun x hx => ?_⟩
    · obtain ⟨z, hz, e⟩ := key x hx
      have := HK7.out z hz
      have e2 : z.line = x.line := congrArg Cm.LockV.line e
      rwa [e2] at this
    · obtain ⟨z, hz, e⟩ := key x hx
      have := HKN.out z hz
      have e2 : z.name = x.name := congrArg Cm.LockV.name e
      rwa [e2] at this)
  clear hvals
  go_upto_region 4 with fail
  have HO : Hid (Cm.OwnD W2.heap.size (w3.setCell ⟨W.heap.size, 7, none⟩ (.slice ca MK.length cc)) (.slice ca MK.length cc) MK) := Lib.hid (Cm.OwnD.setB HOR.out (g := W.heap.size) (by rw [HSW.out]; omega) 7 _)
  have HY : Hid (Cm.BxAt (w3.setCell ⟨W.heap.size, 7, none⟩ (.slice ca MK.length cc)) W.heap.size (.cells #[.int .i64 (n : Int), .int .i64 (n : Int), .int .i64 (n : Int), .int .i64 ti, .int .i64 nu, .int .i64 tk, .slice sa S.length sc, .slice ca MK.length cc, .slice ma M.length mc] 46)) := Lib.hid (HY3.out.set 7 (.slice ca MK.length cc))
  have BB := Lib.hid (BB3.out.setCell (p := ⟨W.heap.size, 7, none⟩) (Nat.le_refl _) (.slice ca MK.length cc))
  generalize w3.setCell ⟨W.heap.size, 7, none⟩ (.slice ca MK.length cc) = W4 at HY BB HO ⊢
  clear HOR HY3 BB3
  clear k0 k1 k2 k3 k4 k5 k6 k7 k8 kf
  have hA := HX.out.later BB.out
  have k0 := Cm.cell_atW hA 0
  have k1 := Cm.cell_atW hA 1
  have k2 := Cm.cell_atW hA 2
  have k3 := Cm.cell_atW hA 3
  have k4 := Cm.cell_atW hA 4
  have k5 := Cm.cell_atW hA 5
  have k6 := Cm.cell_atW hA 6
  have k7 := Cm.cell_atW hA 7
  have k8 := Cm.cell_atW hA 8
  have kf := Cm.frozen_atW hA
  simp only [List.getElem?_toArray, List.getElem?_cons_zero, List.getElem?_cons_succ] at k0 k1 k2 k3 k4 k5 k6 k7 k8
  clear hA
  have hA := HY.out
  have y0 := Cm.cell_atW hA 0
  have y1 := Cm.cell_atW hA 1
  have y2 := Cm.cell_atW hA 2
  have y3 := Cm.cell_atW hA 3
  have y4 := Cm.cell_atW hA 4
  have y5 := Cm.cell_atW hA 5
  have y6 := Cm.cell_atW hA 6
  have y7 := Cm.cell_atW hA 7
  have y8 := Cm.cell_atW hA 8
  have yf := Cm.frozen_atW hA
  simp only [List.getElem?_toArray, List.getElem?_cons_zero, List.getElem?_cons_succ] at y0 y1 y2 y3 y4 y5 y6 y7 y8
  clear hA
  have hnw : IntKind.i64.wrap (n : Int) = (n : Int) := by rw [IntKind.wrap_i64]; omega
  obtain ⟨i0, hi, hz0, hz1, hz2⟩ := info_parts Cm.infoS
  obtain ⟨j0, ji, jz0, jz1, jz2⟩ := info_parts Cm.infoK
  match m, hm6 with
  | 0, _ =>
    have hM : (h : Int) % 6 = 0 := hM
    have hM2 : (h : Int).tmod 6 = 0 := hM2
    have HRX := Lib.hid (Cm.src_one (⟨[122, 122], 8, tk, [], none, 0⟩ : Cm.LockC) W4.heap.size (W4.alloc (.cells #[.string ⟨#[122, 122]⟩, .int .i64 8, .int .i64 tk, .slice none 0 0] 71)) (Cm.BxAt.new W4 (.cells #[.string ⟨#[122, 122]⟩, .int .i64 8, .int .i64 tk, .slice none 0 0] 71)))
    have HST := Lib.hid (newAlloc W4 (.cells #[.string ⟨#[122, 122]⟩, .int .i64 8, .int .i64 tk, .slice none 0 0] 71))
    have HW24 : Hid (W2.heap.size ≤ W4.heap.size) := Lib.hid (by have := HY.out; have e := Cm.get_ltW this; have := HSW.out; omega)
    have HWW2 : Hid (W.heap.size ≤ W2.heap.size) := Lib.hid (by have := HSW.out; omega)
    go_upto_region 16 with (at_builtin; go_loud (refine wpList_append_rdx Cm.cellsK_length (by omega) Cm.cellsK_one rfl (.tmp 31) (.tmp 36) 23 rfl W2.heap.size 71 j0 _ 56 Tryz.underlying23 ji jz0 jz1 jz2 rfl (.slice ca MK.length cc) MK.length _ rfl (Rw.own_below HO.out.row HST.out) _ [(⟨[122, 122], 8, tk, [], none, 0⟩ : Cm.LockC)] rfl HRX.out (by unfold maxLen; have := HMK.out.1; simp; omega) (by have := HMK.out.1; simp; omega) (Nat.le_trans HW24.out HST.out.size) ?_; intro v5 w5 hown5 hgrow5; have ho5 : w5.ownsRow W2.heap.size 71 4 v5 (MK ++ [(⟨[122, 122], 8, tk, [], none, 0⟩ : Cm.LockC)]).length (flatX Cm.cellsK (MK ++ [(⟨[122, 122], 8, tk, [], none, 0⟩ : Cm.LockC)])) := (by rw [flatX_append, List.length_append]; exact hown5); have od5 := Cm.OwnD.add0 HO.out hgrow5 rfl rfl ho5; have hbb5 : Below W2.heap.size W4 w5 := (HST.out.mono HW24.out).grown hgrow5 (Nat.le_trans HW24.out HST.out.size) (fun k hk => (Rw.own_lt HO.out.row k hk).1); have HB5 := Lib.hid ((Cm.app_facts HO.out hgrow5).2 W BB.out HWW2.out); have HMN1 : Hid ((MK ++ [(⟨[122, 122], 8, tk, [], none, 0⟩ : Cm.LockC)]).length ≤ 1001 ∧ (∀ x ∈ MK ++ [(⟨[122, 122], 8, tk, [], none, 0⟩ : Cm.LockC)], x.line.length ≤ 1000) ∧ (∀ x ∈ MK ++ [(⟨[122, 122], 8, tk, [], none, 0⟩ : Cm.LockC)], x.name.length ≤ maxLen) ∧ ((⟨[122, 122], 8, tk, [], none, 0⟩ : Cm.LockC) ∈ MK ++ [(⟨[122, 122], 8, tk, [], none, 0⟩ : Cm.LockC)])) := Lib.hid (Cm.add_fits HMK.out rfl (by show 2 ≤ maxLen; unfold maxLen; omega)); generalize hMN : MK ++ [(⟨[122, 122], 8, tk, [], none, 0⟩ : Cm.LockC)] = MN at ho5 od5 HMN1; obtain ⟨a5, c5, rfl⟩ := Rw.own_form ho5; have HY5 := Lib.hid (show Cm.BxAt w5 W.heap.size _ from (hbb5.block W.heap.size (by rw [HSW.out]; omega)).trans HY.out); have HO5 := Lib.hid od5; clear hown5 hgrow5 ho5 od5 hbb5 hMN; have hA := HY5.out; have z0 := Cm.cell_atW hA 0; have z1 := Cm.cell_atW hA 1; have z2 := Cm.cell_atW hA 2; have z3 := Cm.cell_atW hA 3; have z4 := Cm.cell_atW hA 4; have z5 := Cm.cell_atW hA 5; have z6 := Cm.cell_atW hA 6; have z7 := Cm.cell_atW hA 7; have z8 := Cm.cell_atW hA 8; have zf := Cm.frozen_atW hA; simp only [List.getElem?_toArray, List.getElem?_cons_zero, List.getElem?_cons_succ] at z0 z1 z2 z3 z4 z5 z6 z7 z8; clear hA))
    have HMN := Lib.hid (show Cm.maySn ⟨(n : Int), (n : Int), (n : Int), (⟨ti, nu, tk, S, sa, sc, MN, a5, c5, M, ma, mc⟩ : Cm.StC)⟩ = false from Cm.maySn_st (Cm.not_lock (List.mem_map_of_mem HMN1.out.2.2.2) (Cm.oneK_eight _ _ _)))
    have BB9 := Lib.hid (HB5.out.setCell (p := ⟨W.heap.size, 7, none⟩) (Nat.le_refl _) (.slice a5 MN.length c5))
    have HY9 : Hid (Cm.BxAt (w5.setCell ⟨W.heap.size, 7, none⟩ (.slice a5 MN.length c5)) W.heap.size (.cells #[.int .i64 (n : Int), .int .i64 (n : Int), .int .i64 (n : Int), .int .i64 ti, .int .i64 nu, .int .i64 tk, .slice sa S.length sc, .slice a5 MN.length c5, .slice ma M.length mc] 46)) := Lib.hid (HY5.out.set 7 (.slice a5 MN.length c5))
    have HRD : Hid (Cm.RdSt (w5.setCell ⟨W.heap.size, 7, none⟩ (.slice a5 MN.length c5)) (⟨ti, nu, tk, S, sa, sc, MN, a5, c5, M, ma, mc⟩ : Cm.StC)) := Lib.hid (⟨(RX.out.later BB9.out).s, (Cm.OwnD.setB HO5.out (g := W.heap.size) (by rw [HSW.out]; omega) 7 _).rd, (RX.out.later BB9.out).m⟩)
    go_upto_region 16 with fail
    generalize (w5.setCell ⟨W.heap.size, 7, none⟩ (.slice a5 MN.length c5)) = W9 at BB9 HY9 HRD ⊢
    clear z0 z1 z2 z3 z4 z5 z6 z7 z8 zf k0 k1 k2 k3 k4 k5 k6 k7 k8 kf y0 y1 y2 y3 y4 y5 y6 y7 y8 yf
    have hA := HY9.out
    have y0 := Cm.cell_atW hA 0
    have y1 := Cm.cell_atW hA 1
    have y2 := Cm.cell_atW hA 2
    have y3 := Cm.cell_atW hA 3
    have y4 := Cm.cell_atW hA 4
    have y5 := Cm.cell_atW hA 5
    have y6 := Cm.cell_atW hA 6
    have y7 := Cm.cell_atW hA 7
    have y8 := Cm.cell_atW hA 8
    have yf := Cm.frozen_atW hA
    simp only [List.getElem?_toArray, List.getElem?_cons_zero, List.getElem?_cons_succ] at y0 y1 y2 y3 y4 y5 y6 y7 y8
    clear hA
    have CP := Lib.hid (Cm.PutSnap_no ⟨(n : Int), (n : Int), (n : Int), (⟨ti, nu, tk, S, sa, sc, MN, a5, c5, M, ma, mc⟩ : Cm.StC)⟩ W9 HRD.out (by show S.length ≤ 1000; have := HS5.out; omega) (by show MN.length ≤ 9223372036854775807; have := HMN1.out.1; omega) HMN1.out.2.1 HMN1.out.2.2.1 HMN.out)
    unfold Cm.snapVal Cm.StC.sv Cm.StC.kv Cm.StC.mv at CP
    dsimp only at CP
    go_wp2_with fail
    refine CP.out.mono ?_
    rintro e w6 ⟨pa, pc, rfl, hb6⟩
    have BB6 := Lib.hid (step BB9.out hb6)
    have HRD6 := Lib.hid (HRD.out.later hb6)
    have HY6 := Lib.hid (HY9.out.later hb6)
    clear hb6 y0 y1 y2 y3 y4 y5 y6 y7 y8 yf
    have hA := HX.out.later BB6.out
    have k0 := Cm.cell_atW hA 0
    have k1 := Cm.cell_atW hA 1
    have k2 := Cm.cell_atW hA 2
    have k3 := Cm.cell_atW hA 3
    have k4 := Cm.cell_atW hA 4
    have k5 := Cm.cell_atW hA 5
    have k6 := Cm.cell_atW hA 6
    have k7 := Cm.cell_atW hA 7
    have k8 := Cm.cell_atW hA 8
    have kf := Cm.frozen_atW hA
    simp only [List.getElem?_toArray, List.getElem?_cons_zero, List.getElem?_cons_succ] at k0 k1 k2 k3 k4 k5 k6 k7 k8
    clear hA
    have hA := HY6.out
    have y0 := Cm.cell_atW hA 0
    have y1 := Cm.cell_atW hA 1
    have y2 := Cm.cell_atW hA 2
    have y3 := Cm.cell_atW hA 3
    have y4 := Cm.cell_atW hA 4
    have y5 := Cm.cell_atW hA 5
    have y6 := Cm.cell_atW hA 6
    have y7 := Cm.cell_atW hA 7
    have y8 := Cm.cell_atW hA 8
    have yf := Cm.frozen_atW hA
    simp only [List.getElem?_toArray, List.getElem?_cons_zero, List.getElem?_cons_succ] at y0 y1 y2 y3 y4 y5 y6 y7 y8
    clear hA
    go_wp2_with fail
    refine (C2.out _ (RX.out.later BB6.out)).mono ?_
    rintro e w7 ⟨rfl, hb7⟩
    have BB7 := Lib.hid (step BB6.out hb7)
    have CM := Lib.hid (Cm.MaySnap_no ⟨(n : Int), (n : Int), (n : Int), (⟨ti, nu, tk, S, sa, sc, MN, a5, c5, M, ma, mc⟩ : Cm.StC)⟩ w7 (HRD6.out.later hb7) (by show S.length ≤ 1000; have := HS5.out; omega) (by show MN.length ≤ 9223372036854775807; have := HMN1.out.1; omega) HMN1.out.2.1 HMN1.out.2.2.1 HMN.out)
    have HY7 := Lib.hid (HY6.out.later hb7)
    unfold Cm.snapVal Cm.StC.sv Cm.StC.kv Cm.StC.mv at CM
    dsimp only at CM
    clear hb7 y0 y1 y2 y3 y4 y5 y6 y7 y8 yf k0 k1 k2 k3 k4 k5 k6 k7 k8 kf
    have hA := HY7.out
    have y0 := Cm.cell_atW hA 0
    have y1 := Cm.cell_atW hA 1
    have y2 := Cm.cell_atW hA 2
    have y3 := Cm.cell_atW hA 3
    have y4 := Cm.cell_atW hA 4
    have y5 := Cm.cell_atW hA 5
    have y6 := Cm.cell_atW hA 6
    have y7 := Cm.cell_atW hA 7
    have y8 := Cm.cell_atW hA 8
    have yf := Cm.frozen_atW hA
    simp only [List.getElem?_toArray, List.getElem?_cons_zero, List.getElem?_cons_succ] at y0 y1 y2 y3 y4 y5 y6 y7 y8
    clear hA
    go_wp2_with fail
    refine CM.out.mono ?_
    rintro e w8 ⟨rfl, hb8⟩
    have BB8 := Lib.hid (step BB7.out hb8)
    go_wp2_with fail
    refine (C0.out _).mono ?_
    rintro e w9 ⟨rfl, hb9⟩
    go_wp2
    go_ret
    exact ⟨rfl, step BW.out (step BB8.out hb9)⟩
  | 1, _ =>
    have hM : (h : Int) % 6 = 1 := hM
    have hM2 : (h : Int).tmod 6 = 1 := hM2
    have HMN := Lib.hid (show Cm.maySn ⟨(n : Int), (n : Int), (n : Int), (⟨ti, -1, tk, S, sa, sc, MK, ca, cc, M, ma, mc⟩ : Cm.StC)⟩ = false from Cm.maySn_st (Cm.not_num (by show Cm.highF (-1) 0 = false; decide)))
    have BB9 := Lib.hid (BB.out.setCell (p := ⟨W.heap.size, 4, none⟩) (Nat.le_refl _) (.int .i64 (-1)))
    have HY9 : Hid (Cm.BxAt (W4.setCell ⟨W.heap.size, 4, none⟩ (.int .i64 (-1))) W.heap.size (.cells #[.int .i64 (n : Int), .int .i64 (n : Int), .int .i64 (n : Int), .int .i64 ti, .int .i64 (-1), .int .i64 tk, .slice sa S.length sc, .slice ca MK.length cc, .slice ma M.length mc] 46)) := Lib.hid (HY.out.set 4 (.int .i64 (-1)))
    have HRD : Hid (Cm.RdSt (W4.setCell ⟨W.heap.size, 4, none⟩ (.int .i64 (-1))) (⟨ti, -1, tk, S, sa, sc, MK, ca, cc, M, ma, mc⟩ : Cm.StC)) := Lib.hid (⟨(RX.out.later BB9.out).s, (Cm.OwnD.setB HO.out (g := W.heap.size) (by rw [HSW.out]; omega) 4 _).rd, (RX.out.later BB9.out).m⟩)
    go_upto_region 16 with fail
    generalize (W4.setCell ⟨W.heap.size, 4, none⟩ (.int .i64 (-1))) = W9 at BB9 HY9 HRD ⊢
    clear k0 k1 k2 k3 k4 k5 k6 k7 k8 kf y0 y1 y2 y3 y4 y5 y6 y7 y8 yf
    have hA := HY9.out
    have y0 := Cm.cell_atW hA 0
    have y1 := Cm.cell_atW hA 1
    have y2 := Cm.cell_atW hA 2
    have y3 := Cm.cell_atW hA 3
    have y4 := Cm.cell_atW hA 4
    have y5 := Cm.cell_atW hA 5
    have y6 := Cm.cell_atW hA 6
    have y7 := Cm.cell_atW hA 7
    have y8 := Cm.cell_atW hA 8
    have yf := Cm.frozen_atW hA
    simp only [List.getElem?_toArray, List.getElem?_cons_zero, List.getElem?_cons_succ] at y0 y1 y2 y3 y4 y5 y6 y7 y8
    clear hA
    have CP := Lib.hid (Cm.PutSnap_no ⟨(n : Int), (n : Int), (n : Int), (⟨ti, -1, tk, S, sa, sc, MK, ca, cc, M, ma, mc⟩ : Cm.StC)⟩ W9 HRD.out (by show S.length ≤ 1000; have := HS5.out; omega) (by show MK.length ≤ 9223372036854775807; have := HMK.out.1; omega) HMK.out.2.1 HMK.out.2.2 HMN.out)
    unfold Cm.snapVal Cm.StC.sv Cm.StC.kv Cm.StC.mv at CP
    dsimp only at CP
    go_wp2_with fail
    refine CP.out.mono ?_
    rintro e w6 ⟨pa, pc, rfl, hb6⟩
    have BB6 := Lib.hid (step BB9.out hb6)
    have HRD6 := Lib.hid (HRD.out.later hb6)
    have HY6 := Lib.hid (HY9.out.later hb6)
    clear hb6 y0 y1 y2 y3 y4 y5 y6 y7 y8 yf
    have hA := HX.out.later BB6.out
    have k0 := Cm.cell_atW hA 0
    have k1 := Cm.cell_atW hA 1
    have k2 := Cm.cell_atW hA 2
    have k3 := Cm.cell_atW hA 3
    have k4 := Cm.cell_atW hA 4
    have k5 := Cm.cell_atW hA 5
    have k6 := Cm.cell_atW hA 6
    have k7 := Cm.cell_atW hA 7
    have k8 := Cm.cell_atW hA 8
    have kf := Cm.frozen_atW hA
    simp only [List.getElem?_toArray, List.getElem?_cons_zero, List.getElem?_cons_succ] at k0 k1 k2 k3 k4 k5 k6 k7 k8
    clear hA
    have hA := HY6.out
    have y0 := Cm.cell_atW hA 0
    have y1 := Cm.cell_atW hA 1
    have y2 := Cm.cell_atW hA 2
    have y3 := Cm.cell_atW hA 3
    have y4 := Cm.cell_atW hA 4
    have y5 := Cm.cell_atW hA 5
    have y6 := Cm.cell_atW hA 6
    have y7 := Cm.cell_atW hA 7
    have y8 := Cm.cell_atW hA 8
    have yf := Cm.frozen_atW hA
    simp only [List.getElem?_toArray, List.getElem?_cons_zero, List.getElem?_cons_succ] at y0 y1 y2 y3 y4 y5 y6 y7 y8
    clear hA
    go_wp2_with fail
    refine (C2.out _ (RX.out.later BB6.out)).mono ?_
    rintro e w7 ⟨rfl, hb7⟩
    have BB7 := Lib.hid (step BB6.out hb7)
    have CM := Lib.hid (Cm.MaySnap_no ⟨(n : Int), (n : Int), (n : Int), (⟨ti, -1, tk, S, sa, sc, MK, ca, cc, M, ma, mc⟩ : Cm.StC)⟩ w7 (HRD6.out.later hb7) (by show S.length ≤ 1000; have := HS5.out; omega) (by show MK.length ≤ 9223372036854775807; have := HMK.out.1; omega) HMK.out.2.1 HMK.out.2.2 HMN.out)
    have HY7 := Lib.hid (HY6.out.later hb7)
    unfold Cm.snapVal Cm.StC.sv Cm.StC.kv Cm.StC.mv at CM
    dsimp only at CM
    clear hb7 y0 y1 y2 y3 y4 y5 y6 y7 y8 yf k0 k1 k2 k3 k4 k5 k6 k7 k8 kf
    have hA := HY7.out
    have y0 := Cm.cell_atW hA 0
    have y1 := Cm.cell_atW hA 1
    have y2 := Cm.cell_atW hA 2
    have y3 := Cm.cell_atW hA 3
    have y4 := Cm.cell_atW hA 4
    have y5 := Cm.cell_atW hA 5
    have y6 := Cm.cell_atW hA 6
    have y7 := Cm.cell_atW hA 7
    have y8 := Cm.cell_atW hA 8
    have yf := Cm.frozen_atW hA
    simp only [List.getElem?_toArray, List.getElem?_cons_zero, List.getElem?_cons_succ] at y0 y1 y2 y3 y4 y5 y6 y7 y8
    clear hA
    go_wp2_with fail
    refine CM.out.mono ?_
    rintro e w8 ⟨rfl, hb8⟩
    have BB8 := Lib.hid (step BB7.out hb8)
    go_wp2_with fail
    refine (C0.out _).mono ?_
    rintro e w9 ⟨rfl, hb9⟩
    go_wp2
    go_ret
    exact ⟨rfl, step BW.out (step BB8.out hb9)⟩
  | 2, _ =>
    have hM : (h : Int) % 6 = 2 := hM
    have hM2 : (h : Int).tmod 6 = 2 := hM2
    have hwE : IntKind.i64.wrap (2305843009213693953 + (n : Int)) = 2305843009213693953 + (n : Int) := by rw [IntKind.wrap_i64]; omega
    have HMN := Lib.hid (show Cm.maySn ⟨(n : Int), (n : Int), (n : Int), (⟨2305843009213693953 + (n : Int), nu, tk, S, sa, sc, MK, ca, cc, M, ma, mc⟩ : Cm.StC)⟩ = false from Cm.maySn_st (Cm.not_time (by show Cm.highF (2305843009213693953 + (n : Int)) 0 = false; unfold Cm.highF; simp; omega)))
    have BB9 := Lib.hid (BB.out.setCell (p := ⟨W.heap.size, 3, none⟩) (Nat.le_refl _) (.int .i64 (2305843009213693953 + (n : Int))))
    have HY9 : Hid (Cm.BxAt (W4.setCell ⟨W.heap.size, 3, none⟩ (.int .i64 (2305843009213693953 + (n : Int)))) W.heap.size (.cells #[.int .i64 (n : Int), .int .i64 (n : Int), .int .i64 (n : Int), .int .i64 (2305843009213693953 + (n : Int)), .int .i64 nu, .int .i64 tk, .slice sa S.length sc, .slice ca MK.length cc, .slice ma M.length mc] 46)) := Lib.hid (HY.out.set 3 (.int .i64 (2305843009213693953 + (n : Int))))
    have HRD : Hid (Cm.RdSt (W4.setCell ⟨W.heap.size, 3, none⟩ (.int .i64 (2305843009213693953 + (n : Int)))) (⟨2305843009213693953 + (n : Int), nu, tk, S, sa, sc, MK, ca, cc, M, ma, mc⟩ : Cm.StC)) := Lib.hid (⟨(RX.out.later BB9.out).s, (Cm.OwnD.setB HO.out (g := W.heap.size) (by rw [HSW.out]; omega) 3 _).rd, (RX.out.later BB9.out).m⟩)
    go_upto_region 16 with fail
    generalize (W4.setCell ⟨W.heap.size, 3, none⟩ (.int .i64 (2305843009213693953 + (n : Int)))) = W9 at BB9 HY9 HRD ⊢
    clear k0 k1 k2 k3 k4 k5 k6 k7 k8 kf y0 y1 y2 y3 y4 y5 y6 y7 y8 yf
    have hA := HY9.out
    have y0 := Cm.cell_atW hA 0
    have y1 := Cm.cell_atW hA 1
    have y2 := Cm.cell_atW hA 2
    have y3 := Cm.cell_atW hA 3
    have y4 := Cm.cell_atW hA 4
    have y5 := Cm.cell_atW hA 5
    have y6 := Cm.cell_atW hA 6
    have y7 := Cm.cell_atW hA 7
    have y8 := Cm.cell_atW hA 8
    have yf := Cm.frozen_atW hA
    simp only [List.getElem?_toArray, List.getElem?_cons_zero, List.getElem?_cons_succ] at y0 y1 y2 y3 y4 y5 y6 y7 y8
    clear hA
    have CP := Lib.hid (Cm.PutSnap_no ⟨(n : Int), (n : Int), (n : Int), (⟨2305843009213693953 + (n : Int), nu, tk, S, sa, sc, MK, ca, cc, M, ma, mc⟩ : Cm.StC)⟩ W9 HRD.out (by show S.length ≤ 1000; have := HS5.out; omega) (by show MK.length ≤ 9223372036854775807; have := HMK.out.1; omega) HMK.out.2.1 HMK.out.2.2 HMN.out)
    unfold Cm.snapVal Cm.StC.sv Cm.StC.kv Cm.StC.mv at CP
    dsimp only at CP
    go_wp2_with fail
    refine CP.out.mono ?_
    rintro e w6 ⟨pa, pc, rfl, hb6⟩
    have BB6 := Lib.hid (step BB9.out hb6)
    have HRD6 := Lib.hid (HRD.out.later hb6)
    have HY6 := Lib.hid (HY9.out.later hb6)
    clear hb6 y0 y1 y2 y3 y4 y5 y6 y7 y8 yf
    have hA := HX.out.later BB6.out
    have k0 := Cm.cell_atW hA 0
    have k1 := Cm.cell_atW hA 1
    have k2 := Cm.cell_atW hA 2
    have k3 := Cm.cell_atW hA 3
    have k4 := Cm.cell_atW hA 4
    have k5 := Cm.cell_atW hA 5
    have k6 := Cm.cell_atW hA 6
    have k7 := Cm.cell_atW hA 7
    have k8 := Cm.cell_atW hA 8
    have kf := Cm.frozen_atW hA
    simp only [List.getElem?_toArray, List.getElem?_cons_zero, List.getElem?_cons_succ] at k0 k1 k2 k3 k4 k5 k6 k7 k8
    clear hA
    have hA := HY6.out
    have y0 := Cm.cell_atW hA 0
    have y1 := Cm.cell_atW hA 1
    have y2 := Cm.cell_atW hA 2
    have y3 := Cm.cell_atW hA 3
    have y4 := Cm.cell_atW hA 4
    have y5 := Cm.cell_atW hA 5
    have y6 := Cm.cell_atW hA 6
    have y7 := Cm.cell_atW hA 7
    have y8 := Cm.cell_atW hA 8
    have yf := Cm.frozen_atW hA
    simp only [List.getElem?_toArray, List.getElem?_cons_zero, List.getElem?_cons_succ] at y0 y1 y2 y3 y4 y5 y6 y7 y8
    clear hA
    go_wp2_with fail
    refine (C2.out _ (RX.out.later BB6.out)).mono ?_
    rintro e w7 ⟨rfl, hb7⟩
    have BB7 := Lib.hid (step BB6.out hb7)
    have CM := Lib.hid (Cm.MaySnap_no ⟨(n : Int), (n : Int), (n : Int), (⟨2305843009213693953 + (n : Int), nu, tk, S, sa, sc, MK, ca, cc, M, ma, mc⟩ : Cm.StC)⟩ w7 (HRD6.out.later hb7) (by show S.length ≤ 1000; have := HS5.out; omega) (by show MK.length ≤ 9223372036854775807; have := HMK.out.1; omega) HMK.out.2.1 HMK.out.2.2 HMN.out)
    have HY7 := Lib.hid (HY6.out.later hb7)
    unfold Cm.snapVal Cm.StC.sv Cm.StC.kv Cm.StC.mv at CM
    dsimp only at CM
    clear hb7 y0 y1 y2 y3 y4 y5 y6 y7 y8 yf k0 k1 k2 k3 k4 k5 k6 k7 k8 kf
    have hA := HY7.out
    have y0 := Cm.cell_atW hA 0
    have y1 := Cm.cell_atW hA 1
    have y2 := Cm.cell_atW hA 2
    have y3 := Cm.cell_atW hA 3
    have y4 := Cm.cell_atW hA 4
    have y5 := Cm.cell_atW hA 5
    have y6 := Cm.cell_atW hA 6
    have y7 := Cm.cell_atW hA 7
    have y8 := Cm.cell_atW hA 8
    have yf := Cm.frozen_atW hA
    simp only [List.getElem?_toArray, List.getElem?_cons_zero, List.getElem?_cons_succ] at y0 y1 y2 y3 y4 y5 y6 y7 y8
    clear hA
    go_wp2_with fail
    refine CM.out.mono ?_
    rintro e w8 ⟨rfl, hb8⟩
    have BB8 := Lib.hid (step BB7.out hb8)
    go_wp2_with fail
    refine (C0.out _).mono ?_
    rintro e w9 ⟨rfl, hb9⟩
    go_wp2
    go_ret
    exact ⟨rfl, step BW.out (step BB8.out hb9)⟩
  | 3, _ =>
    have hM : (h : Int) % 6 = 3 := hM
    have hM2 : (h : Int).tmod 6 = 3 := hM2
    have hwE : IntKind.i64.wrap (-1 - (n : Int)) = -1 - (n : Int) := by rw [IntKind.wrap_i64]; omega
    have HMN := Lib.hid (show Cm.maySn ⟨-1 - (n : Int), (n : Int), (n : Int), (⟨ti, nu, tk, S, sa, sc, MK, ca, cc, M, ma, mc⟩ : Cm.StC)⟩ = false from Cm.maySn_done (by show Cm.highF (-1 - (n : Int)) 0 = false; unfold Cm.highF; simp; omega))
    have BB9 := Lib.hid (BB.out.setCell (p := ⟨W.heap.size, 0, none⟩) (Nat.le_refl _) (.int .i64 (-1 - (n : Int))))
    have HY9 : Hid (Cm.BxAt (W4.setCell ⟨W.heap.size, 0, none⟩ (.int .i64 (-1 - (n : Int)))) W.heap.size (.cells #[.int .i64 (-1 - (n : Int)), .int .i64 (n : Int), .int .i64 (n : Int), .int .i64 ti, .int .i64 nu, .int .i64 tk, .slice sa S.length sc, .slice ca MK.length cc, .slice ma M.length mc] 46)) := Lib.hid (HY.out.set 0 (.int .i64 (-1 - (n : Int))))
    have HRD : Hid (Cm.RdSt (W4.setCell ⟨W.heap.size, 0, none⟩ (.int .i64 (-1 - (n : Int)))) (⟨ti, nu, tk, S, sa, sc, MK, ca, cc, M, ma, mc⟩ : Cm.StC)) := Lib.hid (⟨(RX.out.later BB9.out).s, (Cm.OwnD.setB HO.out (g := W.heap.size) (by rw [HSW.out]; omega) 0 _).rd, (RX.out.later BB9.out).m⟩)
    go_upto_region 16 with fail
    generalize (W4.setCell ⟨W.heap.size, 0, none⟩ (.int .i64 (-1 - (n : Int)))) = W9 at BB9 HY9 HRD ⊢
    clear k0 k1 k2 k3 k4 k5 k6 k7 k8 kf y0 y1 y2 y3 y4 y5 y6 y7 y8 yf
    have hA := HY9.out
    have y0 := Cm.cell_atW hA 0
    have y1 := Cm.cell_atW hA 1
    have y2 := Cm.cell_atW hA 2
    have y3 := Cm.cell_atW hA 3
    have y4 := Cm.cell_atW hA 4
    have y5 := Cm.cell_atW hA 5
    have y6 := Cm.cell_atW hA 6
    have y7 := Cm.cell_atW hA 7
    have y8 := Cm.cell_atW hA 8
    have yf := Cm.frozen_atW hA
    simp only [List.getElem?_toArray, List.getElem?_cons_zero, List.getElem?_cons_succ] at y0 y1 y2 y3 y4 y5 y6 y7 y8
    clear hA
    have CP := Lib.hid (Cm.PutSnap_no ⟨-1 - (n : Int), (n : Int), (n : Int), (⟨ti, nu, tk, S, sa, sc, MK, ca, cc, M, ma, mc⟩ : Cm.StC)⟩ W9 HRD.out (by show S.length ≤ 1000; have := HS5.out; omega) (by show MK.length ≤ 9223372036854775807; have := HMK.out.1; omega) HMK.out.2.1 HMK.out.2.2 HMN.out)
    unfold Cm.snapVal Cm.StC.sv Cm.StC.kv Cm.StC.mv at CP
    dsimp only at CP
    go_wp2_with fail
    refine CP.out.mono ?_
    rintro e w6 ⟨pa, pc, rfl, hb6⟩
    have BB6 := Lib.hid (step BB9.out hb6)
    have HRD6 := Lib.hid (HRD.out.later hb6)
    have HY6 := Lib.hid (HY9.out.later hb6)
    clear hb6 y0 y1 y2 y3 y4 y5 y6 y7 y8 yf
    have hA := HX.out.later BB6.out
    have k0 := Cm.cell_atW hA 0
    have k1 := Cm.cell_atW hA 1
    have k2 := Cm.cell_atW hA 2
    have k3 := Cm.cell_atW hA 3
    have k4 := Cm.cell_atW hA 4
    have k5 := Cm.cell_atW hA 5
    have k6 := Cm.cell_atW hA 6
    have k7 := Cm.cell_atW hA 7
    have k8 := Cm.cell_atW hA 8
    have kf := Cm.frozen_atW hA
    simp only [List.getElem?_toArray, List.getElem?_cons_zero, List.getElem?_cons_succ] at k0 k1 k2 k3 k4 k5 k6 k7 k8
    clear hA
    have hA := HY6.out
    have y0 := Cm.cell_atW hA 0
    have y1 := Cm.cell_atW hA 1
    have y2 := Cm.cell_atW hA 2
    have y3 := Cm.cell_atW hA 3
    have y4 := Cm.cell_atW hA 4
    have y5 := Cm.cell_atW hA 5
    have y6 := Cm.cell_atW hA 6
    have y7 := Cm.cell_atW hA 7
    have y8 := Cm.cell_atW hA 8
    have yf := Cm.frozen_atW hA
    simp only [List.getElem?_toArray, List.getElem?_cons_zero, List.getElem?_cons_succ] at y0 y1 y2 y3 y4 y5 y6 y7 y8
    clear hA
    go_wp2_with fail
    refine (C2.out _ (RX.out.later BB6.out)).mono ?_
    rintro e w7 ⟨rfl, hb7⟩
    have BB7 := Lib.hid (step BB6.out hb7)
    have CM := Lib.hid (Cm.MaySnap_no ⟨-1 - (n : Int), (n : Int), (n : Int), (⟨ti, nu, tk, S, sa, sc, MK, ca, cc, M, ma, mc⟩ : Cm.StC)⟩ w7 (HRD6.out.later hb7) (by show S.length ≤ 1000; have := HS5.out; omega) (by show MK.length ≤ 9223372036854775807; have := HMK.out.1; omega) HMK.out.2.1 HMK.out.2.2 HMN.out)
    have HY7 := Lib.hid (HY6.out.later hb7)
    unfold Cm.snapVal Cm.StC.sv Cm.StC.kv Cm.StC.mv at CM
    dsimp only at CM
    clear hb7 y0 y1 y2 y3 y4 y5 y6 y7 y8 yf k0 k1 k2 k3 k4 k5 k6 k7 k8 kf
    have hA := HY7.out
    have y0 := Cm.cell_atW hA 0
    have y1 := Cm.cell_atW hA 1
    have y2 := Cm.cell_atW hA 2
    have y3 := Cm.cell_atW hA 3
    have y4 := Cm.cell_atW hA 4
    have y5 := Cm.cell_atW hA 5
    have y6 := Cm.cell_atW hA 6
    have y7 := Cm.cell_atW hA 7
    have y8 := Cm.cell_atW hA 8
    have yf := Cm.frozen_atW hA
    simp only [List.getElem?_toArray, List.getElem?_cons_zero, List.getElem?_cons_succ] at y0 y1 y2 y3 y4 y5 y6 y7 y8
    clear hA
    go_wp2_with fail
    refine CM.out.mono ?_
    rintro e w8 ⟨rfl, hb8⟩
    have BB8 := Lib.hid (step BB7.out hb8)
    go_wp2_with fail
    refine (C0.out _).mono ?_
    rintro e w9 ⟨rfl, hb9⟩
    go_wp2
    go_ret
    exact ⟨rfl, step BW.out (step BB8.out hb9)⟩
  | 4, _ =>
    have hM : (h : Int) % 6 = 4 := hM
    have hM2 : (h : Int).tmod 6 = 4 := hM2
    have hwn : IntKind.i64.wrap (nu + 1) = nu + 1 := by have := HNU.out; have := HYN.out; rw [IntKind.wrap_i64]; omega
    have HST := Lib.hid (newAlloc W4 (.cells #[.int .i64 0, .int .i64 (nu + 1), .int .i64 0] 73))
    have HOW : Hid ((W4.alloc (.cells #[.int .i64 0, .int .i64 (nu + 1), .int .i64 0] 73)).ownsRow W4.heap.size 73 3 (.slice (some ⟨W4.heap.size, 0, none⟩) 1 1) 1 (flatX Cm.cellsS [(⟨0, nu + 1, 0⟩ : Cm.SesV)])) := Lib.hid (World.ownsRow_lit (base := W4.heap.size) (e := 73) (size := 3) W4 #[.int .i64 0, .int .i64 (nu + 1), .int .i64 0] 1 (Nat.le_refl _) (by unfold maxLen; omega) rfl)
    have HRX := Lib.hid ((RX.out.later BB.out).s.later HST.out)
    have HBW4 : Hid (W.heap.size < W4.heap.size) := Lib.hid (Cm.get_ltW HY.out)
    have hA := (HX.out.later BB.out).later HST.out
    have z0 := Cm.cell_atW hA 0
    have z1 := Cm.cell_atW hA 1
    have z2 := Cm.cell_atW hA 2
    have z3 := Cm.cell_atW hA 3
    have z4 := Cm.cell_atW hA 4
    have z5 := Cm.cell_atW hA 5
    have z6 := Cm.cell_atW hA 6
    have z7 := Cm.cell_atW hA 7
    have z8 := Cm.cell_atW hA 8
    have zf := Cm.frozen_atW hA
    simp only [List.getElem?_toArray, List.getElem?_cons_zero, List.getElem?_cons_succ] at z0 z1 z2 z3 z4 z5 z6 z7 z8
    clear hA
    go_upto_region 16 with (at_builtin; go_loud (refine wpList_append_rdx Cm.cellsS_length (by omega) Cm.cellsS_one rfl (.tmp 64) (.tmp 67) 22 rfl W4.heap.size 73 i0 _ 24 Tryz.underlying22 hi hz0 hz1 hz2 rfl (.slice (some ⟨W4.heap.size, 0, none⟩) 1 1) 1 _ rfl HOW.out _ S rfl HRX.out (by unfold maxLen; have := HS5.out; omega) (by have := HS5.out; omega) HST.out.size ?_; intro v5 w5 hown5 hgrow5; have ho5 : w5.ownsRow W4.heap.size 73 3 v5 ((⟨0, nu + 1, 0⟩ : Cm.SesV) :: S).length (flatX Cm.cellsS ((⟨0, nu + 1, 0⟩ : Cm.SesV) :: S)) := (by rw [List.length_cons, Nat.add_comm, show (⟨0, nu + 1, 0⟩ : Cm.SesV) :: S = [(⟨0, nu + 1, 0⟩ : Cm.SesV)] ++ S from rfl, flatX_append]; exact hown5); have hbb5 : Below W4.heap.size W4 w5 := HST.out.grown hgrow5 HST.out.size (fun k hk => by cases hk; exact Nat.le_refl _); have HBB5 := Lib.hid hbb5; have HB5 := Lib.hid (step BB.out hbb5); have HSN : Hid (((⟨0, nu + 1, 0⟩ : Cm.SesV) :: S).length ≤ 1000 ∧ (⟨0, nu + 1, 0⟩ : Cm.SesV) ∈ (⟨0, nu + 1, 0⟩ : Cm.SesV) :: S) := Lib.hid ⟨by rw [List.length_cons]; have := HS5.out; omega, List.mem_cons_self⟩; generalize hSN : (⟨0, nu + 1, 0⟩ : Cm.SesV) :: S = SN at ho5 HSN; obtain ⟨a5, c5, rfl⟩ := Rw.own_form ho5; have HY5 := Lib.hid (HY.out.later hbb5); have HO5 := Lib.hid ho5; clear hown5 hgrow5 ho5 hbb5 hSN; have hA := HY5.out; have x0 := Cm.cell_atW hA 0; have x1 := Cm.cell_atW hA 1; have x2 := Cm.cell_atW hA 2; have x3 := Cm.cell_atW hA 3; have x4 := Cm.cell_atW hA 4; have x5 := Cm.cell_atW hA 5; have x6 := Cm.cell_atW hA 6; have x7 := Cm.cell_atW hA 7; have x8 := Cm.cell_atW hA 8; have xf := Cm.frozen_atW hA; simp only [List.getElem?_toArray, List.getElem?_cons_zero, List.getElem?_cons_succ] at x0 x1 x2 x3 x4 x5 x6 x7 x8; clear hA))
    have HMN := Lib.hid (show Cm.maySn ⟨(n : Int), (n : Int), (n : Int), (⟨ti, nu, tk, SN, a5, c5, MK, ca, cc, M, ma, mc⟩ : Cm.StC)⟩ = false from Cm.maySn_st (Cm.not_ses HSN.out.2 (by show nu < nu + 1; omega)))
    have BB9 := Lib.hid (HB5.out.setCell (p := ⟨W.heap.size, 6, none⟩) (Nat.le_refl _) (.slice a5 SN.length c5))
    have HY9 : Hid (Cm.BxAt (w5.setCell ⟨W.heap.size, 6, none⟩ (.slice a5 SN.length c5)) W.heap.size (.cells #[.int .i64 (n : Int), .int .i64 (n : Int), .int .i64 (n : Int), .int .i64 ti, .int .i64 nu, .int .i64 tk, .slice a5 SN.length c5, .slice ca MK.length cc, .slice ma M.length mc] 46)) := Lib.hid (HY5.out.set 6 (.slice a5 SN.length c5))
    have HRD : Hid (Cm.RdSt (w5.setCell ⟨W.heap.size, 6, none⟩ (.slice a5 SN.length c5)) (⟨ti, nu, tk, SN, a5, c5, MK, ca, cc, M, ma, mc⟩ : Cm.StC)) := Lib.hid (⟨RdX.own Cm.cellsS_length (ownsRow_setCell_below HO5.out (show W.heap.size < W4.heap.size from HBW4.out) _), (Cm.OwnD.setB (HO.out.later HBB5.out) (g := W.heap.size) (by rw [HSW.out]; omega) 6 _).rd, (RX.out.later BB9.out).m⟩)
    go_upto_region 16 with fail
    generalize (w5.setCell ⟨W.heap.size, 6, none⟩ (.slice a5 SN.length c5)) = W9 at BB9 HY9 HRD ⊢
    clear x0 x1 x2 x3 x4 x5 x6 x7 x8 xf z0 z1 z2 z3 z4 z5 z6 z7 z8 zf k0 k1 k2 k3 k4 k5 k6 k7 k8 kf y0 y1 y2 y3 y4 y5 y6 y7 y8 yf
    have hA := HY9.out
    have y0 := Cm.cell_atW hA 0
    have y1 := Cm.cell_atW hA 1
    have y2 := Cm.cell_atW hA 2
    have y3 := Cm.cell_atW hA 3
    have y4 := Cm.cell_atW hA 4
    have y5 := Cm.cell_atW hA 5
    have y6 := Cm.cell_atW hA 6
    have y7 := Cm.cell_atW hA 7
    have y8 := Cm.cell_atW hA 8
    have yf := Cm.frozen_atW hA
    simp only [List.getElem?_toArray, List.getElem?_cons_zero, List.getElem?_cons_succ] at y0 y1 y2 y3 y4 y5 y6 y7 y8
    clear hA
    have CP := Lib.hid (Cm.PutSnap_no ⟨(n : Int), (n : Int), (n : Int), (⟨ti, nu, tk, SN, a5, c5, MK, ca, cc, M, ma, mc⟩ : Cm.StC)⟩ W9 HRD.out HSN.out.1 (by show MK.length ≤ 9223372036854775807; have := HMK.out.1; omega) HMK.out.2.1 HMK.out.2.2 HMN.out)
    unfold Cm.snapVal Cm.StC.sv Cm.StC.kv Cm.StC.mv at CP
    dsimp only at CP
    go_wp2_with fail
    refine CP.out.mono ?_
    rintro e w6 ⟨pa, pc, rfl, hb6⟩
    have BB6 := Lib.hid (step BB9.out hb6)
    have HRD6 := Lib.hid (HRD.out.later hb6)
    have HY6 := Lib.hid (HY9.out.later hb6)
    clear hb6 y0 y1 y2 y3 y4 y5 y6 y7 y8 yf
    have hA := HX.out.later BB6.out
    have k0 := Cm.cell_atW hA 0
    have k1 := Cm.cell_atW hA 1
    have k2 := Cm.cell_atW hA 2
    have k3 := Cm.cell_atW hA 3
    have k4 := Cm.cell_atW hA 4
    have k5 := Cm.cell_atW hA 5
    have k6 := Cm.cell_atW hA 6
    have k7 := Cm.cell_atW hA 7
    have k8 := Cm.cell_atW hA 8
    have kf := Cm.frozen_atW hA
    simp only [List.getElem?_toArray, List.getElem?_cons_zero, List.getElem?_cons_succ] at k0 k1 k2 k3 k4 k5 k6 k7 k8
    clear hA
    have hA := HY6.out
    have y0 := Cm.cell_atW hA 0
    have y1 := Cm.cell_atW hA 1
    have y2 := Cm.cell_atW hA 2
    have y3 := Cm.cell_atW hA 3
    have y4 := Cm.cell_atW hA 4
    have y5 := Cm.cell_atW hA 5
    have y6 := Cm.cell_atW hA 6
    have y7 := Cm.cell_atW hA 7
    have y8 := Cm.cell_atW hA 8
    have yf := Cm.frozen_atW hA
    simp only [List.getElem?_toArray, List.getElem?_cons_zero, List.getElem?_cons_succ] at y0 y1 y2 y3 y4 y5 y6 y7 y8
    clear hA
    go_wp2_with fail
    refine (C2.out _ (RX.out.later BB6.out)).mono ?_
    rintro e w7 ⟨rfl, hb7⟩
    have BB7 := Lib.hid (step BB6.out hb7)
    have CM := Lib.hid (Cm.MaySnap_no ⟨(n : Int), (n : Int), (n : Int), (⟨ti, nu, tk, SN, a5, c5, MK, ca, cc, M, ma, mc⟩ : Cm.StC)⟩ w7 (HRD6.out.later hb7) HSN.out.1 (by show MK.length ≤ 9223372036854775807; have := HMK.out.1; omega) HMK.out.2.1 HMK.out.2.2 HMN.out)
    have HY7 := Lib.hid (HY6.out.later hb7)
    unfold Cm.snapVal Cm.StC.sv Cm.StC.kv Cm.StC.mv at CM
    dsimp only at CM
    clear hb7 y0 y1 y2 y3 y4 y5 y6 y7 y8 yf k0 k1 k2 k3 k4 k5 k6 k7 k8 kf
    have hA := HY7.out
    have y0 := Cm.cell_atW hA 0
    have y1 := Cm.cell_atW hA 1
    have y2 := Cm.cell_atW hA 2
    have y3 := Cm.cell_atW hA 3
    have y4 := Cm.cell_atW hA 4
    have y5 := Cm.cell_atW hA 5
    have y6 := Cm.cell_atW hA 6
    have y7 := Cm.cell_atW hA 7
    have y8 := Cm.cell_atW hA 8
    have yf := Cm.frozen_atW hA
    simp only [List.getElem?_toArray, List.getElem?_cons_zero, List.getElem?_cons_succ] at y0 y1 y2 y3 y4 y5 y6 y7 y8
    clear hA
    go_wp2_with fail
    refine CM.out.mono ?_
    rintro e w8 ⟨rfl, hb8⟩
    have BB8 := Lib.hid (step BB7.out hb8)
    go_wp2_with fail
    refine (C0.out _).mono ?_
    rintro e w9 ⟨rfl, hb9⟩
    go_wp2
    go_ret
    exact ⟨rfl, step BW.out (step BB8.out hb9)⟩
  | 5, _ =>
    have hM : (h : Int) % 6 = 5 := hM
    have hM2 : (h : Int).tmod 6 = 5 := hM2
    have HMN := Lib.hid (show Cm.maySn ⟨(n : Int), (n : Int), -1, (⟨ti, nu, tk, S, sa, sc, MK, ca, cc, M, ma, mc⟩ : Cm.StC)⟩ = false from Cm.maySn_slot (by show Cm.highF (-1) 0 = false; decide))
    have BB9 := Lib.hid (BB.out.setCell (p := ⟨W.heap.size, 2, none⟩) (Nat.le_refl _) (.int .i64 (-1)))
    have HY9 : Hid (Cm.BxAt (W4.setCell ⟨W.heap.size, 2, none⟩ (.int .i64 (-1))) W.heap.size (.cells #[.int .i64 (n : Int), .int .i64 (n : Int), .int .i64 (-1), .int .i64 ti, .int .i64 nu, .int .i64 tk, .slice sa S.length sc, .slice ca MK.length cc, .slice ma M.length mc] 46)) := Lib.hid (HY.out.set 2 (.int .i64 (-1)))
    have HRD : Hid (Cm.RdSt (W4.setCell ⟨W.heap.size, 2, none⟩ (.int .i64 (-1))) (⟨ti, nu, tk, S, sa, sc, MK, ca, cc, M, ma, mc⟩ : Cm.StC)) := Lib.hid (⟨(RX.out.later BB9.out).s, (Cm.OwnD.setB HO.out (g := W.heap.size) (by rw [HSW.out]; omega) 2 _).rd, (RX.out.later BB9.out).m⟩)
    go_upto_region 16 with fail
    generalize (W4.setCell ⟨W.heap.size, 2, none⟩ (.int .i64 (-1))) = W9 at BB9 HY9 HRD ⊢
    clear k0 k1 k2 k3 k4 k5 k6 k7 k8 kf y0 y1 y2 y3 y4 y5 y6 y7 y8 yf
    have hA := HY9.out
    have y0 := Cm.cell_atW hA 0
    have y1 := Cm.cell_atW hA 1
    have y2 := Cm.cell_atW hA 2
    have y3 := Cm.cell_atW hA 3
    have y4 := Cm.cell_atW hA 4
    have y5 := Cm.cell_atW hA 5
    have y6 := Cm.cell_atW hA 6
    have y7 := Cm.cell_atW hA 7
    have y8 := Cm.cell_atW hA 8
    have yf := Cm.frozen_atW hA
    simp only [List.getElem?_toArray, List.getElem?_cons_zero, List.getElem?_cons_succ] at y0 y1 y2 y3 y4 y5 y6 y7 y8
    clear hA
    have CP := Lib.hid (Cm.PutSnap_no ⟨(n : Int), (n : Int), -1, (⟨ti, nu, tk, S, sa, sc, MK, ca, cc, M, ma, mc⟩ : Cm.StC)⟩ W9 HRD.out (by show S.length ≤ 1000; have := HS5.out; omega) (by show MK.length ≤ 9223372036854775807; have := HMK.out.1; omega) HMK.out.2.1 HMK.out.2.2 HMN.out)
    unfold Cm.snapVal Cm.StC.sv Cm.StC.kv Cm.StC.mv at CP
    dsimp only at CP
    go_wp2_with fail
    refine CP.out.mono ?_
    rintro e w6 ⟨pa, pc, rfl, hb6⟩
    have BB6 := Lib.hid (step BB9.out hb6)
    have HRD6 := Lib.hid (HRD.out.later hb6)
    have HY6 := Lib.hid (HY9.out.later hb6)
    clear hb6 y0 y1 y2 y3 y4 y5 y6 y7 y8 yf
    have hA := HX.out.later BB6.out
    have k0 := Cm.cell_atW hA 0
    have k1 := Cm.cell_atW hA 1
    have k2 := Cm.cell_atW hA 2
    have k3 := Cm.cell_atW hA 3
    have k4 := Cm.cell_atW hA 4
    have k5 := Cm.cell_atW hA 5
    have k6 := Cm.cell_atW hA 6
    have k7 := Cm.cell_atW hA 7
    have k8 := Cm.cell_atW hA 8
    have kf := Cm.frozen_atW hA
    simp only [List.getElem?_toArray, List.getElem?_cons_zero, List.getElem?_cons_succ] at k0 k1 k2 k3 k4 k5 k6 k7 k8
    clear hA
    have hA := HY6.out
    have y0 := Cm.cell_atW hA 0
    have y1 := Cm.cell_atW hA 1
    have y2 := Cm.cell_atW hA 2
    have y3 := Cm.cell_atW hA 3
    have y4 := Cm.cell_atW hA 4
    have y5 := Cm.cell_atW hA 5
    have y6 := Cm.cell_atW hA 6
    have y7 := Cm.cell_atW hA 7
    have y8 := Cm.cell_atW hA 8
    have yf := Cm.frozen_atW hA
    simp only [List.getElem?_toArray, List.getElem?_cons_zero, List.getElem?_cons_succ] at y0 y1 y2 y3 y4 y5 y6 y7 y8
    clear hA
    go_wp2_with fail
    refine (C2.out _ (RX.out.later BB6.out)).mono ?_
    rintro e w7 ⟨rfl, hb7⟩
    have BB7 := Lib.hid (step BB6.out hb7)
    have CM := Lib.hid (Cm.MaySnap_no ⟨(n : Int), (n : Int), -1, (⟨ti, nu, tk, S, sa, sc, MK, ca, cc, M, ma, mc⟩ : Cm.StC)⟩ w7 (HRD6.out.later hb7) (by show S.length ≤ 1000; have := HS5.out; omega) (by show MK.length ≤ 9223372036854775807; have := HMK.out.1; omega) HMK.out.2.1 HMK.out.2.2 HMN.out)
    have HY7 := Lib.hid (HY6.out.later hb7)
    unfold Cm.snapVal Cm.StC.sv Cm.StC.kv Cm.StC.mv at CM
    dsimp only at CM
    clear hb7 y0 y1 y2 y3 y4 y5 y6 y7 y8 yf k0 k1 k2 k3 k4 k5 k6 k7 k8 kf
    have hA := HY7.out
    have y0 := Cm.cell_atW hA 0
    have y1 := Cm.cell_atW hA 1
    have y2 := Cm.cell_atW hA 2
    have y3 := Cm.cell_atW hA 3
    have y4 := Cm.cell_atW hA 4
    have y5 := Cm.cell_atW hA 5
    have y6 := Cm.cell_atW hA 6
    have y7 := Cm.cell_atW hA 7
    have y8 := Cm.cell_atW hA 8
    have yf := Cm.frozen_atW hA
    simp only [List.getElem?_toArray, List.getElem?_cons_zero, List.getElem?_cons_succ] at y0 y1 y2 y3 y4 y5 y6 y7 y8
    clear hA
    go_wp2_with fail
    refine CM.out.mono ?_
    rintro e w8 ⟨rfl, hb8⟩
    have BB8 := Lib.hid (step BB7.out hb8)
    go_wp2_with fail
    refine (C0.out _).mono ?_
    rintro e w9 ⟨rfl, hb9⟩
    go_wp2
    go_ret
    exact ⟨rfl, step BW.out (step BB8.out hb9)⟩

/-! ### THE ROW's STEP -/
set_option maxRecDepth 100000 in
theorem lifted (os : Os) (started : os.Started) (H : Type) (enc : TypeId × Value → H) :
    ReturnsInHanded {} Tryz.checked os 8 .any (Rows.snapRefusesSpec.pre6 enc Tryz.prog Tryz.f8 Rows.snapRefusesRow.domain false) (Rows.snapRefusesSpec.post enc Tryz.prog Tryz.f8 false true false false) := by
  refine returnsInHanded_of_change (C := Tryz.checked) own started (by kernel_rfl) Tryz.func8
    (ChangeSpec.witness6 (enc := enc) (C := Tryz.checked) false ⟨#[], #[.slice none 0 0, .int .u8 0, .int .u8 0], []⟩ 8 (by kernel_rfl) (by kernel_rfl) (by kernel_rfl) (by kernel_rfl)) ?_
  intro W base args ds gs before hval0 hW hcnd _
  have hval : ∀ (j : Nat) t v, Tryz.f8.params[j]? = some t → args[j]? = some v → Value.okWide Tryz.prog W .any base t v := hval0
  have hW' := hW
  obtain ⟨p, q, hA0, hV, rfl, hfz, hnd⟩ := hW
  have hA : DataW.TrodAll enc Tryz.prog W 0 (fun _ => true) true Tryz.f8.params.toList args.toList ds p := hA0
  rw [Tryz.params8] at hA hval
  obtain ⟨v0, vs0, d0, ds0, p0, q0, hargs, rfl, rfl, h0, r0⟩ := trodAll_cons hA
  obtain ⟨v1, vs1, d1, ds1, p1, q1, rfl, rfl, rfl, h1, r1⟩ := trodAll_cons r0
  obtain ⟨v2, vs2, d2, ds2, p2, q2, rfl, rfl, rfl, h2, r2⟩ := trodAll_cons r1
  obtain ⟨rfl, rfl, rfl⟩ := trodAll_nil r2
  obtain rfl : args = #[v0, v1, v2] := by cases args; simp_all
  obtain ⟨rfl, rfl⟩ := trodVars_none hV
  have k0 := h0
  have lt0 : ∀ x ∈ p0, x.block < W.heap.size := by obtain ⟨m, hm⟩ := k0; exact DataW.trod_lt m _ _ _ hm
  obtain ⟨a0, rfl, w0⟩ := Cm.open_act10 (hval 0 58 v0 rfl rfl) h0
  obtain ⟨a1, rfl, rfl, rfl, w1⟩ := open_int Tryz.underlying5 (hval 1 5 v1 rfl rfl) h1
  obtain ⟨a2, rfl, rfl, rfl, w2⟩ := open_int Tryz.underlying5 (hval 2 5 v2 rfl rfl) h2
  clear hA0 hval0
  refine (walk a0 a1 a2 W w0 w1 w2).mono fun e W' ⟨he, bel⟩ => ?_
  subst he
  exact ⟨_, rfl, _, _, _, [], _, [], hW', trodAll_mk1 (shut_bool Tryz.underlying4 _), (trodAll_cons_mk (Below.trod laidOut (by kernel_rfl) (of_decide_eq_true (by kernel_rfl)) k0 bel lt0) (trodAll_cons_mk (shut_int Tryz.underlying5 w1) (trodAll_cons_mk (shut_int Tryz.underlying5 w2) trodAll_mk0))), rfl, bel.frame _, fun h => by cases h⟩

theorem over : Rows.snapRefusesRow.holds Tryz.pinned (OpenSpec.ofChange Rows.snapRefusesSpec) :=
  OpenClaim.holds_of_wide 8 Tryz.f8 rfl rfl rfl rfl rfl rfl rfl ⟨rfl, rfl, rfl, rfl, rfl⟩ rfl rfl rfl rfl rfl (by kernel_rfl) Tryz.func8 (by kernel_rfl)
    (of_decide_eq_true (by kernel_rfl)) (by unfold Func.isWrapper; first | (rw [if_pos (by decide +kernel)]; kernel_rfl) | (rw [if_neg (by decide +kernel)]; exact ⟨rfl, rfl⟩))
    (fun os started H enc _ => lifted os started H enc)

/-- THE STATEMENT -/
theorem proved : Rows.SnapRefusesSaid := over
end Go.Proofs.YtlnbmblbeaodcaaGreat.snapRefuses
