/- PROVED: the statement LockDrops of layer 8: for every input that can be read, the law returns true and leaves its arguments as they were. No condition. -/
import Derived.Test.YtnkooajbenhjhaaRows
import Derived.Test.YtnkooajbenhjhaaP10
import Derived.WalkKit
import Derived.ProofKit
import Derived.OpenShut
import Derived.ShutString
import Derived.ChangeOld
import Derived.Below
import Derived.Deep.Cut
import Derived.Deep.CutBlock
import Derived.Deep.DeepCutAuto
namespace Go.Proofs.Ytnkooajbenhjhaa.lockDrops
open Go.ChangeShapes Go.WideShapes Go.ChangeAt Go.RowKit
open Go.ChangeMaps (open_string shut_string)
open Go.Sort (grow)
set_option linter.unusedVariables false

theorem own : ownKnob Try.prog.godebug = none := by kernel_rfl
theorem laidOut : laidOutB Try.prog = true := by kernel_rfl

/-! ### STEP 1: THE WALK -/
set_option maxRecDepth 100000 in
set_option maxHeartbeats 4000000 in
theorem walk (a0 : List Cm.Act3 × Value) (a1 : Int) (w : World) (w0 : Cm.act3OkA w a0) (w1 : (Lit.int .u8 a1).wf = true) :
    Calls Try.prog 7 #[Cm.act3A a0, .int .u8 a1] w fun e w' => e = .returned (.bool true) ∧ Below w.heap.size w w' := by
  obtain ⟨ac, v⟩ := a0
  unfold Cm.act3OkA at w0
  unfold Cm.act3A
  dsimp only at w0 ⊢
  obtain ⟨w0, wa⟩ := w0
  obtain ⟨B, rfl⟩ : ∃ n : Nat, a1 = (n : Int) := Int.eq_ofNat_of_zero_le (by have := w1; simp [Lit.wf, IntKind.min, IntKind.max, IntKind.signed, IntKind.bits] at this; omega)
  have hB8 : B < 256 := by have := w1; simp [Lit.wf, IntKind.min, IntKind.max, IntKind.signed, IntKind.bits] at this; omega
  have hgd := Cm.madeK_good (ac.take 60) (by rw [List.length_take]; omega)
  have htt : (Cm.madeK (ac.take 60)).2 < 1000000 := by have := hgd.2; rw [List.length_take] at this; omega
  have CM := Lib.hid (Cm.Made_any v ac w w0 wa)
  have CK := Lib.hid (fun W => Cm.clients_any B hB8 W)
  have C0 := Lib.hid (fun w => Cm.awake8_ok w)
  have HGD := Lib.hid hgd.1
  have hGL := Cm.clientsF_length B 8
  have HGO := Lib.hid (Cm.clientsF_ok B 8 (Nat.le_refl _))
  generalize Cm.madeK (ac.take 60) = mk at CM HGD htt
  obtain ⟨ml, T⟩ := mk
  dsimp only at HGD htt
  unfold Cm.GetsU at CM
  unfold Cm.GetsN at CK
  dsimp only at CM
  generalize Cm.clientsF B 8 = G at CK hGL HGO
  have hT := HGD.out.pos
  have hml := HGD.out.len
  clear hgd w0 wa w1 hB8
  obtain ⟨dr, hdr⟩ : ∃ dr, Cm.dropK G ml T = dr := ⟨_, rfl⟩
  have HDG := Lib.hid (Cm.good_drop HGD.out G (by omega))
  have HDF := Lib.hid (Cm.drop_find G ml T HGD.out.rk.names)
  have HDH := Lib.hid (fun g hg => Cm.drop_held G ml T g hg)
  have HDC := Lib.hid (fun k => Cm.dropK_count G (ml.take k) T)
  have HDA : Hid ((Cm.dropK G (ml.take ml.length) T).2 = dr.2) := Lib.hid (by rw [List.take_length, hdr])
  have hdc := Cm.dropK_count G ml T
  rw [hdr] at HDG HDF HDH hdc
  have HDR := Lib.hid hdr
  clear hdr
  obtain ⟨dl, dn⟩ := dr
  dsimp only at HDG HDF HDH HDA hdc
  go_enter Try.func7, Try.ntmps7
  go_wp2_with (first
    | (go_at_call 27; refine CM.out.mono ?_; rintro e w1 ⟨am, cm, M, rfl, hv, hr, hb⟩; have HV := Lib.hid hv; have HR := Lib.hid hr; have HB := Lib.hid hb; clear hv hr hb)
    | (go_at_call 17; refine (CK.out _).mono ?_; rintro e w2 ⟨vg, rfl, hg, hb⟩; obtain ⟨ua, uc, rfl⟩ := Rw.own_form hg; have HG := Lib.hid (RdX.own Cm.cellsI_length hg); have HB2 := Lib.hid (step HB.out hb); have HR2 := Lib.hid (HR.out.later hb); clear hg hb)
    | (go_at_call 16; refine (Cm.LckDrop_any _ _ M G T w2 HR2.out (by rw [HV.out]; exact HGD.out) HG.out (by omega) htt).mono ?_; rw [HV.out, HDR.out]; rintro e w3 hd; obtain ⟨a3, c3, M3, rfl, hv3, hr3, hb3⟩ := Cm.GetsD.s hd; have HV3 := Lib.hid hv3; have HR3 := Lib.hid hr3; have HB3 := Lib.hid (step HB2.out hb3); have HRL := Lib.hid (HR2.out.later hb3); have HGL := Lib.hid (HG.out.later hb3); clear hd hv3 hr3 hb3))
  obtain rfl : ml = Cm.vals M := HV.out.symm
  have HFF : Hid (∀ k (hk : k < M.length), (Cm.hasL G M[k].holder = false → Cm.findK dl M[k].name = (⟨M[k].name, M[k].holder, M[k].token, Cm.withoutL M[k].line G⟩, true) ∧ (Cm.dropK G ((Cm.vals M).take (k + 1)) T).2 = (Cm.dropK G ((Cm.vals M).take k) T).2) ∧
    (Cm.hasL G M[k].holder = true → Cm.withoutL M[k].line G = [] → Cm.findK dl M[k].name = (Cm.zeroK, false) ∧ (Cm.dropK G ((Cm.vals M).take (k + 1)) T).2 = (Cm.dropK G ((Cm.vals M).take k) T).2) ∧
    (Cm.hasL G M[k].holder = true → Cm.withoutL M[k].line G ≠ [] → Cm.findK dl M[k].name = (⟨M[k].name, (Cm.withoutL M[k].line G).headD 0, T + (Cm.dropK G ((Cm.vals M).take k) T).2 + 1, (Cm.withoutL M[k].line G).drop 1⟩, true) ∧ (Cm.dropK G ((Cm.vals M).take (k + 1)) T).2 = (Cm.dropK G ((Cm.vals M).take k) T).2 + 1)) := Lib.hid fun k hk => by
    have := HDF.out k (by rw [Cm.vals_length]; exact hk)
    rw [Cm.vals_get M k hk] at this
    exact this
  have HNA : Hid (∀ k (hk : k < M.length), Cm.nameF M[k].name = true ∧ M[k].line.length ≤ 3) := Lib.hid fun k hk => by
    have h1 := HGD.out.rk.one M[k].val (List.mem_map_of_mem (List.getElem_mem hk))
    exact ⟨((Cm.oneK_iff _).1 h1).1, Cm.good_lines HGD.out M[k].val (List.mem_map_of_mem (List.getElem_mem hk))⟩
  have HA := Lib.hid (fun i hi => Cm.rdk_at HRL.out.row i hi)
  have HLI : Hid (∀ k (hk : k < M.length) W, Below w3.heap.size w3 W → Cm.RdI W M[k].lv M[k].line) := Lib.hid fun k hk W hb => (HRL.out.line _ (List.getElem_mem hk)).later hb
  have HFI := Lib.hid (fun n W (hb : Below w3.heap.size w3 W) (hn : Cm.nameF n = true) => (Cm.LckFind_any (.slice a3 M3.length c3) M3 n W (T + dn) (HR3.out.later hb) (by rw [HV3.out]; exact HDG.out) hn).mono fun e w' h => Cm.GetsF.s h)
  rw [HV3.out] at HFI
  have HWI := Lib.hid (fun l a c W (hb : Below w3.heap.size w3 W) (hl : Cm.RdI W (.slice a l.length c) l) (h5 : l.length ≤ 1000) => Cm.Without_any (.slice a l.length c) _ l G W hl (HGL.out.later hb) h5)
  have HII := Lib.hid (fun x W (hb : Below w3.heap.size w3 W) => Cm.In_has _ G x W (HGL.out.later hb))
  have HGR := HGL
  have HQB : Hid (∀ k, 0 ≤ (Cm.dropK G ((Cm.vals M).take k) T).2 ∧ (Cm.dropK G ((Cm.vals M).take k) T).2 ≤ 4) := Lib.hid fun k => by
    have h1 := HDC.out k
    rw [List.length_take] at h1
    have := HGD.out.len
    omega
  rw [Cm.vals_length] at HDA hml
  have HN0 : Hid ((Cm.dropK G ((Cm.vals M).take 0) T).2 = 0) := Lib.hid rfl
  clear HDF HDC CM CK HRL HR HR2 HB HB2 HG HGD HDR
  obtain ⟨N, hN⟩ : ∃ N, M.length = N := ⟨_, rfl⟩
  have HNN := Lib.hid hN
  rw [hN] at hml HDA ⊢
  clear hN HV
  generalize hGN : G.length = GN at *
  have HGN := Lib.hid hGN
  clear hGN
  go_loopw [10, 11] (fun gv i wr => ∃ k : Nat, k ≤ N ∧ i = .int .i64 k ∧ gv = .int .i64 (Cm.dropK G ((Cm.vals M).take k) T).2 ∧ Hid (Below w3.heap.size w3 wr)) (fun _ i _ => N - (intOf i).toNat)
  case atStart => exact ⟨0, by omega, rfl, by rw [HN0.out], Lib.hid (Below.refl _ _)⟩
  case round =>
    obtain ⟨k, hk, rfl, rfl, HB⟩ := hrel
    by_cases hlt : k < N
    · have hkl : k < M.length := by rw [HNN.out]; exact hlt
      obtain ⟨b, o, rfl, hc⟩ := HA.out k hkl
      obtain ⟨q0, q1, q2, q3⟩ := hc _ HB.out
      have hff := HFF.out k hkl
      obtain ⟨hnm, hll⟩ := HNA.out k hkl
      have hli := HLI.out k hkl
      have hq := HQB.out k
      have HC := Lib.hid (fun W (hb : Below wr.heap.size wr W) => hc W (step HB.out hb))
      clear hc HFF HNA HA HLI HQB
      generalize M[k] = x at q0 q1 q2 q3 hff hnm hll hli HC
      obtain ⟨xn, xh, xt, xl, xa, xc⟩ := x
      unfold Cm.LockC.lv at q3 hli HC
      dsimp only at q0 q1 q2 q3 hff hnm hll hli HC
      obtain ⟨q', hq'⟩ : ∃ q', (Cm.dropK G ((Cm.vals M).take (k + 1)) T).2 = q' := ⟨_, rfl⟩
      rw [hq'] at hff
      have HQ' := Lib.hid hq'
      clear hq'
      generalize (Cm.dropK G ((Cm.vals M).take k) T).2 = q at hff hq ⊢
      have f1 : (0 : Int) ≤ (k : Int) := by omega
      have f2 : (k : Int) < (N : Int) := by omega
      have HFN := Lib.hid (fun W (hb : Below wr.heap.size wr W) => HFI.out xn W (step HB.out hb) hnm)
      have HWN := Lib.hid (fun W (hb : Below wr.heap.size wr W) => HWI.out xl xa xc W (step HB.out hb) (hli W (step HB.out hb)) (by omega))
      have HIN := Lib.hid (fun W (hb : Below wr.heap.size wr W) => HII.out xh W (step HB.out hb))
      clear HFI HWI HII hnm hli
      have hsl : (Cm.withoutL xl G).length ≤ 3 ∨ (Cm.withoutL xl G).length ≤ 3 := .inl (Nat.le_trans (Cm.without_le xl G) hll)
      generalize hS : Cm.withoutL xl G = S at hff HWN hsl
      have HFF := Lib.hid hff
      clear hff hS
      generalize Cm.findK dl xn = r at HFF HFN
      obtain ⟨⟨yn, yh, yt, yl⟩, fb⟩ := r
      dsimp only at HFN
      go_upto_region 9 with (go_at_call 20; refine (HFN.out _ (Below.refl _ _)).mono ?_; rintro e w4 ⟨Xa, Xc, rfl, hx, hb4⟩; have HX := Lib.hid hx; have HB4 := Lib.hid hb4; clear hx hb4)
      obtain ⟨W5, hW5⟩ : ∃ W5, W5 = w4.alloc (.cells #[.string (bstr yn), .int .i64 yh, .int .i64 yt, .slice Xa yl.length Xc] 39) := ⟨_, rfl⟩
      have HB5 : Hid (Below wr.heap.size wr W5) := Lib.hid (by rw [hW5]; exact stepAlloc HB4.out _)
      obtain ⟨z0, z1, z2, z3⟩ := Cm.box4 (Below.refl _ (w4.alloc (.cells #[.string (bstr yn), .int .i64 yh, .int .i64 yt, .slice Xa yl.length Xc] 39)))
      rw [← hW5] at z0 z1 z2 z3 ⊢
      have HX5 := Lib.hid (HX.out.later (show Below w4.heap.size w4 W5 by rw [hW5]; exact newAlloc _ _))
      obtain ⟨p0, p1, p2, p3⟩ := HC.out _ HB5.out
      have HZ : Hid (∀ W, Below W5.heap.size W5 W → W.cell? ⟨w4.heap.size, 1, none⟩ = some (.int .i64 yh) ∧ W.cell? ⟨w4.heap.size, 2, none⟩ = some (.int .i64 yt) ∧ W.cell? ⟨w4.heap.size, 3, none⟩ = some (.slice Xa yl.length Xc)) := Lib.hid fun W hb => ⟨(hb.cell (lt_of_cell z1)).trans z1, (hb.cell (lt_of_cell z2)).trans z2, (hb.cell (lt_of_cell z3)).trans z3⟩
      clear hW5 HX HB4 q0 q1 q2 q3 z0 z1 z2 z3
      go_upto_region 13 with (go_at_call 31; refine (HWN.out _ HB5.out).mono ?_; rintro e w6 ⟨v6, rfl, ho6, hb6⟩; obtain ⟨sa, sc, rfl⟩ := Rw.own_form ho6; have HS6 := Lib.hid (RdX.own Cm.cellsI_length ho6); have HB6 := Lib.hid (step HB5.out hb6); have HX6 := Lib.hid (HX5.out.later hb6); have HZ6 := Lib.hid (HZ.out _ hb6); clear ho6 hb6)
      clear p0 p1 p2 p3
      obtain ⟨z1, z2, z3⟩ := HZ6.out
      obtain ⟨p0, p1, p2, p3⟩ := HC.out _ HB6.out
      obtain ⟨ha, hb0, hc0⟩ := HFF.out
      have HI6 := Lib.hid (HIN.out _ HB6.out)
      have HBW := Lib.hid (step HB.out HB6.out)
      have hS3 : S.length ≤ 1000 := by
        rcases hsl with q | q <;> omega
      clear HFN HWN HIN HX5 HZ HZ6 HC HB5 HFF
      cases n1 : Cm.hasL G xh with
      | false =>
        obtain ⟨h1, h2⟩ := ha n1
        simp only [Prod.mk.injEq, Cm.LockV.mk.injEq] at h1
        obtain ⟨⟨rfl, rfl, rfl, rfl⟩, rfl⟩ := h1
        rw [n1] at HI6
        have H2 := Lib.hid h2
        have HSQ : Hid (∀ W, Below w6.heap.size w6 W → Calls Try.prog 30 #[.slice Xa yl.length Xc, .slice sa yl.length sc] W (Cm.SaysQ true W)) := Lib.hid fun W hb => by
          have := Cm.SameInts_q _ _ yl yl W (HX6.out.later hb) (HS6.out.later hb)
          rwa [(Cm.sameI_iff yl yl).2 rfl] at this
        clear ha hb0 hc0 h2 n1
        have d1 : (yh != yh) = false := by simp
        have d2 : (yt != yt) = false := by simp
        go_upto_region 14 with (go_at_call 28; refine HI6.out.mono ?_; rintro e w7 ⟨rfl, rfl⟩)
        go_quiet (first | (go_at_call 30; exact (HSQ.out _ (Cm.below_drewN6 (Below.refl _ _) _)).mono fun e w2 ⟨he, n, hn⟩ => ⟨he, _, hn.trans (World.drewN_drewN _ _ _)⟩))
        go_wp2
        go_roundw
        case rel => exact ⟨k + 1, by omega, by go_num, by rw [HQ'.out, H2.out], Lib.hid (Cm.below_drewN6 HBW.out nq)⟩
        case measure => simp [intOf]; omega
      | true =>
        rw [n1] at HI6
        cases S with
        | nil =>
          obtain ⟨h1, h2⟩ := hb0 n1 rfl
          unfold Cm.zeroK at h1
          simp only [Prod.mk.injEq, Cm.LockV.mk.injEq] at h1
          obtain ⟨⟨rfl, rfl, rfl, rfl⟩, rfl⟩ := h1
          have H2 := Lib.hid h2
          clear ha hb0 hc0 h2 n1
          simp only [List.length_nil] at *
          go_wp2_with (go_at_call 28; refine HI6.out.mono ?_; rintro e w7 ⟨rfl, rfl⟩)
          go_roundw
          case rel => exact ⟨k + 1, by omega, by go_num, by rw [HQ'.out, H2.out], HBW⟩
          case measure => simp [intOf]; omega
        | cons d S =>
          obtain ⟨h1, h2⟩ := hc0 n1 (by simp)
          simp only [Prod.mk.injEq, Cm.LockV.mk.injEq, List.headD_cons, List.drop_one, List.tail_cons] at h1
          obtain ⟨⟨rfl, rfl, rfl, rfl⟩, rfl⟩ := h1
          have H2 := Lib.hid h2
          clear ha hb0 hc0 h2 n1 hsl
          obtain ⟨R, hRR⟩ : ∃ R, (yh :: yl).length = R := ⟨_, rfl⟩
          rw [hRR] at HS6 hS3 ⊢
          have HRN : Hid (R - 1 = yl.length) := Lib.hid (by rw [← hRR]; simp)
          have hR1 : 1 ≤ R := by rw [← hRR]; simp
          have zR : ((R : Int) == 0) = false := by simp; omega
          have hcap : R ≤ sc ∧ sc ≤ maxLen := by
            obtain ⟨a', cap', hv, q1, q2, _⟩ := HS6.out.ex
            cases hv
            rw [hRR] at q1
            exact ⟨q1, q2⟩
          unfold maxLen at hcap
          obtain ⟨hc1, hc2⟩ := hcap
          obtain ⟨gs, os, rfl, hcs⟩ := Cm.rdi_at HS6.out 0 (by simp)
          have y0 := hcs w6 (Below.refl _ _)
          simp only [List.getElem_cons_zero, Nat.add_zero] at y0
          have HDR := Lib.hid (HS6.out.drop (by omega) 1 hR1)
          rw [List.drop_one, List.tail_cons] at HDR
          have g2 : (1 : Int) ≤ (R : Int) := by omega
          have g3 : (0 : Int) < (R : Int) := by omega
          have g0 : 0 < R := by omega
          have e1 : IntKind.i64.wrap (q + 1) = q + 1 := by rw [IntKind.wrap_i64]; omega
          have e2 : IntKind.i64.wrap (T + (q + 1)) = T + q + 1 := by rw [IntKind.wrap_i64]; omega
          have d1 : (yh != yh) = false := by simp
          have d2 : (T + q + 1 != T + q + 1) = false := by simp
          clear hcs HS6 hRR
          by_cases hcp : sc = 1
          case' pos =>
            rw [if_pos hcp] at HDR
            obtain rfl : R = 1 := by omega
            subst hcp
            simp only [Nat.sub_self] at HDR
            clear hc1 hc2 g2
          case' neg =>
            rw [if_neg hcp] at HDR
            have hadd : (⟨gs, os, none⟩ : Addr).add (1 * 1) = ⟨gs, os + 1, none⟩ := by unfold Addr.add; split <;> simp_all
            rw [Option.map_some, hadd] at HDR
            clear hadd
          all_goals
            have HSQ := Lib.hid (fun W (hb : Below w6.heap.size w6 W) => (Cm.SameInts_q _ _ yl yl W (HX6.out.later hb) (HDR.out.later hb)))
            rw [(Cm.sameI_iff yl yl).2 rfl] at HSQ
            clear HDR
            go_upto_region 11 with (go_at_call 28; refine HI6.out.mono ?_; rintro e w7 ⟨rfl, rfl⟩)
            go_quiet (first | (go_at_call 30; exact (HSQ.out _ (Cm.below_drewN6 (Below.refl _ _) _)).mono fun e w2 ⟨he, n, hn⟩ => ⟨he, _, hn.trans (World.drewN_drewN _ _ _)⟩))
            go_wp2
            go_roundw
            case rel => exact ⟨k + 1, by omega, by go_num, by rw [HQ'.out, H2.out], Lib.hid (Cm.below_drewN6 HBW.out nq)⟩
            case measure => simp [intOf]; omega
    · obtain rfl : k = N := by omega
      rw [HDA.out]
      have HHE := Lib.hid (fun c W (hb : Below w3.heap.size w3 W) hc => Cm.LckHeld_any (.slice a3 M3.length c3) M3 c W (T + dn) (HR3.out.later hb) (by rw [HV3.out]; exact HDG.out) hc)
      rw [HV3.out] at HHE
      have HRI := Lib.hid (fun W (hb : Below w3.heap.size w3 W) => Cm.LckRight_any (.slice a3 M3.length c3) M3 W (HR3.out.later hb) (Cm.good_names (t := T + dn) (by rw [HV3.out]; exact HDG.out)))
      rw [HV3.out, HDG.out.right] at HRI
      have HGA := Lib.hid (fun i hi => Cm.rdi_at HGR.out i hi)
      clear HFF HNA HA HLI HQB HFI HWI HII HDA
      go_wp2
      go_loopw [15] (fun i wr => ∃ j : Nat, j ≤ GN ∧ i = .int .i64 j ∧ Hid (Below w3.heap.size w3 wr)) (fun i _ => GN - (intOf i).toNat)
      case atStart => exact ⟨0, by omega, rfl, HB⟩
      case round =>
        obtain ⟨j, hj, rfl, HBJ⟩ := hrel
        by_cases hlt : j < GN
        · have hjl : j < G.length := by rw [HGN.out]; exact hlt
          obtain ⟨b, o, rfl, hc⟩ := HGA.out j hjl
          have q0 := hc _ HBJ.out
          have hcl := HGO.out _ (List.getElem_mem hjl)
          have hh := HDH.out G[j] ((Cm.hasL_iff _ _).2 (List.getElem_mem hjl))
          have hhe := HHE.out G[j] wr HBJ.out hcl
          rw [hh] at hhe
          have HHJ := Lib.hid hhe
          clear hc HGA HHE hcl hh hhe
          generalize G[j] = g at q0 HHJ
          unfold Cm.GetsH at HHJ
          have f1 : (0 : Int) ≤ (j : Int) := by omega
          have f2 : (j : Int) < (GN : Int) := by omega
          go_wp2_with (go_at_call 24; refine HHJ.out.mono ?_; rintro e w8 ⟨a8, c8, rfl, hr8, hb8⟩; have HB8 := Lib.hid (step HBJ.out hb8); clear hr8 hb8)
          go_roundw
          case rel => exact ⟨j + 1, by omega, by go_num, HB8⟩
          case measure => simp [intOf]; omega
        · obtain rfl : j = GN := by omega
          have dd : (dn == dn) = true := by simp
          go_wp2_with (first
            | (go_at_call 22; refine (HRI.out _ HBJ.out).mono ?_; rintro e w8 ⟨rfl, hb8⟩; have HB8 := Lib.hid (step HBJ.out hb8); clear hb8)
            | (go_at_call 9; refine (C0.out _).mono ?_; rintro e w9 ⟨rfl, hb9⟩))
          go_ret
          exact ⟨rfl, step HB3.out (step HB8.out hb9)⟩

/-! ### THE ROW's STEP -/
set_option maxRecDepth 100000 in
theorem lifted (os : Os) (started : os.Started) (H : Type) (enc : TypeId × Value → H) :
    ReturnsInHanded {} Try.checked os 7 .any (Rows.lockDropsSpec.pre6 enc Try.prog Try.f7 Rows.lockDropsRow.domain false) (Rows.lockDropsSpec.post enc Try.prog Try.f7 false true false false) := by
  refine returnsInHanded_of_change (C := Try.checked) own started (by kernel_rfl) Try.func7
    (ChangeSpec.witness6 (enc := enc) (C := Try.checked) false ⟨#[], #[.slice none 0 0, .int .u8 0], []⟩ 8 (by kernel_rfl) (by kernel_rfl) (by kernel_rfl) (by kernel_rfl)) ?_
  intro W base args ds gs before hval0 hW hcnd _
  have hval : ∀ (j : Nat) t v, Try.f7.params[j]? = some t → args[j]? = some v → Value.okWide Try.prog W .any base t v := hval0
  have hW' := hW
  obtain ⟨p, q, hA0, hV, rfl, hfz, hnd⟩ := hW
  have hA : DataW.TrodAll enc Try.prog W 0 (fun _ => true) true Try.f7.params.toList args.toList ds p := hA0
  rw [Try.params7] at hA hval
  obtain ⟨v0, vs0, d0, ds0, p0, q0, hargs, rfl, rfl, h0, r0⟩ := trodAll_cons hA
  obtain ⟨v1, vs1, d1, ds1, p1, q1, rfl, rfl, rfl, h1, r1⟩ := trodAll_cons r0
  obtain ⟨rfl, rfl, rfl⟩ := trodAll_nil r1
  obtain rfl : args = #[v0, v1] := by cases args; simp_all
  obtain ⟨rfl, rfl⟩ := trodVars_none hV
  have k0 := h0
  have lt0 : ∀ x ∈ p0, x.block < W.heap.size := by obtain ⟨m, hm⟩ := k0; exact DataW.trod_lt m _ _ _ hm
  obtain ⟨a0, rfl, w0⟩ := Cm.open_act3 (hval 0 22 v0 rfl rfl) h0
  obtain ⟨a1, rfl, rfl, rfl, w1⟩ := open_int Try.underlying5 (hval 1 5 v1 rfl rfl) h1
  clear hA0 hval0
  refine (walk a0 a1 W w0 w1).mono fun e W' ⟨he, bel⟩ => ?_
  subst he
  exact ⟨_, rfl, _, _, _, [], _, [], hW', trodAll_mk1 (shut_bool Try.underlying4 _), (trodAll_cons_mk (Below.trod laidOut (by kernel_rfl) (of_decide_eq_true (by kernel_rfl)) k0 bel lt0) (trodAll_cons_mk (shut_int Try.underlying5 w1) trodAll_mk0)), rfl, bel.frame _, fun h => by cases h⟩

theorem over : Rows.lockDropsRow.holds Try.pinned (OpenSpec.ofChange Rows.lockDropsSpec) :=
  OpenClaim.holds_of_wide 7 Try.f7 rfl rfl rfl rfl rfl rfl rfl ⟨rfl, rfl, rfl, rfl, rfl⟩ rfl rfl rfl rfl rfl (by kernel_rfl) Try.func7 (by kernel_rfl)
    (of_decide_eq_true (by kernel_rfl)) (by unfold Func.isWrapper; first | (rw [if_pos (by decide +kernel)]; kernel_rfl) | (rw [if_neg (by decide +kernel)]; exact ⟨rfl, rfl⟩))
    (fun os started H enc _ => lifted os started H enc)

/-- THE STATEMENT -/
theorem proved : Rows.LockDropsSaid := over
end Go.Proofs.Ytnkooajbenhjhaa.lockDrops
