/- PROVED: the statement LockFair of layer 8: for every input that can be read, the law returns true and leaves its arguments as they were. No condition. -/
import Derived.Test.YtnkooajbenhjhaaRows
import Derived.Test.YtnkooajbenhjhaaP10
import Derived.WalkKit
import Derived.ProofKit
import Derived.OpenShut
import Derived.ShutString
import Derived.ChangeOld
import Derived.Below
import Derived.Deep.Cut
import Derived.Deep.CutBlock
import Derived.Deep.DeepCutAuto
namespace Go.Proofs.Ytnkooajbenhjhaa.lockFair
open Go.ChangeShapes Go.WideShapes Go.ChangeAt Go.RowKit
open Go.ChangeMaps (open_string shut_string)
open Go.Sort (grow)
set_option linter.unusedVariables false

theorem own : ownKnob Try.prog.godebug = none := by kernel_rfl
theorem laidOut : laidOutB Try.prog = true := by kernel_rfl

/-! ### STEP 1: THE WALK -/
set_option maxRecDepth 100000 in
set_option maxHeartbeats 16000000 in
theorem walk (a0 : List Cm.Act3 × Value) (a1 : Option Addr) (len1 cap1 : Nat) (z1 : List Int) (a2 : Int) (w : World) (w0 : Cm.act3OkA w a0) (w1 : IsRow .u8 w a1 len1 cap1 z1) (w2 : (Lit.int .u8 a2).wf = true) :
    Calls Try.prog 6 #[Cm.act3A a0, .slice a1 len1 cap1, .int .u8 a2] w fun e w' => e = .returned (.bool true) ∧ Below w.heap.size w w' := by
  obtain ⟨ac, v⟩ := a0
  unfold Cm.act3OkA at w0
  unfold Cm.act3A
  dsimp only at w0 ⊢
  obtain ⟨w0, wa⟩ := w0
  obtain ⟨n, rfl⟩ : ∃ n : Nat, a2 = (n : Int) := Int.eq_ofNat_of_zero_le (by have := w2; simp [Lit.wf, IntKind.min, IntKind.max, IntKind.signed, IntKind.bits] at this; omega)
  have hn8 : n < 256 := by have := w2; simp [Lit.wf, IntKind.min, IntKind.max, IntKind.signed, IntKind.bits] at this; omega
  have hgd := Cm.madeK_good (ac.take 60) (by rw [List.length_take]; omega)
  have htt : (Cm.madeK (ac.take 60)).2 ≤ 240 := by have := hgd.2; rw [List.length_take] at this; omega
  have CM := Lib.hid (Cm.Made_any v ac w w0 wa)
  have CN := Lib.hid (fun W => Cm.Named_any n W hn8)
  have C0 := Lib.hid (fun w => Cm.awake8_ok w)
  have HGD := Lib.hid hgd.1
  have hnm := Cm.namedF_ok (n % 6) (Nat.mod_lt _ (by omega))
  generalize Cm.madeK (ac.take 60) = mk at CM HGD htt
  obtain ⟨ml, T⟩ := mk
  dsimp only at HGD htt
  unfold Cm.GetsU at CM
  dsimp only at CM
  generalize Cm.namedF (n % 6) = nm at *
  have hT := HGD.out.pos
  obtain ⟨hr, hrl⟩ := w1.rd
  generalize bytesOf z1 len1 = NS at hr hrl
  have hlen := Cm.Rd.len_le hr
  unfold maxLen at hlen
  obtain ⟨ar, lr, cr, hv, hl, hc, hmx, hnn, hx⟩ := hr.ex
  cases hv
  have HI : Hid (∀ i, i < len1 → ∃ b o, a1 = some ⟨b, o, none⟩ ∧ ∀ w', Below w.heap.size w w' → w'.cell? ⟨b, o + i, none⟩ = some (.int .u8 ((NS.getD i 0).toNat : Int))) := Lib.hid fun i hi' => by
    match a1, hnn, hx with
    | none, hnn, _ => have := (hnn rfl).1; omega
    | some ⟨b, o, sp⟩, _, hx =>
      obtain ⟨hs, hi⟩ := hx _ rfl (by omega)
      simp only at hs hi
      subst hs
      exact ⟨b, o, rfl, fun w' hb => by rw [hb.cell (p := ⟨b, o + i, none⟩) (lt_of_cell (hi i hi'))]; exact hi i hi'⟩
  rw [hrl] at hlen
  clear hr hnn hx hgd w0 wa w1 w2 hrl hl
  obtain ⟨i0, hi, hz0, hz1, hz2⟩ := info_parts Cm.infoN
  go_enter Try.func6, Try.ntmps6
  go_upto_region 3 with (first
    | (go_at_call 27; refine CM.out.mono ?_; rintro e w1 ⟨am, cm, M, rfl, hv, hr, hb⟩; have HV1 := Lib.hid hv; have HR1 := Lib.hid hr; have HB1 := Lib.hid hb; clear hv hr hb)
    | (go_at_call 10; refine (CN.out _).mono ?_; rintro e w2 ⟨rfl, hb2⟩; have HB2 := Lib.hid (step HB1.out hb2); have HR2 := Lib.hid (HR1.out.later hb2); clear hb2))
  clear CN CM HB1 HR1
  have KF := ((Cm.LckFind_any (.slice am M.length cm) M nm w2 T HR2.out (by rw [HV1.out]; exact HGD.out) hnm).mono fun e w' h => Cm.GetsF.s h)
  rw [HV1.out] at KF
  cases hyb : (Cm.findK ml nm).2 with
  | false =>
    have KF := Lib.hid KF
    rw [hyb] at KF
    generalize (Cm.findK ml nm).1 = y at KF
    obtain ⟨yn, yh, yt, yl⟩ := y
    dsimp only at KF
    generalize yl.length = YN at KF
    clear hyb HGD HV1
    generalize M.length = MN at *
    go_wp2_with (first
      | (go_at_call 20; refine KF.out.mono ?_; rintro e w3 ⟨Xa, Xc, rfl, -, hb3⟩)
      | (go_at_call 9; refine (C0.out _).mono ?_; rintro e w4 ⟨rfl, hb4⟩))
    go_ret
    exact ⟨rfl, step (stepAlloc (step HB2.out hb3) _) hb4⟩
  | true =>
    obtain ⟨A, B, hd, tk, K0, hml, hA, hB, hfk, hK0⟩ := Cm.mid_of HGD.out nm hyb
    rw [hfk] at KF
    dsimp only at KF
    have KF := Lib.hid KF
    have hK3 := Cm.right_len hK0
    have HHA := Lib.hid hA
    have HHB := Lib.hid hB
    rw [hml] at HV1 HGD
    clear hyb hfk hml hA hB hK0
    go_upto_region 4 with (go_at_call 20; refine KF.out.mono ?_; rintro e w3 ⟨Xa, Xc, rfl, hx, hb3⟩; have HX := Lib.hid hx; have HB3 := Lib.hid hb3; clear hx hb3)
    obtain ⟨W4, hW4⟩ : ∃ W4, W4 = w3.alloc (.cells #[.string (bstr nm), .int .i64 hd, .int .i64 tk, .slice Xa K0.length Xc] 39) := ⟨_, rfl⟩
    have hb4 : Below w2.heap.size w2 W4 := by rw [hW4]; exact stepAlloc HB3.out _
    have HX4 := Lib.hid (HX.out.later (show Below w3.heap.size w3 W4 by rw [hW4]; exact newAlloc _ _))
    have HR4 := Lib.hid (HR2.out.later hb4)
    have HB4 := Lib.hid (step HB2.out hb4)
    obtain ⟨z0, z1, z2, z3⟩ := Cm.box4 (Below.refl _ (w3.alloc (.cells #[.string (bstr nm), .int .i64 hd, .int .i64 tk, .slice Xa K0.length Xc] 39)))
    rw [← hW4] at z0 z1 z2 z3 ⊢
    have HZ : Hid (∀ W, Below W4.heap.size W4 W → W.cell? ⟨w3.heap.size, 1, none⟩ = some (.int .i64 hd)) := Lib.hid fun W hb => (hb.cell (lt_of_cell z1)).trans z1
    have z3' : (W4.alloc (.cells #[] 3)).cell? ⟨w3.heap.size, 3, none⟩ = some (.slice Xa K0.length Xc) := ((newAlloc W4 (.cells #[] 3)).cell (lt_of_cell z3)).trans z3
    have HX5 := Lib.hid (HX4.out.later (newAlloc W4 (.cells #[] 3)))
    clear hW4 hb4 HX HB3 HR2 KF HB2 z0 z2
    obtain ⟨KN, hKN⟩ : ∃ KN, K0.length = KN := ⟨_, rfl⟩
    rw [hKN] at z3 z3' HX4 HX5 hK3 ⊢
    have HKN := Lib.hid hKN
    clear hKN
    obtain ⟨MN, hMN⟩ : ∃ MN, M.length = MN := ⟨_, rfl⟩
    have HMN := Lib.hid hMN
    rw [hMN] at HR4 ⊢
    clear hMN
    go_wp2_with (at_builtin; refine wpList_append_rdx Cm.cellsI_length (by omega) Cm.cellsI_one rfl (.tmp 51) (.tmp 53) 35 rfl W4.heap.size 3 i0 _ 8 Try.underlying35 hi hz0 hz1 hz2 rfl _ 0 [] rfl (own_new W4 _ 1 _ _ rfl (Nat.le_refl _)) _ K0 rfl (HX5.out) (by rw [HKN.out]; unfold maxLen; omega) (by rw [HKN.out]; omega) (newAlloc W4 (.cells #[] 3)).size ?_; intro v5 w5 hown5 hgrow5; have HB5 : Hid (Below W4.heap.size W4 w5) := Lib.hid ((newAlloc W4 (.cells #[] 3)).grown hgrow5 (newAlloc W4 (.cells #[] 3)).size (fun k hk => by cases hk; exact Nat.le_refl _)); have HO5 : Hid (w5.ownsRow W4.heap.size 3 1 v5 K0.length (flatX Cm.cellsI K0)) := Lib.hid (by simpa using hown5); clear hown5 hgrow5)
    go_loopw [7, 12, 13] (fun l m i wr => ∃ (k : Nat) (Mk : List Cm.LockC) (al : Option Addr) (cl : Nat) (Kk : List Int), k ≤ 12 ∧ k ≤ len1 ∧ i = .int .i64 (k : Int) ∧ l = .slice al Mk.length cl ∧ Hid (Cm.vals Mk = A ++ ⟨nm, hd, tk, Kk⟩ :: B) ∧ Hid (∀ W, wr.grownBy W m.ownBlock → Cm.RdK W (.slice al Mk.length cl) Mk) ∧ Hid (wr.ownsRow W4.heap.size 3 1 m Kk.length (flatX Cm.cellsI Kk)) ∧ Hid (Cm.Good (A ++ ⟨nm, hd, tk, Kk⟩ :: B) T) ∧ Hid (Below W4.heap.size W4 wr)) (fun _ _ i _ => 12 - (intOf i).toNat)
    case atStart => exact ⟨0, M, am, cm, K0, by omega, by omega, rfl, by rw [HMN.out], HV1, Lib.hid (fun W hW => by rw [HMN.out]; exact HR4.out.later (HB5.out.grown hW HB5.out.size (fun g hg => (Rw.own_lt HO5.out g hg).1))), HO5, HGD, HB5⟩
    case round =>
      obtain ⟨k, Mk, al, cl, Kk, hk12, hkl, rfl, rfl, HV, HRW, HO, HG, HB⟩ := hrel
      obtain ⟨ua, uc, rfl⟩ := Rw.own_form HO.out
      have HRK := Lib.hid (HRW.out wr (World.grownBy.refl _ _))
      obtain ⟨hKr, hclh⟩ := Cm.mid_right HG.out
      have hK3 := Cm.right_len hKr
      have HC := Lib.hid (RdX.own Cm.cellsI_length HO.out)
      obtain ⟨KL, hKL⟩ : ∃ KL, Kk.length = KL := ⟨_, rfl⟩
      have HKL := Lib.hid hKL
      obtain ⟨LN, hLN⟩ : ∃ LN, Mk.length = LN := ⟨_, rfl⟩
      have HLN := Lib.hid hLN
      clear hKr
      rw [hKL] at hK3 HC HO HRW ⊢
      rw [hLN] at HRK HRW ⊢
      clear hKL hLN
      by_cases hgo : k < len1 ∧ k < 12
      · obtain ⟨g1, g3⟩ := hgo
        obtain ⟨b, o, rfl, hcell⟩ := HI.out k g1
        have q0 := hcell wr (step HB4.out HB.out)
        have tx : (NS.getD k 0).toNat < 256 := UInt8.toNat_lt _
        clear hcell HI
        generalize (NS.getD k 0).toNat = X at q0 tx
        have d1 : decide (k < len1) = true := decide_eq_true g1
        have d3 : decide (k < 12) = true := decide_eq_true g3
        have v4 : IntKind.i64.wrap (X : Int) = (X : Int) := by rw [IntKind.wrap_i64]; omega
        obtain ⟨c, hcc⟩ : ∃ c, (X : Int).tmod 8 = c := ⟨_, rfl⟩
        have hcr : 0 ≤ c ∧ c < 8 := by rw [← hcc, Int.tmod_eq_emod_of_nonneg (by omega)]; omega
        have v5 : IntKind.i64.wrap c = c := by rw [IntKind.wrap_i64]; omega
        have hcl : Cm.clientF c = true := by unfold Cm.clientF; simp; omega
        have KT0 := Cm.LckTake_any (.slice al LN cl) Mk nm c T false wr HRK.out (by rw [HV.out]; exact HG.out) hnm hcl (by omega)
        have KQ : ∀ W, Below wr.heap.size wr W → Calls Try.prog 11 #[.slice al LN cl, .string (bstr nm), .int .i64 c, .int .i64 T, .bool true] W (Cm.GetsT (if hd = c then ([], 0, 7) else if Cm.hasL Kk c = true then (A ++ ⟨nm, hd, tk, Kk⟩ :: B, (Cm.aheadL Kk c).1, 10) else if 3 ≤ Kk.length then ([], 0, 5) else (A ++ ⟨nm, hd, tk, Kk ++ [c]⟩ :: B, Kk.length, 10)) W) := fun W hb => by
          have := Cm.LckTake_any (.slice al LN cl) Mk nm c T true W (HRK.out.later hb) (by rw [HV.out]; exact HG.out) hnm hcl (by omega)
          rw [HV.out, Cm.mid_take A B nm HHA.out] at this
          exact this
        have hgt := (Cm.good_take HG.out nm c true hnm hcl (by omega)).2
        rw [Cm.mid_take A B nm HHA.out] at hgt
        rw [HV.out, Cm.mid_try A B nm HHA.out] at KT0
        clear hcl hcr hclh
        by_cases e1 : hd = c
        · subst e1
          rw [if_pos rfl] at KT0
          have KT1 : ∀ W, Below wr.heap.size wr W → Calls Try.prog 11 #[.slice al LN cl, .string (bstr nm), .int .i64 hd, .int .i64 T, .bool true] W (Cm.GetsT ([], 0, 7) W) := fun W hb => by
            have := KQ W hb
            rw [if_pos rfl] at this
            exact this
          clear KQ
          have KT0 := Lib.hid KT0
          have KT1 := Lib.hid KT1
          unfold Cm.GetsT at KT0 KT1
          clear hgt
          go_wp2_with fail
          refine KT0.out.mono ?_
          rintro e w6 ⟨v6, M6, rfl, -, -, hb6⟩
          have HB6 := Lib.hid hb6
          clear hb6
          go_wp2_with fail
          refine (KT1.out _ HB6.out).mono ?_
          rintro e w7 ⟨v7, M7, rfl, -, -, hb7⟩
          have HB7 := Lib.hid (step HB6.out hb7)
          have y1 := HZ.out _ (step HB.out HB7.out)
          clear hb7 HB6
          go_wp2
          go_roundw
          case rel => exact ⟨k + 1, Mk, al, cl, Kk, by omega, by omega, by go_num, by rw [HLN.out], HV, Lib.hid (fun W hW => by rw [HLN.out]; exact HRW.out W (Cm.grownW_trans HB7.out hW)), Lib.hid (by rw [HKL.out]; exact Rw.own_below HO.out HB7.out), HG, Lib.hid (step HB.out HB7.out)⟩
          case measure => simp [intOf]; omega
        rw [if_neg e1] at KT0 hgt
        have KR : ∀ W, Below wr.heap.size wr W → Calls Try.prog 11 #[.slice al LN cl, .string (bstr nm), .int .i64 c, .int .i64 T, .bool true] W (Cm.GetsT (if Cm.hasL Kk c = true then (A ++ ⟨nm, hd, tk, Kk⟩ :: B, (Cm.aheadL Kk c).1, 10) else if 3 ≤ KL then ([], 0, 5) else (A ++ ⟨nm, hd, tk, Kk ++ [c]⟩ :: B, (KL : Int), 10)) W) := fun W hb => by
          have := KQ W hb
          rw [if_neg e1, HKL.out] at this
          exact this
        clear KQ
        have d4 : (c == hd) = false := by simpa using fun q => e1 q.symm
        have KIN : Hid (∀ W, Below wr.heap.size wr W → Calls Try.prog 28 #[.slice ua KL uc, .int .i64 c] W (Cm.Says (Cm.hasL Kk c) W)) := Lib.hid fun W hb => Cm.In_has _ Kk c W (HC.out.later hb)
        have KAH : Hid (∀ W, Below wr.heap.size wr W → Calls Try.prog 29 #[.slice ua KL uc, .int .i64 c] W (Cm.Stands (Cm.aheadL Kk c) W)) := Lib.hid fun W hb => Cm.Ahead_any _ Kk c W (HC.out.later hb)
        have KT0 := Lib.hid KT0
        cases hh : Cm.hasL Kk c with
        | true =>
          have KT1 : ∀ W, Below wr.heap.size wr W → Calls Try.prog 11 #[.slice al LN cl, .string (bstr nm), .int .i64 c, .int .i64 T, .bool true] W (Cm.GetsT (A ++ ⟨nm, hd, tk, Kk⟩ :: B, (Cm.aheadL Kk c).1, 10) W) := fun W hb => by
            have := KR W hb
            rw [if_pos hh] at this
            exact this
          clear KR
          have KT1 := Lib.hid KT1
          rw [hh] at KIN
          generalize Cm.aheadL Kk c = pr at KT1 KAH
          obtain ⟨p, pb⟩ := pr
          unfold Cm.GetsT at KT0 KT1
          unfold Cm.Stands at KAH
          dsimp only at KT1 KAH
          clear hgt hh e1
          go_wp2_with fail
          refine KT0.out.mono ?_
          rintro e w6 ⟨v6, M6, rfl, -, -, hb6⟩
          have HB6 := Lib.hid hb6
          clear hb6
          go_wp2_with fail
          refine (KT1.out _ HB6.out).mono ?_
          rintro e w7 ⟨v7, M7, rfl, -, -, hb7⟩
          have HB7 := Lib.hid (step HB6.out hb7)
          have y1 := HZ.out _ (step HB.out HB7.out)
          clear hb7 HB6
          go_wp2_with (first
            | (go_at_call 28; refine (KIN.out _ HB7.out).mono ?_; rintro e w8 ⟨rfl, rfl⟩)
            | (go_at_call 29; refine (KAH.out _ HB7.out).mono ?_; rintro e w8 ⟨rfl, rfl⟩))
          go_roundw
          case rel => exact ⟨k + 1, Mk, al, cl, Kk, by omega, by omega, by go_num, by rw [HLN.out], HV, Lib.hid (fun W hW => by rw [HLN.out]; exact HRW.out W (Cm.grownW_trans HB7.out hW)), Lib.hid (by rw [HKL.out]; exact Rw.own_below HO.out HB7.out), HG, Lib.hid (step HB.out HB7.out)⟩
          case measure => simp [intOf]; omega
        | false =>
          rw [if_neg (by rw [hh]; simp)] at hgt
          rw [hh] at KIN
          by_cases h3 : 3 ≤ KL
          · have KT1 : ∀ W, Below wr.heap.size wr W → Calls Try.prog 11 #[.slice al LN cl, .string (bstr nm), .int .i64 c, .int .i64 T, .bool true] W (Cm.GetsT ([], 0, 5) W) := fun W hb => by
              have := KR W hb
              rw [if_neg (by rw [hh]; simp), if_pos h3] at this
              exact this
            clear KR
            have KT1 := Lib.hid KT1
            unfold Cm.GetsT at KT0 KT1
            have d5 : ((KL : Int) == 3) = true := by simp; omega
            clear hgt hh e1 h3 KAH
            go_wp2_with fail
            refine KT0.out.mono ?_
            rintro e w6 ⟨v6, M6, rfl, -, -, hb6⟩
            have HB6 := Lib.hid hb6
            clear hb6
            go_wp2_with fail
            refine (KT1.out _ HB6.out).mono ?_
            rintro e w7 ⟨v7, M7, rfl, -, -, hb7⟩
            have HB7 := Lib.hid (step HB6.out hb7)
            have y1 := HZ.out _ (step HB.out HB7.out)
            clear hb7 HB6
            go_wp2_with (go_at_call 28; refine (KIN.out _ HB7.out).mono ?_; rintro e w8 ⟨rfl, rfl⟩)
            go_roundw
            case rel => exact ⟨k + 1, Mk, al, cl, Kk, by omega, by omega, by go_num, by rw [HLN.out], HV, Lib.hid (fun W hW => by rw [HLN.out]; exact HRW.out W (Cm.grownW_trans HB7.out hW)), Lib.hid (by rw [HKL.out]; exact Rw.own_below HO.out HB7.out), HG, Lib.hid (step HB.out HB7.out)⟩
            case measure => simp [intOf]; omega
          · have KT1 : ∀ W, Below wr.heap.size wr W → Calls Try.prog 11 #[.slice al LN cl, .string (bstr nm), .int .i64 c, .int .i64 T, .bool true] W (Cm.GetsT (A ++ ⟨nm, hd, tk, Kk ++ [c]⟩ :: B, (KL : Int), 10) W) := fun W hb => by
              have := KR W hb
              rw [if_neg (by rw [hh]; simp), if_neg h3] at this
              exact this
            clear KR
            have KT1 := Lib.hid KT1
            unfold Cm.GetsT at KT0 KT1
            rw [HKL.out, if_neg h3] at hgt
            have HGT := Lib.hid (hgt rfl)
            have d5 : ((KL : Int) == 3) = false := by simp; omega
            have h2 : KL ≤ 2 := by omega
            clear hgt hh e1 h3 KAH
            go_wp2_with fail
            refine KT0.out.mono ?_
            rintro e w6 ⟨v6, M6, rfl, -, -, hb6⟩
            have HB6 := Lib.hid hb6
            clear hb6
            go_wp2_with fail
            refine (KT1.out _ HB6.out).mono ?_
            rintro e w7 ⟨v7, M7, rfl, hv7, ho7, hb7⟩
            obtain ⟨a7, c7, rfl⟩ := Rw.own_form ho7.row
            have HV7 := Lib.hid hv7
            have HO7 := Lib.hid ho7
            have HB7 := Lib.hid (step HB6.out hb7)
            have y1 := HZ.out _ (step HB.out HB7.out)
            have HOL := Lib.hid (Rw.own_below HO.out HB7.out)
            have hbs := (step HB.out HB7.out).size
            clear hb7 hv7 ho7
            go_wp2_with (first
              | (go_at_call 28; refine (KIN.out _ HB7.out).mono ?_; rintro e w8 ⟨rfl, rfl⟩)
              | (at_builtin; refine Cm.wpList_append_one_gr Cm.cellsI_length (by omega) rfl (.tmp 101) (.tmp 103) 35 rfl 3 i0 _ 8 Try.underlying35 hi hz0 hz1 hz2 rfl #[.int .i64 c] c rfl (Cm.cellsI_one _) Kk W4.heap.size (.slice ua KL uc) rfl rfl (by rw [HKL.out]; exact HOL.out) (by rw [HKL.out]; unfold maxLen; omega) (by rw [HKL.out]; omega) hbs ?_; intro v8 w8 ho8 hg8 hat8; have HO8 := Lib.hid ho8; have HG8 := Lib.hid hg8; have HAT8 := Lib.hid hat8; clear ho8 hg8 hat8))
            go_roundw
            case rel => exact ⟨k + 1, M7, a7, c7, Kk ++ [c], by omega, by omega, by go_num, rfl, HV7, Lib.hid (fun W hW => (Cm.OwnN.far HO7.out (newAlloc w7 (.cells #[.int .i64 c] 3)) (fun g hg => Nat.lt_of_lt_of_le (Rw.own_lt HO.out g hg).2 HB6.out.size) HG8.out HAT8.out hW).rd), HO8, HGT, Lib.hid ((stepAlloc (step HB.out HB7.out) _).grown HG8.out (by have := (step HB.out HB7.out).size; simp; omega) (fun g hg => (Rw.own_lt HO.out g hg).1))⟩
            case measure => simp [intOf]; omega
      · have hcs : ¬ k < len1 ∨ (k < len1 ∧ ¬ k < 12) := by omega
        clear hgo HI
        rcases hcs with c1 | ⟨c1, c2⟩
        all_goals
          obtain ⟨wo, rfl⟩ : ∃ wo, wo = wr := ⟨_, rfl⟩
          have y1 := HZ.out wo HB.out
          have HCA := Lib.hid (fun i hi => Cm.rdi_at HC.out i hi)
          have hcap : KL ≤ uc ∧ uc ≤ maxLen := by
            obtain ⟨a9, cap9, hv9, q1, q2, _⟩ := HC.out.ex
            rw [HKL.out] at hv9 q1
            injection hv9 with _ _ q9
            subst q9
            exact ⟨q1, q2⟩
          unfold maxLen at hcap
          have HCD : Hid (∀ j, j ≤ KL → Cm.RdI wo (.slice (if uc = j then ua else ua.map (·.add (j * 1))) (KL - j) (uc - j)) (Kk.drop j)) := Lib.hid fun j hj => HC.out.drop (by omega) j hj
          have HBW := Lib.hid (step HB4.out HB.out)
          clear HRW HO HC HZ HB z1 z3 z3'
          go_wp2
          go_loopw [7, 8, 23, 24] (fun l tv h i wr => ∃ (k2 : Nat) (Mk2 : List Cm.LockC) (al2 : Option Addr) (cl2 : Nat) (hk tok : Int), k2 ≤ KL ∧ i = .int .i64 (k2 : Int) ∧ tv = .int .i64 (T + (k2 : Int)) ∧ h = .int .i64 hk ∧ l = .slice al2 Mk2.length cl2 ∧ Hid (Cm.vals Mk2 = A ++ ⟨nm, hk, tok, Kk.drop k2⟩ :: B) ∧ Hid (Cm.Good (A ++ ⟨nm, hk, tok, Kk.drop k2⟩ :: B) (T + (k2 : Int))) ∧ Hid (Cm.RdK wr (.slice al2 Mk2.length cl2) Mk2) ∧ Hid (Below wo.heap.size wo wr)) (fun _ _ _ i _ => KL - (intOf i).toNat)
          case atStart => exact ⟨0, Mk, al, cl, hd, tk, by omega, rfl, by simp, rfl, by rw [HLN.out], HV, Lib.hid (by have := HG.out; simpa using this), Lib.hid (by rw [HLN.out]; exact HRK.out), Lib.hid (Below.refl _ _)⟩
          case round =>
            obtain ⟨k2, Mk2, al2, cl2, hk, tok, hk2, rfl, rfl, rfl, rfl, HV2, HG2, HRK2, HB2⟩ := hrel
            obtain ⟨-, hcl2⟩ := Cm.mid_right HG2.out
            have KRF := (Cm.LckFree_any (.slice al2 Mk2.length cl2) Mk2 nm hk (T + (k2 : Int)) wr HRK2.out (by rw [HV2.out]; exact HG2.out) hnm hcl2 (by omega)).mono fun e w' h => Cm.GetsT.s h
            have hgf := Cm.good_free HG2.out nm hk (by omega)
            rw [HV2.out, Cm.mid_free A B nm HHA.out] at KRF
            rw [Cm.mid_free A B nm HHA.out] at hgf
            obtain ⟨LN2, hLN2⟩ : ∃ LN2, Mk2.length = LN2 := ⟨_, rfl⟩
            have HLN2 := Lib.hid hLN2
            rw [hLN2] at KRF ⊢
            clear hLN2 hcl2 HRK2
            by_cases hlt : k2 < KL
            · have hkk : k2 < Kk.length := by rw [HKL.out]; exact hlt
              obtain ⟨hd1, hd2, hd3⟩ := Cm.drop_cons' Kk k2 hkk
              rw [if_neg hd3, hd1, hd2] at KRF hgf
              obtain ⟨b2, o2, e2, hcc2⟩ := HCA.out k2 hkk
              subst e2
              generalize Kk[k2] = x2 at KRF hgf hcc2
              have HGF := Lib.hid (hgf rfl)
              dsimp only at HGF
              have KRF := Lib.hid KRF
              unfold Cm.GetsTS at KRF
              dsimp only at KRF
              have HC2 := Lib.hid hcc2
              have hdl : (Kk.drop (k2 + 1)).length = KL - (k2 + 1) := by rw [List.length_drop, HKL.out]
              have HCD2 := HCD.out (k2 + 1) (by omega)
              have v1 : IntKind.i64.wrap (T + (k2 : Int) + 1) = T + (k2 : Int) + 1 := by rw [IntKind.wrap_i64]; omega
              have v2 : IntKind.i64.wrap ((k2 : Int) + 1) = (k2 : Int) + 1 := by rw [IntKind.wrap_i64]; omega
              have f1 : (0 : Int) ≤ (k2 : Int) := by omega
              have f2 : (k2 : Int) < (KL : Int) := by omega
              have f3 : (0 : Int) ≤ (k2 : Int) + 1 := by omega
              have f4 : (k2 : Int) + 1 ≤ (KL : Int) := by omega
              have f5 : ((k2 : Int) + 1).toNat = k2 + 1 := by omega
              clear hgf hd1 hd2 hd3 hkk HCA HCD hcc2
              go_upto_region 32 with (go_at_call 14; refine KRF.out.mono ?_; rintro e w6 ⟨a6, c6, M6, rfl, hv6, hr6, hb6⟩; have HV6 := Lib.hid hv6; have HR6 := Lib.hid hr6; have HB6 := Lib.hid (step HB2.out hb6); clear hv6 hr6 hb6)
              have KF2 := (Cm.LckFind_any (.slice a6 M6.length c6) M6 nm w6 (T + (k2 : Int) + 1) HR6.out (by rw [HV6.out]; exact HGF.out) hnm).mono fun e w' h => Cm.GetsF.s h
              rw [HV6.out, Cm.mid_find A B nm HHA.out] at KF2
              dsimp only at KF2
              rw [hdl] at KF2
              have KF2 := Lib.hid KF2
              go_upto_region 33 with (go_at_call 20; refine KF2.out.mono ?_; rintro e w7 ⟨Ya, Yc, rfl, hx7, hb7⟩; have HX7 := Lib.hid hx7; have HB7 := Lib.hid hb7; clear hx7 hb7)
              obtain ⟨W8, hW8⟩ : ∃ W8, W8 = w7.alloc (.cells #[.string (bstr nm), .int .i64 x2, .int .i64 (T + (k2 : Int) + 1), .slice Ya (KL - (k2 + 1)) Yc] 39) := ⟨_, rfl⟩
              have HB8 : Hid (Below w6.heap.size w6 W8) := Lib.hid (by rw [hW8]; exact stepAlloc HB7.out _)
              have HX8 : Hid (Cm.RdI W8 (.slice Ya (KL - (k2 + 1)) Yc) (Kk.drop (k2 + 1))) := Lib.hid (by rw [hW8]; exact HX7.out.later (newAlloc _ _))
              obtain ⟨z0, z1, z2, z3⟩ := Cm.box4 (Below.refl _ (w7.alloc (.cells #[.string (bstr nm), .int .i64 x2, .int .i64 (T + (k2 : Int) + 1), .slice Ya (KL - (k2 + 1)) Yc] 39)))
              rw [← hW8] at z0 z1 z2 z3 ⊢
              have HBR := Lib.hid (step HB6.out HB8.out)
              have x1 := HC2.out W8 HBR.out
              have HRF := Lib.hid (HR6.out.later HB8.out)
              clear hW8 HX7 HB7 KF2 KRF
              obtain ⟨MN6, hMN6⟩ : ∃ MN6, M6.length = MN6 := ⟨_, rfl⟩
              have HMN6 := Lib.hid hMN6
              rw [hMN6] at HRF ⊢
              clear hMN6
              have hsm : Cm.sameI (Kk.drop (k2 + 1)) (Kk.drop (k2 + 1)) = true := (Cm.sameI_iff _ _).2 rfl
              by_cases hcp : uc = k2 + 1
              · rw [if_pos hcp] at HCD2
                obtain rfl : KL = k2 + 1 := by omega
                subst hcp
                rw [Nat.sub_self] at HCD2 HX8 z3 hdl ⊢
                have KS := Lib.hid (fun n => Cm.SameInts_q _ _ _ _ (W8.drewN n) (HX8.out.later (Cm.below_drewN6 (Below.refl _ _) n)) (HCD2.later (Cm.below_drewN6 HBR.out n)))
                rw [hsm] at KS
                unfold Cm.SaysQ at KS
                clear HCD2 hsm HX8 hdl
                go_quiet (first | (go_at_call 30; exact (KS.out _).mono fun e w2 ⟨he, n, hn⟩ => ⟨he, _, hn.trans (World.drewN_drewN _ _ _)⟩))
                go_wp2
                go_roundw
                case rel => exact ⟨k2 + 1, M6, a6, c6, x2, T + (k2 : Int) + 1, by omega, by go_num, by congr 1; push_cast; omega, rfl, by rw [HMN6.out], HV6, Lib.hid (by rw [show T + ((k2 + 1 : Nat) : Int) = T + (k2 : Int) + 1 by push_cast; omega]; exact HGF.out), Lib.hid (by rw [HMN6.out]; exact HRF.out.later (Cm.below_drewN6 (Below.refl _ _) nq)), Lib.hid (Cm.below_drewN6 HBR.out nq)⟩
                case measure => simp [intOf]
              · rw [if_neg hcp, Option.map_some, show (⟨b2, o2, none⟩ : Addr).add ((k2 + 1) * 1) = ⟨b2, o2 + (k2 + 1), none⟩ by unfold Addr.add; split <;> simp_all] at HCD2
                have KS := Lib.hid (fun n => Cm.SameInts_q _ _ _ _ (W8.drewN n) (HX8.out.later (Cm.below_drewN6 (Below.refl _ _) n)) (HCD2.later (Cm.below_drewN6 HBR.out n)))
                rw [hsm] at KS
                unfold Cm.SaysQ at KS
                clear HCD2 hsm HX8 hdl
                go_quiet (first | (go_at_call 30; exact (KS.out _).mono fun e w2 ⟨he, n, hn⟩ => ⟨he, _, hn.trans (World.drewN_drewN _ _ _)⟩))
                go_wp2
                go_roundw
                case rel => exact ⟨k2 + 1, M6, a6, c6, x2, T + (k2 : Int) + 1, by omega, by go_num, by congr 1; push_cast; omega, rfl, by rw [HMN6.out], HV6, Lib.hid (by rw [show T + ((k2 + 1 : Nat) : Int) = T + (k2 : Int) + 1 by push_cast; omega]; exact HGF.out), Lib.hid (by rw [HMN6.out]; exact HRF.out.later (Cm.below_drewN6 (Below.refl _ _) nq)), Lib.hid (Cm.below_drewN6 HBR.out nq)⟩
                case measure => simp [intOf]; omega
            · obtain rfl : k2 = KL := by omega
              have hdn : Kk.drop k2 = [] := List.drop_eq_nil_of_le (by rw [HKL.out]; exact Nat.le_refl _)
              rw [if_pos hdn] at KRF hgf
              have HGF := hgf rfl
              dsimp only at HGF
              have KRF := Lib.hid KRF
              unfold Cm.GetsTS at KRF
              dsimp only at KRF
              have HGF := Lib.hid HGF
              clear hgf hdn HCA HCD
              go_upto_region 39 with (go_at_call 14; refine KRF.out.mono ?_; rintro e w6 ⟨a6, c6, M6, rfl, hv6, hr6, hb6⟩; have HV6 := Lib.hid hv6; have HR6 := Lib.hid hr6; have HB6 := Lib.hid (step HB2.out hb6); clear hv6 hr6 hb6)
              have KF3 := (Cm.LckFind_any (.slice a6 M6.length c6) M6 nm w6 _ HR6.out (by rw [HV6.out]; exact HGF.out) hnm).mono fun e w' h => Cm.GetsF.s h
              rw [HV6.out, Cm.mid_gone A B nm HHA.out HHB.out] at KF3
              unfold Cm.zeroK at KF3
              dsimp only [List.length_nil] at KF3
              have KF3 := Lib.hid KF3
              clear HR6 HGF KRF
              generalize M6.length = MN6 at *
              go_wp2_with (first
                | (go_at_call 20; refine KF3.out.mono ?_; rintro e w7 ⟨Ya, Yc, rfl, -, hb7⟩; have HB7 := Lib.hid (step HB6.out hb7))
                | (go_at_call 9; refine (C0.out _).mono ?_; rintro e w8 ⟨rfl, hb8⟩))
              go_ret
              exact ⟨rfl, step HBW.out (step (stepAlloc HB7.out _) hb8)⟩

/-! ### THE ROW's STEP -/
set_option maxRecDepth 100000 in
theorem lifted (os : Os) (started : os.Started) (H : Type) (enc : TypeId × Value → H) :
    ReturnsInHanded {} Try.checked os 6 .any (Rows.lockFairSpec.pre6 enc Try.prog Try.f6 Rows.lockFairRow.domain false) (Rows.lockFairSpec.post enc Try.prog Try.f6 false true false false) := by
  refine returnsInHanded_of_change (C := Try.checked) own started (by kernel_rfl) Try.func6
    (ChangeSpec.witness6 (enc := enc) (C := Try.checked) false ⟨#[], #[.slice none 0 0, .slice none 0 0, .int .u8 0], []⟩ 8 (by kernel_rfl) (by kernel_rfl) (by kernel_rfl) (by kernel_rfl)) ?_
  intro W base args ds gs before hval0 hW hcnd _
  have hval : ∀ (j : Nat) t v, Try.f6.params[j]? = some t → args[j]? = some v → Value.okWide Try.prog W .any base t v := hval0
  have hW' := hW
  obtain ⟨p, q, hA0, hV, rfl, hfz, hnd⟩ := hW
  have hA : DataW.TrodAll enc Try.prog W 0 (fun _ => true) true Try.f6.params.toList args.toList ds p := hA0
  rw [Try.params6] at hA hval
  obtain ⟨v0, vs0, d0, ds0, p0, q0, hargs, rfl, rfl, h0, r0⟩ := trodAll_cons hA
  obtain ⟨v1, vs1, d1, ds1, p1, q1, rfl, rfl, rfl, h1, r1⟩ := trodAll_cons r0
  obtain ⟨v2, vs2, d2, ds2, p2, q2, rfl, rfl, rfl, h2, r2⟩ := trodAll_cons r1
  obtain ⟨rfl, rfl, rfl⟩ := trodAll_nil r2
  obtain rfl : args = #[v0, v1, v2] := by cases args; simp_all
  obtain ⟨rfl, rfl⟩ := trodVars_none hV
  have k0 := h0
  have lt0 : ∀ x ∈ p0, x.block < W.heap.size := by obtain ⟨m, hm⟩ := k0; exact DataW.trod_lt m _ _ _ hm
  obtain ⟨a0, rfl, w0⟩ := Cm.open_act3 (hval 0 22 v0 rfl rfl) h0
  obtain ⟨a1, len1, cap1, rfl⟩ := okWide_slice Try.underlying48 (hval 1 48 v1 rfl rfl)
  have k1 := h1
  have lt1 : ∀ x ∈ p1, x.block < W.heap.size := by obtain ⟨m, hm⟩ := k1; exact DataW.trod_lt m _ _ _ hm
  obtain ⟨z1, w1⟩ : ∃ zs, IsRow .u8 W a1 len1 cap1 zs := by
    obtain ⟨fuel, hf⟩ := h1
    rcases open_ints Try.underlying48 Try.underlying5 (by kernel_rfl) hf with ⟨hcs, _⟩ | ⟨x, l, c, zs, hcs, _, hl, hm, hz, _, hcell, hwz⟩
    · simp [Value.cells] at hcs
      obtain ⟨rfl, rfl, rfl⟩ := hcs
      exact ⟨[], .inl ⟨rfl, rfl, rfl, rfl⟩⟩
    · simp [Value.cells] at hcs
      obtain ⟨rfl, rfl, rfl⟩ := hcs
      exact ⟨zs, .inr ⟨_, rfl, hl, hm, by simpa using hz, hcell, hwz⟩⟩
  obtain ⟨a2, rfl, rfl, rfl, w2⟩ := open_int Try.underlying5 (hval 2 5 v2 rfl rfl) h2
  clear hA0 hval0
  refine (walk a0 a1 len1 cap1 z1 a2 W w0 w1 w2).mono fun e W' ⟨he, bel⟩ => ?_
  subst he
  exact ⟨_, rfl, _, _, _, [], _, [], hW', trodAll_mk1 (shut_bool Try.underlying4 _), (trodAll_cons_mk (Below.trod laidOut (by kernel_rfl) (of_decide_eq_true (by kernel_rfl)) k0 bel lt0) (trodAll_cons_mk (Below.trod laidOut (by kernel_rfl) (of_decide_eq_true (by kernel_rfl)) k1 bel lt1) (trodAll_cons_mk (shut_int Try.underlying5 w2) trodAll_mk0))), rfl, bel.frame _, fun h => by cases h⟩

theorem over : Rows.lockFairRow.holds Try.pinned (OpenSpec.ofChange Rows.lockFairSpec) :=
  OpenClaim.holds_of_wide 6 Try.f6 rfl rfl rfl rfl rfl rfl rfl ⟨rfl, rfl, rfl, rfl, rfl⟩ rfl rfl rfl rfl rfl (by kernel_rfl) Try.func6 (by kernel_rfl)
    (of_decide_eq_true (by kernel_rfl)) (by unfold Func.isWrapper; first | (rw [if_pos (by decide +kernel)]; kernel_rfl) | (rw [if_neg (by decide +kernel)]; exact ⟨rfl, rfl⟩))
    (fun os started H enc _ => lifted os started H enc)

/-- THE STATEMENT -/
theorem proved : Rows.LockFairSaid := over
end Go.Proofs.Ytnkooajbenhjhaa.lockFair
