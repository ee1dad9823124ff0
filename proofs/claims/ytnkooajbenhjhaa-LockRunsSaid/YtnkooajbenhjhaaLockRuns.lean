/- PROVED: the statement LockRuns of layer 8: for every input that can be read, the law returns true and leaves its arguments as they were. No condition. -/
import Derived.Test.YtnkooajbenhjhaaRows
import Derived.Test.YtnkooajbenhjhaaP10
import Derived.WalkKit
import Derived.ProofKit
import Derived.OpenShut
import Derived.ShutString
import Derived.ChangeOld
import Derived.Below
import Derived.Deep.Cut
import Derived.Deep.CutBlock
import Derived.Deep.DeepCutAuto
namespace Go.Proofs.Ytnkooajbenhjhaa.lockRuns
open Go.ChangeShapes Go.WideShapes Go.ChangeAt Go.RowKit
open Go.ChangeMaps (open_string shut_string)
open Go.Sort (grow)
set_option linter.unusedVariables false

theorem own : ownKnob Try.prog.godebug = none := by kernel_rfl
theorem laidOut : laidOutB Try.prog = true := by kernel_rfl

/-! ### STEP 1: THE WALK -/
set_option maxRecDepth 100000 in
set_option maxHeartbeats 4000000 in
theorem walk (a0 : List Cm.Act3 × Value) (w : World) (w0 : Cm.act3OkA w a0) :
    Calls Try.prog 3 #[Cm.act3A a0] w fun e w' => e = .returned (.bool true) ∧ Below w.heap.size w w' := by
  obtain ⟨ac, v⟩ := a0
  unfold Cm.act3OkA at w0
  unfold Cm.act3A
  dsimp only at w0 ⊢
  obtain ⟨w0, wa⟩ := w0
  have hm := w0.len
  have C0 := Lib.hid (fun w => Cm.awake8_ok w)
  obtain ⟨a, cap, rfl⟩ := w0.form
  have HA := Lib.hid (fun i hi => Cm.acts3_at w0 i hi)
  have HOK : Hid (∀ i (hi : i < ac.length), ac[i].ok) := Lib.hid fun i hi => wa _ (List.getElem_mem hi)
  clear w0 wa
  obtain ⟨N, hN⟩ : ∃ N, ac.length = N := ⟨_, rfl⟩
  have HLL := Lib.hid hN
  rw [hN] at hm ⊢
  clear hN
  by_cases h1 : 60 < N
  · go_enter Try.func3, Try.ntmps3
    go_wp2_with (go_at_call 9; refine (C0.out _).mono ?_; rintro e w1 ⟨rfl, hb1⟩)
    go_ret
    exact ⟨rfl, hb1⟩
  have d60 : decide ((60 : Int) < (N : Int)) = false := by simp; omega
  have h60 : N ≤ 60 := by omega
  clear h1
  go_enter Try.func3, Try.ntmps3
  go_wp2
  go_loopw [3, 4, 5] (fun l tk i wr => ∃ (k : Nat) (M : List Cm.LockC) (am : Option Addr) (cm : Nat) (T : Int), k ≤ N ∧ i = .int .i64 k ∧ l = .slice am M.length cm ∧ tk = .int .i64 T ∧ T ≤ 4 * k ∧ Hid (Cm.Good (Cm.vals M) T) ∧ Hid (Cm.RdK wr (.slice am M.length cm) M) ∧ Hid (Below w.heap.size w wr)) (fun _ _ i _ => N - (intOf i).toNat)
  case atStart => exact ⟨0, [], none, 0, 0, by omega, rfl, rfl, rfl, Int.le_refl _, Lib.hid Cm.Good.nil, Lib.hid (Cm.RdK.nil _), Lib.hid (Below.refl _ _)⟩
  case round =>
    obtain ⟨k, M, am, cm, T, hk, rfl, rfl, rfl, hT, HG, HR, HB⟩ := hrel
    by_cases hlt : k < N
    · have hkl : k < ac.length := by rw [HLL.out]; exact hlt
      obtain ⟨b, o, rfl, hc⟩ := HA.out k hkl
      obtain ⟨q0, q1, q2⟩ := hc _ HB.out
      have hok := HOK.out k hkl
      have hgn := Cm.good_next HG.out ac[k] (by omega)
      clear hc HA HOK
      generalize ac[k] = x at q0 q1 q2 hok hgn
      obtain ⟨xd, xn, xc⟩ := x
      obtain ⟨h2, h3, h4⟩ := hok
      dsimp only at q0 q1 q2 h2 h3 h4
      have hT0 := HG.out.pos
      have HGN := Lib.hid hgn.1
      have hnt := hgn.2
      clear hgn
      have f1 : (0 : Int) ≤ (k : Int) := by omega
      have f2 : (k : Int) < (N : Int) := by omega
      have CN := Lib.hid (fun W => Cm.Named_any xn W h3)
      have hnmd := Cm.namedF_ok (xn % 6) (Nat.mod_lt _ (by omega))
      have hcld : Cm.clientF ((xc % 8 : Nat) : Int) = true := Cm.Act3.cl_ok ⟨xd, xn, xc⟩
      have e1 : (xd : Int).tmod 4 = ((xd % 4 : Nat) : Int) := Cm.tmod_cast xd 4
      have e2 : (xc : Int).tmod 8 = ((xc % 8 : Nat) : Int) := Cm.tmod_cast xc 8
      have hm8 : xc % 8 < 8 := Nat.mod_lt _ (by omega)
      have e3 : IntKind.i64.wrap (xc : Int) = (xc : Int) := by rw [IntKind.wrap_i64]; omega
      have e4 : IntKind.i64.wrap ((xc % 8 : Nat) : Int) = ((xc % 8 : Nat) : Int) := by rw [IntKind.wrap_i64]; omega
      obtain ⟨W1, hW1⟩ : ∃ W1, W1 = wr.alloc (.cells #[.int .u8 (xd : Int), .int .u8 (xn : Int), .int .u8 (xc : Int)] 26) := ⟨_, rfl⟩
      have HB1 : Hid (Below wr.heap.size wr W1) := Lib.hid (by rw [hW1]; exact newAlloc _ _)
      have z := Cm.box3 (Below.refl _ (wr.alloc (.cells #[.int .u8 (xd : Int), .int .u8 (xn : Int), .int .u8 (xc : Int)] 26)))
      rw [← hW1] at z
      obtain ⟨z0, z1, z2⟩ := z
      have HBX : Hid (∀ W, Below W1.heap.size W1 W → W.cell? ⟨wr.heap.size, 0, none⟩ = some (.int .u8 (xd : Int)) ∧ W.cell? ⟨wr.heap.size, 1, none⟩ = some (.int .u8 (xn : Int)) ∧ W.cell? ⟨wr.heap.size, 2, none⟩ = some (.int .u8 (xc : Int))) := Lib.hid fun W hb => ⟨(hb.cell (lt_of_cell z0)).trans z0, (hb.cell (lt_of_cell z1)).trans z1, (hb.cell (lt_of_cell z2)).trans z2⟩
      go_upto_region 9 with fail
      rw [← hW1]
      clear hW1 q0 q1 q2
      generalize hCC : xc % 8 = C at *
      generalize hNM : Cm.namedF (xn % 6) = nm at *
      go_region_held3 (fun W => W.cell? ⟨wr.heap.size, 1, none⟩ = some (.int .u8 (xn : Int)) ∧ W.cell? ⟨wr.heap.size, 2, none⟩ = some (.int .u8 (xc : Int))) (first | exact ⟨z1, z2⟩ | exact (HBX.out _ HBN.out).2 | exact (HBX.out _ (Cm.below_drewN6 (Below.refl _ _) _)).2 | go_keep) (first
        | (go_at_call 10; refine (CN.out _).mono ?_; rintro e w2 ⟨rfl, hb2⟩; have HBN := Lib.hid (step (Cm.below_drewN6 (Below.refl W1.heap.size W1) 1) hb2); clear hb2))
      all_goals
        obtain ⟨x0, x1, x2⟩ := HBX.out _ HBN.out
        have HB2 := Lib.hid (step HB1.out HBN.out)
        have HX0 := Lib.hid (fun W (hb : Below w2.heap.size w2 W) => (HBX.out W (step HBN.out hb)).2.2)
        have HX9 := Lib.hid (fun W (hb : Below w2.heap.size w2 W) => HBX.out W (step HBN.out hb))
        clear HBX z0 z1 z2 CN e2 e3 e4 HBN HB1
        have hxd : xd % 4 < 4 := Nat.mod_lt _ (by omega)
        have HCC := Lib.hid hCC
        have HNM := Lib.hid hNM
        have HBW := Lib.hid (step HB.out HB2.out)
        have HR2 := Lib.hid (HR.out.later HB2.out)
        clear hCC hNM HR HB
        generalize hDD : xd % 4 = D at *
        have HDD := Lib.hid hDD
        clear hDD
        go_upto_block 2 with fail
        have hbd := Cm.good_bounds HG.out
        go_cut [28, 29, 30, 31] from 9 to 155 (fun s28 s29 s30 s31 wc => s28 = .slice (some ⟨b, o, none⟩) N cap ∧ s29 = .int .i64 (N : Int) ∧ s30 = .bool false ∧ s31 = undef ∧ Hid (Below w2.heap.size w2 wc))
        case first =>
          match D, hxd with
          | 0, _ =>
            replace e1 : (xd : Int).tmod 4 = 0 := e1
            have KT := Lib.hid (fun W (hb : Below w2.heap.size w2 W) => (Cm.LckTake_any (.slice am M.length cm) M nm (C : Int) T true W (HR2.out.later hb) HG.out hnmd hcld (by omega)).mono fun e w' h => Cm.GetsT.s h)
            have KU := Lib.hid (fun W (hb : Below w2.heap.size w2 W) => (Cm.TakeLock_any (.slice am M.length cm) M nm (C : Int) T true W (HR2.out.later hb) hbd.1 hbd.2 ⟨hT0, by omega⟩).mono fun e w' h => Cm.GetsT.s h)
            unfold Cm.GetsTS at KT KU
            generalize Cm.takeK (Cm.vals M) nm (C : Int) T true = r at KT KU
            obtain ⟨rl, rn, rc⟩ := r
            dsimp only at KT KU
            go_wp2_with (first
              | (go_at_call 11; refine (KT.out _ (Below.refl _ _)).mono ?_; rintro e w5 ⟨a5, c5, M5, rfl, hv5, hr5, hb5⟩; have hx5 := (HX9.out _ hb5).1; have HV5 := Lib.hid hv5; have HR5 := Lib.hid hr5; have HB5 := Lib.hid hb5; clear hv5 hr5 hb5)
              | (go_at_call 12; refine (KU.out _ HB5.out).mono ?_; rintro e w6 ⟨a6, c6, M6, rfl, hv6, hr6, hb6⟩; have HV6 := Lib.hid hv6; have HR6 := Lib.hid hr6; have HR56 := Lib.hid (HR5.out.later hb6); have HB6 := Lib.hid (step HB5.out hb6); clear hv6 hr6 hb6)
              | (go_at_call 13; refine (Cm.same_locks _ _ M5 M6 _ HR56.out HR6.out (HV5.out.trans HV6.out.symm)).mono ?_; rintro e w7 ⟨rfl, hb7⟩; have HB7 := Lib.hid (step HB6.out hb7); clear hb7))
            go_meet
            case rel => exact ⟨rfl, rfl, rfl, rfl, HB7⟩
          | 1, _ =>
            replace e1 : (xd : Int).tmod 4 = 1 := e1
            have KT := Lib.hid (fun W (hb : Below w2.heap.size w2 W) => (Cm.LckTake_any (.slice am M.length cm) M nm (C : Int) T false W (HR2.out.later hb) HG.out hnmd hcld (by omega)).mono fun e w' h => Cm.GetsT.s h)
            have KU := Lib.hid (fun W (hb : Below w2.heap.size w2 W) => (Cm.TakeLock_any (.slice am M.length cm) M nm (C : Int) T false W (HR2.out.later hb) hbd.1 hbd.2 ⟨hT0, by omega⟩).mono fun e w' h => Cm.GetsT.s h)
            unfold Cm.GetsTS at KT KU
            generalize Cm.takeK (Cm.vals M) nm (C : Int) T false = r at KT KU
            obtain ⟨rl, rn, rc⟩ := r
            dsimp only at KT KU
            go_wp2_with (first
              | (go_at_call 11; refine (KT.out _ (Below.refl _ _)).mono ?_; rintro e w5 ⟨a5, c5, M5, rfl, hv5, hr5, hb5⟩; have hx5 := (HX9.out _ hb5).1; have HV5 := Lib.hid hv5; have HR5 := Lib.hid hr5; have HB5 := Lib.hid hb5; clear hv5 hr5 hb5)
              | (go_at_call 12; refine (KU.out _ HB5.out).mono ?_; rintro e w6 ⟨a6, c6, M6, rfl, hv6, hr6, hb6⟩; have HV6 := Lib.hid hv6; have HR6 := Lib.hid hr6; have HR56 := Lib.hid (HR5.out.later hb6); have HB6 := Lib.hid (step HB5.out hb6); clear hv6 hr6 hb6)
              | (go_at_call 13; refine (Cm.same_locks _ _ M5 M6 _ HR56.out HR6.out (HV5.out.trans HV6.out.symm)).mono ?_; rintro e w7 ⟨rfl, hb7⟩; have HB7 := Lib.hid (step HB6.out hb7); clear hb7))
            go_meet
            case rel => exact ⟨rfl, rfl, rfl, rfl, HB7⟩
          | 2, _ =>
            replace e1 : (xd : Int).tmod 4 = 2 := e1
            have KT := Lib.hid (fun W (hb : Below w2.heap.size w2 W) => (Cm.LckFree_any (.slice am M.length cm) M nm (C : Int) T W (HR2.out.later hb) HG.out hnmd hcld (by omega)).mono fun e w' h => Cm.GetsT.s h)
            have KU := Lib.hid (fun W (hb : Below w2.heap.size w2 W) => (Cm.FreeLock_any (.slice am M.length cm) M nm (C : Int) T W (HR2.out.later hb) hbd.1 hbd.2 ⟨hT0, by omega⟩).mono fun e w' h => Cm.GetsT.s h)
            unfold Cm.GetsTS at KT KU
            generalize Cm.freeK (Cm.vals M) nm (C : Int) T = r at KT KU
            obtain ⟨rl, rn, rc⟩ := r
            dsimp only at KT KU
            go_wp2_with (first
              | (go_at_call 14; refine (KT.out _ (Below.refl _ _)).mono ?_; rintro e w5 ⟨a5, c5, M5, rfl, hv5, hr5, hb5⟩; have HV5 := Lib.hid hv5; have HR5 := Lib.hid hr5; have HB5 := Lib.hid hb5; clear hv5 hr5 hb5)
              | (go_at_call 15; refine (KU.out _ HB5.out).mono ?_; rintro e w6 ⟨a6, c6, M6, rfl, hv6, hr6, hb6⟩; have HV6 := Lib.hid hv6; have HR6 := Lib.hid hr6; have HR56 := Lib.hid (HR5.out.later hb6); have HB6 := Lib.hid (step HB5.out hb6); clear hv6 hr6 hb6)
              | (go_at_call 13; refine (Cm.same_locks _ _ M5 M6 _ HR56.out HR6.out (HV5.out.trans HV6.out.symm)).mono ?_; rintro e w7 ⟨rfl, hb7⟩; have HB7 := Lib.hid (step HB6.out hb7); clear hb7))
            go_meet
            case rel => exact ⟨rfl, rfl, rfl, rfl, HB7⟩
          | 3, _ =>
            replace e1 : (xd : Int).tmod 4 = 3 := e1
            have hgl := Cm.clientsF_length xc 8
            have KT := Lib.hid (fun W u (hb : Below w2.heap.size w2 W) (hu : Cm.RdI W u (Cm.clientsF xc 8)) => (Cm.LckDrop_any (.slice am M.length cm) u M (Cm.clientsF xc 8) T W (HR2.out.later hb) HG.out hu (by omega) (by omega)).mono fun e w' h => Cm.GetsD.s h)
            have KU := Lib.hid (fun W u (hb : Below w2.heap.size w2 W) (hu : Cm.RdI W u (Cm.clientsF xc 8)) => (Cm.DropLocks_any (.slice am M.length cm) u M (Cm.clientsF xc 8) T W (HR2.out.later hb) hbd.1 hbd.2 ⟨hT0, by omega⟩ hu HG.out.rk.names).mono fun e w' h => Cm.GetsD.s h)
            have CK := Lib.hid (fun W => Cm.clients_any xc h4 W)
            unfold Cm.GetsDS at KT KU
            unfold Cm.GetsN at CK
            generalize Cm.dropK (Cm.clientsF xc 8) (Cm.vals M) T = r at KT KU
            generalize Cm.clientsF xc 8 = G at KT KU CK
            obtain ⟨rl, rn⟩ := r
            dsimp only at KT KU
            clear hgl
            go_wp2_with fail
            refine (CK.out _).mono ?_
            rintro e w4 ⟨v4, rfl, ho4, hb4⟩
            have HR4 := Lib.hid (RdX.own Cm.cellsI_length ho4)
            have HB4 := Lib.hid hb4
            clear ho4 hb4
            go_wp2_with fail
            refine (KT.out _ _ HB4.out HR4.out).mono ?_
            rintro e w5 ⟨a5, c5, M5, rfl, hv5, hr5, hb5⟩
            have HV5 := Lib.hid hv5
            have HR5 := Lib.hid hr5
            have HB5 := Lib.hid (step HB4.out hb5)
            have hx5 := HX0.out _ HB5.out
            clear hv5 hr5 hb5
            go_wp2_with fail
            refine (CK.out _).mono ?_
            rintro e w8 ⟨v8, rfl, ho8, hb8⟩
            have HR8 := Lib.hid (RdX.own Cm.cellsI_length ho8)
            have HB8 := Lib.hid (step HB5.out hb8)
            have HR58 := Lib.hid (HR5.out.later hb8)
            clear ho8 hb8
            go_wp2_with fail
            refine (KU.out _ _ HB8.out HR8.out).mono ?_
            rintro e w6 ⟨a6, c6, M6, rfl, hv6, hr6, hb6⟩
            have HV6 := Lib.hid hv6
            have HR6 := Lib.hid hr6
            have HR56 := Lib.hid (HR58.out.later hb6)
            have HB6 := Lib.hid (step HB8.out hb6)
            clear hv6 hr6 hb6
            go_wp2_with (go_at_call 13; refine (Cm.same_locks _ _ M5 M6 _ HR56.out HR6.out (HV5.out.trans HV6.out.symm)).mono ?_; rintro e w7 ⟨rfl, hb7⟩; have HB7 := Lib.hid (step HB6.out hb7); clear hb7)
            go_meet
            case rel => exact ⟨rfl, rfl, rfl, rfl, HB7⟩
        case rest =>
          obtain ⟨rfl, rfl, rfl, rfl, HBC⟩ := hcut
          obtain ⟨x0, x1, x2⟩ := HX9.out _ HBC.out
          have HNX := Lib.hid (Cm.next_any (.slice am M.length cm) M T ⟨xd, xn, xc⟩ wc (HR2.out.later HBC.out) HG.out (by omega) ⟨h2, h3, h4⟩)
          unfold Cm.GetsU Cm.act3Val at HNX
          generalize Cm.nextK (Cm.vals M) T ⟨xd, xn, xc⟩ = nx at HNX HGN hnt
          obtain ⟨nl, nt⟩ := nx
          dsimp only at HNX HGN hnt
          clear HX0 HX9 HCC HNM HDD HR2 hbd
          go_upto_region 27 with (go_at_call 19; refine HNX.out.mono ?_; rintro e w10 ⟨a', c', M', rfl, hv', hr', hb'⟩; have HV' := Lib.hid hv'; have HR' := Lib.hid hr'; have HB' := Lib.hid (step HBW.out (step HBC.out hb')); clear hv' hr' hb')
          have KF := ((Cm.LckFind_any (.slice a' M'.length c') M' nm w10 nt HR'.out (by rw [HV'.out]; exact HGN.out) hnmd).mono fun e w' h => Cm.GetsF.s h)
          obtain ⟨r, hFK⟩ : ∃ r, r = Cm.findK (Cm.vals M') nm := ⟨_, rfl⟩
          rw [← hFK] at KF
          obtain ⟨⟨yn, yh, yt, yl⟩, yb⟩ := r
          dsimp only at KF
          have KF := Lib.hid KF
          have HFK := Lib.hid hFK
          clear hFK
          go_upto_region 28 with (go_at_call 20; refine KF.out.mono ?_; rintro e w11 ⟨Xa, Xc, rfl, hx, hb11⟩; have HX := Lib.hid hx; have HB11 := Lib.hid hb11; clear hx hb11)
          obtain ⟨W12, hW12⟩ : ∃ W12, W12 = w11.alloc (.cells #[.string (bstr yn), .int .i64 yh, .int .i64 yt, .slice Xa yl.length Xc] 39) := ⟨_, rfl⟩
          have hb12 : Below w10.heap.size w10 W12 := by rw [hW12]; exact stepAlloc HB11.out _
          have HX12 := Lib.hid (HX.out.later (show Below w11.heap.size w11 W12 by rw [hW12]; exact newAlloc _ _))
          have HR12 := Lib.hid (HR'.out.later hb12)
          have HB12 := Lib.hid (step HB'.out hb12)
          obtain ⟨z0, z1, z2, z3⟩ := Cm.box4 (Below.refl _ (w11.alloc (.cells #[.string (bstr yn), .int .i64 yh, .int .i64 yt, .slice Xa yl.length Xc] 39)))
          rw [← hW12] at z0 z1 z2 z3 ⊢
          have HZ : Hid (∀ W, Below W12.heap.size W12 W → W.cell? ⟨w11.heap.size, 0, none⟩ = some (.string (bstr yn)) ∧ W.cell? ⟨w11.heap.size, 1, none⟩ = some (.int .i64 yh) ∧ W.cell? ⟨w11.heap.size, 2, none⟩ = some (.int .i64 yt) ∧ W.cell? ⟨w11.heap.size, 3, none⟩ = some (.slice Xa yl.length Xc)) := Lib.hid fun W hb => ⟨(hb.cell (lt_of_cell z0)).trans z0, (hb.cell (lt_of_cell z1)).trans z1, (hb.cell (lt_of_cell z2)).trans z2, (hb.cell (lt_of_cell z3)).trans z3⟩
          have HRI := Lib.hid (fun W (hb : Below W12.heap.size W12 W) => Cm.LckRight_any (.slice a' M'.length c') M' W (HR12.out.later hb) (Cm.good_names (t := nt) (by rw [HV'.out]; exact HGN.out)))
          rw [HV'.out, HGN.out.right] at HRI
          have hbd' := Cm.good_bounds (L := M') (t := nt) (by rw [HV'.out]; exact HGN.out)
          have HD1 := Lib.hid (fun W (hb : Below W12.heap.size W12 W) => Cm.LckHeld_any (.slice a' M'.length c') M' (C : Int) W nt (HR12.out.later hb) (by rw [HV'.out]; exact HGN.out) hcld)
          have HD2 := Lib.hid (fun W (hb : Below W12.heap.size W12 W) => Cm.Held_any (.slice a' M'.length c') M' (C : Int) W (HR12.out.later hb).row hbd'.1)
          have HSG : Hid (∀ W u v l, Cm.RdH W u l → Cm.RdH W v l → Calls Try.prog 23 #[u, v] W (Cm.SaysB true W)) := Lib.hid fun W u v l h h2 => by
            have := Cm.SameGrants_any u v l l W h h2
            rwa [(Cm.sameH_iff l l).2 rfl] at this
          have HRF := Lib.hid hnmd
          have HW12 := Lib.hid hW12
          clear hW12 hb12 HX HB11 KF HNX HBC HB' hbd'
          unfold Cm.GetsH at HD1 HD2
          rcases Cm.idx_cases (Cm.isNm nm) (Cm.vals M') with hix | ⟨q, hq, hix, -⟩
          · have KL := Lib.hid (Cm.Find_at a' M'.length c' M' nm W12 (-1) hix HR12.out.row)
            have hfk : Cm.findK (Cm.vals M') nm = (Cm.zeroK, false) := by unfold Cm.findK; rw [hix, if_pos (by omega)]
            have hfk2 := HFK.out.trans hfk
            injection hfk2 with _ hyb
            subst hyb
            clear hix hfk z0 z1 z2 z3 HFK
            generalize Cm.heldK (Cm.vals M') (C : Int) = gs at HD1 HD2
            go_upto_region 29 with (go_at_call 21; refine KL.out.mono ?_; rintro e w13 ⟨rfl, rfl⟩)
            obtain ⟨MN, hMN⟩ : ∃ MN, M'.length = MN := ⟨_, rfl⟩
            have HMN := Lib.hid hMN
            rw [hMN] at HR12 HRI HD1 HD2 ⊢
            clear hMN
            refine wp_region_held_drew (S := fun _ => True) (by kernel_rfl) trivial (fun hHeld => ?_)
            refine wpAnyH_take (i := 0) (v := ?_) rfl (by kernel_rfl) (by kernel_rfl) (by kernel_rfl) (fun _ _ _ h => h) (Or.inl ⟨by rfl, ?_⟩) (by assumption) ?_
            rotate_left
            · intro w hSw; (try dsimp only at hSw); go_simp <;> with_reducible rfl
            try simp only [Act.put, List.getElem_toArray, List.getElem_cons_zero, List.setIfInBounds_toArray, List.set_cons_zero, List.set_cons_succ]
            refine wpAnyH_take (i := 1) (v := ?_) rfl (by kernel_rfl) (by kernel_rfl) (by kernel_rfl) (fun _ _ _ h => h) (Or.inl ⟨by rfl, ?_⟩) (by assumption) ?_
            rotate_left
            · intro w hSw; (try dsimp only at hSw); go_simp <;> with_reducible rfl
            try simp only [Act.put, List.getElem_toArray, List.getElem_cons_succ, List.getElem_cons_zero, List.setIfInBounds_toArray, List.set_cons_zero, List.set_cons_succ]
            refine wpAnyH_take (i := 2) (v := ?_) rfl (by kernel_rfl) (by kernel_rfl) (by kernel_rfl) (fun _ _ _ h => h) (Or.inl ⟨by rfl, ?_⟩) (by assumption) ?_
            rotate_left
            · intro w hSw; (try dsimp only at hSw); go_simp <;> with_reducible rfl
            try simp only [Act.put, List.getElem_toArray, List.getElem_cons_succ, List.getElem_cons_zero, List.setIfInBounds_toArray, List.set_cons_zero, List.set_cons_succ]
            refine wpAnyH_take (i := 3) (v := ?_) rfl (by kernel_rfl) (by kernel_rfl) (by kernel_rfl) (fun _ _ _ h => h) (Or.inl ⟨by rfl, ?_⟩) (by assumption) ?_
            rotate_left
            · intro w hSw; (try dsimp only at hSw); go_simp <;> with_reducible rfl
            try simp only [Act.put, List.getElem_toArray, List.getElem_cons_succ, List.getElem_cons_zero, List.setIfInBounds_toArray, List.set_cons_zero, List.set_cons_succ]
            refine wpAnyH_take (i := 4) (v := ?_) rfl (by kernel_rfl) (by kernel_rfl) (by kernel_rfl) (fun _ _ _ h => h) (Or.inl ⟨by rfl, ?_⟩) (by assumption) ?_
            rotate_left
            · intro w hSw; (try dsimp only at hSw); go_simp <;> with_reducible rfl
            try simp only [Act.put, List.getElem_toArray, List.getElem_cons_succ, List.getElem_cons_zero, List.setIfInBounds_toArray, List.set_cons_zero, List.set_cons_succ]
            refine wpAnyH_take (i := 5) (v := ?_) rfl (by kernel_rfl) (by kernel_rfl) (by kernel_rfl) (fun _ _ _ h => h) (Or.inl ⟨by rfl, ?_⟩) (by assumption) ?_
            rotate_left
            · intro w hSw; (try dsimp only at hSw); go_simp <;> with_reducible rfl
            try simp only [Act.put, List.getElem_toArray, List.getElem_cons_succ, List.getElem_cons_zero, List.setIfInBounds_toArray, List.set_cons_zero, List.set_cons_succ]
            refine wpAnyH_take (i := 6) (v := ?_) rfl (by kernel_rfl) (by kernel_rfl) (by kernel_rfl) (fun _ _ _ h => h) (Or.inl ⟨by rfl, ?_⟩) (by assumption) ?_
            rotate_left
            · intro w hSw; (try dsimp only at hSw); go_simp <;> with_reducible rfl
            try simp only [Act.put, List.getElem_toArray, List.getElem_cons_succ, List.getElem_cons_zero, List.setIfInBounds_toArray, List.set_cons_zero, List.set_cons_succ]
            refine wpAnyH_take (i := 7) (v := undef) rfl (by kernel_rfl) (by kernel_rfl) (by kernel_rfl) (fun _ _ _ h => h) (Or.inr ⟨by rfl, rfl⟩) (by assumption) ?_
            try simp only [Act.put, List.getElem_toArray, List.getElem_cons_succ, List.getElem_cons_zero, List.setIfInBounds_toArray, List.set_cons_zero, List.set_cons_succ]
            refine wpAnyH_take (i := 8) (v := undef) rfl (by kernel_rfl) (by kernel_rfl) (by kernel_rfl) (fun _ _ _ h => h) (Or.inr ⟨by rfl, rfl⟩) (by assumption) ?_
            try simp only [Act.put, List.getElem_toArray, List.getElem_cons_succ, List.getElem_cons_zero, List.setIfInBounds_toArray, List.set_cons_zero, List.set_cons_succ]
            refine wpAnyH_take (i := 9) (v := undef) rfl (by kernel_rfl) (by kernel_rfl) (by kernel_rfl) (fun _ _ _ h => h) (Or.inr ⟨by rfl, rfl⟩) (by assumption) ?_
            try simp only [Act.put, List.getElem_toArray, List.getElem_cons_succ, List.getElem_cons_zero, List.setIfInBounds_toArray, List.set_cons_zero, List.set_cons_succ]
            refine wpAnyH_take (i := 10) (v := undef) rfl (by kernel_rfl) (by kernel_rfl) (by kernel_rfl) (fun _ _ _ h => h) (Or.inr ⟨by rfl, rfl⟩) (by assumption) ?_
            try simp only [Act.put, List.getElem_toArray, List.getElem_cons_succ, List.getElem_cons_zero, List.setIfInBounds_toArray, List.set_cons_zero, List.set_cons_succ]
            refine wpAnyH_take (i := 11) (v := undef) rfl (by kernel_rfl) (by kernel_rfl) (by kernel_rfl) (fun _ _ _ h => h) (Or.inr ⟨by rfl, rfl⟩) (by assumption) ?_
            try simp only [Act.put, List.getElem_toArray, List.getElem_cons_succ, List.getElem_cons_zero, List.setIfInBounds_toArray, List.set_cons_zero, List.set_cons_succ]
            refine wpAnyH_take (i := 12) (v := undef) rfl (by kernel_rfl) (by kernel_rfl) (by kernel_rfl) (fun _ _ _ h => h) (Or.inr ⟨by rfl, rfl⟩) (by assumption) ?_
            try simp only [Act.put, List.getElem_toArray, List.getElem_cons_succ, List.getElem_cons_zero, List.setIfInBounds_toArray, List.set_cons_zero, List.set_cons_succ]
            refine wpAnyH_take (i := 13) (v := undef) rfl (by kernel_rfl) (by kernel_rfl) (by kernel_rfl) (fun _ _ _ h => h) (Or.inr ⟨by rfl, rfl⟩) (by assumption) ?_
            try simp only [Act.put, List.getElem_toArray, List.getElem_cons_succ, List.getElem_cons_zero, List.setIfInBounds_toArray, List.set_cons_zero, List.set_cons_succ]
            refine wpAnyH_take (i := 14) (v := undef) rfl (by kernel_rfl) (by kernel_rfl) (by kernel_rfl) (fun _ _ _ h => h) (Or.inr ⟨by rfl, rfl⟩) (by assumption) ?_
            try simp only [Act.put, List.getElem_toArray, List.getElem_cons_succ, List.getElem_cons_zero, List.setIfInBounds_toArray, List.set_cons_zero, List.set_cons_succ]
            refine wpAnyH_take (i := 15) (v := undef) rfl (by kernel_rfl) (by kernel_rfl) (by kernel_rfl) (fun _ _ _ h => h) (Or.inr ⟨by rfl, rfl⟩) (by assumption) ?_
            try simp only [Act.put, List.getElem_toArray, List.getElem_cons_succ, List.getElem_cons_zero, List.setIfInBounds_toArray, List.set_cons_zero, List.set_cons_succ]
            refine wpAnyH_take (i := 16) (v := ?_) rfl (by kernel_rfl) (by kernel_rfl) (by kernel_rfl) (fun _ _ _ h => h) (Or.inl ⟨by rfl, ?_⟩) (by assumption) ?_
            rotate_left
            · intro w hSw; (try dsimp only at hSw); go_simp <;> with_reducible rfl
            try simp only [Act.put, List.getElem_toArray, List.getElem_cons_succ, List.getElem_cons_zero, List.setIfInBounds_toArray, List.set_cons_zero, List.set_cons_succ]
            refine wpAnyH_take (i := 17) (v := ?_) rfl (by kernel_rfl) (by kernel_rfl) (by kernel_rfl) (fun _ _ _ h => h) (Or.inl ⟨by rfl, ?_⟩) (by assumption) ?_
            rotate_left
            · intro w hSw; (try dsimp only at hSw); go_simp <;> with_reducible rfl
            try simp only [Act.put, List.getElem_toArray, List.getElem_cons_succ, List.getElem_cons_zero, List.setIfInBounds_toArray, List.set_cons_zero, List.set_cons_succ]
            refine wpAnyH_take (i := 18) (v := ?_) rfl (by kernel_rfl) (by kernel_rfl) (by kernel_rfl) (fun _ _ _ h => h) (Or.inl ⟨by rfl, ?_⟩) (by assumption) ?_
            rotate_left
            · intro w hSw; (try dsimp only at hSw); go_simp <;> with_reducible rfl
            try simp only [Act.put, List.getElem_toArray, List.getElem_cons_succ, List.getElem_cons_zero, List.setIfInBounds_toArray, List.set_cons_zero, List.set_cons_succ]
            refine wpAnyH_take (i := 19) (v := ?_) rfl (by kernel_rfl) (by kernel_rfl) (by kernel_rfl) (fun _ _ _ h => h) (Or.inl ⟨by rfl, ?_⟩) (by assumption) ?_
            rotate_left
            · intro w hSw; (try dsimp only at hSw); go_simp <;> with_reducible rfl
            try simp only [Act.put, List.getElem_toArray, List.getElem_cons_succ, List.getElem_cons_zero, List.setIfInBounds_toArray, List.set_cons_zero, List.set_cons_succ]
            refine wpAnyH_ready (rs := [20]) (by kernel_rfl) (by simp) ?_
            refine AllReadyH.cons rfl (fun K hK => ?_) AllReadyH.nil
            go_simp
            go_at_call 22
            refine (HRI.out _ (Below.refl _ w13).drew).mono ?_
            rintro e w15 ⟨rfl, hb15⟩
            have HB15 := Lib.hid (step (Below.refl w13.heap.size w13).drew hb15)
            clear hb15
            refine hK.out _ _ trivial (fun hHeld => ?_)
            clear hK K
            try simp only [Act.put, List.getElem_toArray, List.getElem_cons_succ, List.getElem_cons_zero, List.setIfInBounds_toArray, List.set_cons_zero, List.set_cons_succ]
            refine wpAnyH_take (i := 21) (v := ?_) rfl (by kernel_rfl) (by kernel_rfl) (by kernel_rfl) (fun _ _ _ h => h) (Or.inl ⟨by rfl, ?_⟩) (by assumption) ?_
            rotate_left
            · intro w hSw; (try dsimp only at hSw); go_simp <;> with_reducible rfl
            try simp only [Act.put, List.getElem_toArray, List.getElem_cons_succ, List.getElem_cons_zero, List.setIfInBounds_toArray, List.set_cons_zero, List.set_cons_succ]
            refine wpAnyH_take (i := 22) (v := ?_) rfl (by kernel_rfl) (by kernel_rfl) (by kernel_rfl) (fun _ _ _ h => h) (Or.inl ⟨by rfl, ?_⟩) (by assumption) ?_
            rotate_left
            · intro w hSw; (try dsimp only at hSw); go_simp <;> with_reducible rfl
            try simp only [Act.put, List.getElem_toArray, List.getElem_cons_succ, List.getElem_cons_zero, List.setIfInBounds_toArray, List.set_cons_zero, List.set_cons_succ]
            refine wpAnyH_take (i := 23) (v := ?_) rfl (by kernel_rfl) (by kernel_rfl) (by kernel_rfl) (fun _ _ _ h => h) (Or.inl ⟨by rfl, ?_⟩) (by assumption) ?_
            rotate_left
            · intro w hSw; (try dsimp only at hSw); go_simp <;> with_reducible rfl
            try simp only [Act.put, List.getElem_toArray, List.getElem_cons_succ, List.getElem_cons_zero, List.setIfInBounds_toArray, List.set_cons_zero, List.set_cons_succ]
            refine wpAnyH_take (i := 24) (v := ?_) rfl (by kernel_rfl) (by kernel_rfl) (by kernel_rfl) (fun _ _ _ h => h) (Or.inl ⟨by rfl, ?_⟩) (by assumption) ?_
            rotate_left
            · intro w hSw; (try dsimp only at hSw); go_simp <;> with_reducible rfl
            try simp only [Act.put, List.getElem_toArray, List.getElem_cons_succ, List.getElem_cons_zero, List.setIfInBounds_toArray, List.set_cons_zero, List.set_cons_succ]
            refine wpAnyH_take (i := 25) (v := ?_) rfl (by kernel_rfl) (by kernel_rfl) (by kernel_rfl) (fun _ _ _ h => h) (Or.inl ⟨by rfl, ?_⟩) (by assumption) ?_
            rotate_left
            · intro w hSw; (try dsimp only at hSw); go_simp <;> with_reducible rfl
            try simp only [Act.put, List.getElem_toArray, List.getElem_cons_succ, List.getElem_cons_zero, List.setIfInBounds_toArray, List.set_cons_zero, List.set_cons_succ]
            refine wpAnyH_take (i := 27) (v := ?_) rfl (by kernel_rfl) (by kernel_rfl) (by kernel_rfl) (fun _ _ _ h => h) (Or.inl ⟨by rfl, ?_⟩) (by assumption) ?_
            rotate_left
            · intro w hSw; (try dsimp only at hSw); go_simp <;> with_reducible rfl
            try simp only [Act.put, List.getElem_toArray, List.getElem_cons_succ, List.getElem_cons_zero, List.setIfInBounds_toArray, List.set_cons_zero, List.set_cons_succ]
            refine wpAnyH_take (i := 28) (v := ?_) rfl (by kernel_rfl) (by kernel_rfl) (by kernel_rfl) (fun _ _ _ h => h) (Or.inl ⟨by rfl, ?_⟩) (by assumption) ?_
            rotate_left
            · intro w hSw; (try dsimp only at hSw); go_simp <;> with_reducible rfl
            try simp only [Act.put, List.getElem_toArray, List.getElem_cons_succ, List.getElem_cons_zero, List.setIfInBounds_toArray, List.set_cons_zero, List.set_cons_succ]
            refine wpAnyH_ready (rs := [26]) (by kernel_rfl) (by simp) ?_
            refine AllReadyH.cons rfl (fun K hK => ?_) AllReadyH.nil
            go_simp
            go_at_call 24
            refine (HD1.out _ HB15.out).mono ?_
            rintro e w16 ⟨a16, c16, rfl, hr16, hb16⟩
            have HR16 := Lib.hid hr16
            have HB16 := Lib.hid (step HB15.out hb16)
            clear hr16 hb16
            refine hK.out _ _ trivial (fun hHeld => ?_)
            clear hK K
            try simp only [Act.put, List.getElem_toArray, List.getElem_cons_succ, List.getElem_cons_zero, List.setIfInBounds_toArray, List.set_cons_zero, List.set_cons_succ]
            refine wpAnyH_ready (rs := [29]) (by kernel_rfl) (by simp) ?_
            refine AllReadyH.cons rfl (fun K hK => ?_) AllReadyH.nil
            go_simp
            go_at_call 25
            refine (HD2.out _ HB16.out).mono ?_
            rintro e w17 ⟨a17, c17, rfl, hr17, hb17⟩
            have HR17 := Lib.hid hr17
            have HR167 := Lib.hid (HR16.out.later hb17)
            have HB17 := Lib.hid (step HB16.out hb17)
            clear hr17 hb17
            refine hK.out _ _ trivial (fun hHeld => ?_)
            clear hK K
            try simp only [Act.put, List.getElem_toArray, List.getElem_cons_succ, List.getElem_cons_zero, List.setIfInBounds_toArray, List.set_cons_zero, List.set_cons_succ]
            refine wpAnyH_ready (rs := [30]) (by kernel_rfl) (by simp) ?_
            refine AllReadyH.cons rfl (fun K hK => ?_) AllReadyH.nil
            go_simp
            go_at_call 23
            refine (HSG.out _ _ _ gs HR167.out HR17.out).mono ?_
            rintro e w18 ⟨rfl, hb18⟩
            have HB18 := Lib.hid (step HB17.out hb18)
            clear hb18
            refine hK.out _ _ trivial (fun hHeld => ?_)
            clear hK K
            try simp only [Act.put, List.getElem_toArray, List.getElem_cons_succ, List.getElem_cons_zero, List.setIfInBounds_toArray, List.set_cons_zero, List.set_cons_succ]
            refine wpAnyH_take (i := 31) (v := ?_) rfl (by kernel_rfl) (by kernel_rfl) (by kernel_rfl) (fun _ _ _ h => h) (Or.inl ⟨by rfl, ?_⟩) (by assumption) ?_
            rotate_left
            · intro w hSw; (try dsimp only at hSw); go_simp <;> with_reducible rfl
            try simp only [Act.put, List.getElem_toArray, List.getElem_cons_succ, List.getElem_cons_zero, List.setIfInBounds_toArray, List.set_cons_zero, List.set_cons_succ]
            refine wpAnyH_take (i := 32) (v := ?_) rfl (by kernel_rfl) (by kernel_rfl) (by kernel_rfl) (fun _ _ _ h => h) (Or.inl ⟨by rfl, ?_⟩) (by assumption) ?_
            rotate_left
            · intro w hSw; (try dsimp only at hSw); go_simp <;> with_reducible rfl
            try simp only [Act.put, List.getElem_toArray, List.getElem_cons_succ, List.getElem_cons_zero, List.setIfInBounds_toArray, List.set_cons_zero, List.set_cons_succ]
            refine wpAnyH_done (by kernel_rfl) ?_ _
            have HRF2 := Lib.hid (HR12.out.later HB18.out)
            have HBF := Lib.hid (step HB12.out HB18.out)
            clear HB15 HB16 HB17 HB18 HR16 HR17 HR167 HD1 HD2 HSG HRI hHeld
            go_wp2
            go_roundw
            case rel => exact ⟨k + 1, M', a', c', nt, by omega, by go_num, by rw [HMN.out], rfl, by omega, Lib.hid (by rw [HV'.out]; exact HGN.out), Lib.hid (by rw [HMN.out]; exact HRF2.out), HBF⟩
            case measure => simp [intOf]; omega
          · have hq2 : q < M'.length := by rw [Cm.vals_length] at hq; exact hq
            have KL := Lib.hid (Cm.Find_at a' M'.length c' M' nm W12 (q : Int) hix HR12.out.row)
            have hfk : Cm.findK (Cm.vals M') nm = (M'[q].val, true) := by unfold Cm.findK; rw [hix, if_neg (by omega), Cm.getK_at M' q hq2]
            have hfk2 := HFK.out.trans hfk
            injection hfk2 with hyv hyb
            subst hyb
            obtain ⟨b', o', e', hc'⟩ := Cm.rdk_at HR12.out.row q hq2
            subst e'
            have hcap : M'.length ≤ c' ∧ c' ≤ maxLen := by
              obtain ⟨a9, cap9, hv9, q1, q2, _⟩ := HR12.out.row.ex
              cases hv9
              exact ⟨q1, q2⟩
            unfold maxLen at hcap
            have hdr := (HR12.out.drop q (by omega)).take 1 (by omega)
            rw [if_neg (by omega), Option.map_some, show (⟨b', o', none⟩ : Addr).add (q * 4) = ⟨b', o' + q * 4, none⟩ by unfold Addr.add; split <;> simp_all] at hdr
            have htk : (M'.drop q).take 1 = [M'[q]] := by rw [List.drop_eq_getElem_cons hq2]; rfl
            rw [htk] at hdr
            have HSL : Hid (∀ W, Below W12.heap.size W12 W → Calls Try.prog 13 #[.slice (some ⟨W.heap.size, 0, none⟩) 1 1, .slice (some ⟨b', o' + q * 4, none⟩) 1 (c' - q)] (W.alloc (.cells #[.string (bstr yn), .int .i64 yh, .int .i64 yt, .slice Xa yl.length Xc] 39)) (Cm.SaysB true (W.alloc (.cells #[.string (bstr yn), .int .i64 yh, .int .i64 yt, .slice Xa yl.length Xc] 39)))) := Lib.hid fun W hb => by
              refine Cm.same_locks _ _ [(⟨yn, yh, yt, yl, Xa, Xc⟩ : Cm.LockC)] [M'[q]] _ ⟨RdX.one (heap_alloc_new W _) rfl, fun x hx => ?_⟩ (hdr.later (stepAlloc hb _)) ?_
              · rw [List.mem_singleton] at hx
                subst hx
                exact HX12.out.later (stepAlloc hb _)
              · show [_] = [_]
                exact congrArg (fun x => [x]) hyv
            clear hix hfk HFK hdr htk hyv hc' hq
            generalize Cm.heldK (Cm.vals M') (C : Int) = gs at HD1 HD2
            have g1 : (0 : Int) ≤ (q : Int) := by omega
            have g2 : decide ((0 : Int) ≤ (q : Int)) = true := decide_eq_true g1
            have g3 : IntKind.i64.wrap ((q : Int) + 1) = (q : Int) + 1 := by rw [IntKind.wrap_i64]; omega
            have g4 : ((q : Int) + 1).toNat = q + 1 := by omega
            have g5 : (q : Int) ≤ (q : Int) + 1 := by omega
            have g6 : (0 : Int) ≤ (q : Int) + 1 := by omega
            have g7 : (q : Int) + 1 ≤ (c' : Int) := by omega
            have g8 : ¬ (c' = q) := by omega
            have g9 : q + 1 - q = 1 := by omega
            go_upto_region 29 with (go_at_call 21; refine KL.out.mono ?_; rintro e w13 ⟨rfl, rfl⟩)
            obtain ⟨MN, hMN⟩ : ∃ MN, M'.length = MN := ⟨_, rfl⟩
            have HMN := Lib.hid hMN
            rw [hMN] at HR12 HRI HD1 HD2 hq2 hcap ⊢
            clear hMN
            generalize yl.length = YN at *
            refine wp_region_held_drew (S := fun w' => w'.cell? ⟨w11.heap.size, 0, none⟩ = some (.string (bstr yn)) ∧ w'.cell? ⟨w11.heap.size, 1, none⟩ = some (.int .i64 yh) ∧ w'.cell? ⟨w11.heap.size, 2, none⟩ = some (.int .i64 yt) ∧ w'.cell? ⟨w11.heap.size, 3, none⟩ = some (.slice Xa YN Xc)) (by kernel_rfl) (HZ.out _ (Below.refl _ w13).drew) (fun hHeld => ?_)
            refine wpAnyH_take (i := 0) (v := ?_) rfl (by kernel_rfl) (by kernel_rfl) (by kernel_rfl) (fun _ _ _ h => h) (Or.inl ⟨by rfl, ?_⟩) (by assumption) ?_
            rotate_left
            · intro w hSw; (try dsimp only at hSw); go_simp <;> with_reducible rfl
            try simp only [Act.put, List.getElem_toArray, List.getElem_cons_zero, List.setIfInBounds_toArray, List.set_cons_zero, List.set_cons_succ]
            refine wpAnyH_take (i := 1) (v := ?_) rfl (by kernel_rfl) (by kernel_rfl) (by kernel_rfl) (fun _ _ _ h => h) (Or.inl ⟨by rfl, ?_⟩) (by assumption) ?_
            rotate_left
            · intro w hSw; (try dsimp only at hSw); go_simp <;> with_reducible rfl
            try simp only [Act.put, List.getElem_toArray, List.getElem_cons_succ, List.getElem_cons_zero, List.setIfInBounds_toArray, List.set_cons_zero, List.set_cons_succ]
            refine wpAnyH_take (i := 2) (v := ?_) rfl (by kernel_rfl) (by kernel_rfl) (by kernel_rfl) (fun _ _ _ h => h) (Or.inl ⟨by rfl, ?_⟩) (by assumption) ?_
            rotate_left
            · intro w hSw; (try dsimp only at hSw); go_simp <;> with_reducible rfl
            try simp only [Act.put, List.getElem_toArray, List.getElem_cons_succ, List.getElem_cons_zero, List.setIfInBounds_toArray, List.set_cons_zero, List.set_cons_succ]
            refine wpAnyH_take (i := 3) (v := ?_) rfl (by kernel_rfl) (by kernel_rfl) (by kernel_rfl) (fun _ _ _ h => h) (Or.inl ⟨by rfl, ?_⟩) (by assumption) ?_
            rotate_left
            · intro w hSw; (try dsimp only at hSw); go_simp <;> with_reducible rfl
            try simp only [Act.put, List.getElem_toArray, List.getElem_cons_succ, List.getElem_cons_zero, List.setIfInBounds_toArray, List.set_cons_zero, List.set_cons_succ]
            refine wpAnyH_take (i := 4) (v := ?_) rfl (by kernel_rfl) (by kernel_rfl) (by kernel_rfl) (fun _ _ _ h => h) (Or.inl ⟨by rfl, ?_⟩) (by assumption) ?_
            rotate_left
            · intro w hSw; (try dsimp only at hSw); go_simp <;> with_reducible rfl
            try simp only [Act.put, List.getElem_toArray, List.getElem_cons_succ, List.getElem_cons_zero, List.setIfInBounds_toArray, List.set_cons_zero, List.set_cons_succ]
            refine wpAnyH_take (i := 5) (v := ?_) rfl (by kernel_rfl) (by kernel_rfl) (by kernel_rfl) (fun _ _ _ h => h) (Or.inl ⟨by rfl, ?_⟩) (by assumption) ?_
            rotate_left
            · intro w hSw; (try dsimp only at hSw); go_simp <;> with_reducible rfl
            try simp only [Act.put, List.getElem_toArray, List.getElem_cons_succ, List.getElem_cons_zero, List.setIfInBounds_toArray, List.set_cons_zero, List.set_cons_succ]
            refine wpAnyH_take (i := 6) (v := ?_) rfl (by kernel_rfl) (by kernel_rfl) (by kernel_rfl) (fun _ _ _ h => h) (Or.inl ⟨by rfl, ?_⟩) (by assumption) ?_
            rotate_left
            · intro w hSw; (try dsimp only at hSw); go_simp <;> with_reducible rfl
            try simp only [Act.put, List.getElem_toArray, List.getElem_cons_succ, List.getElem_cons_zero, List.setIfInBounds_toArray, List.set_cons_zero, List.set_cons_succ]
            refine wpAnyH_take (i := 7) (v := ?_) rfl (by kernel_rfl) (by kernel_rfl) (by kernel_rfl) (fun _ _ _ h => h) (Or.inl ⟨by rfl, ?_⟩) (by assumption) ?_
            rotate_left
            · intro w hSw; (try dsimp only at hSw); go_simp <;> with_reducible rfl
            try simp only [Act.put, List.getElem_toArray, List.getElem_cons_succ, List.getElem_cons_zero, List.setIfInBounds_toArray, List.set_cons_zero, List.set_cons_succ]
            refine wpAnyH_take (i := 9) (v := ?_) rfl (by kernel_rfl) (by kernel_rfl) (by kernel_rfl) (fun _ _ _ h => h) (Or.inl ⟨by rfl, ?_⟩) (by assumption) ?_
            rotate_left
            · intro w hSw; (try dsimp only at hSw); go_simp <;> with_reducible rfl
            try simp only [Act.put, List.getElem_toArray, List.getElem_cons_succ, List.getElem_cons_zero, List.setIfInBounds_toArray, List.set_cons_zero, List.set_cons_succ]
            refine wpAnyH_take (i := 10) (v := ?_) rfl (by kernel_rfl) (by kernel_rfl) (by kernel_rfl) (fun _ _ _ h => h) (Or.inl ⟨by rfl, ?_⟩) (by assumption) ?_
            rotate_left
            · intro w hSw; (try dsimp only at hSw); go_simp <;> with_reducible rfl
            try simp only [Act.put, List.getElem_toArray, List.getElem_cons_succ, List.getElem_cons_zero, List.setIfInBounds_toArray, List.set_cons_zero, List.set_cons_succ]
            refine wpAnyH_take (i := 11) (v := ?_) rfl (by kernel_rfl) (by kernel_rfl) (by kernel_rfl) (fun _ _ _ h => h) (Or.inl ⟨by rfl, ?_⟩) (by assumption) ?_
            rotate_left
            · intro w hSw; (try dsimp only at hSw); go_simp <;> with_reducible rfl
            try simp only [Act.put, List.getElem_toArray, List.getElem_cons_succ, List.getElem_cons_zero, List.setIfInBounds_toArray, List.set_cons_zero, List.set_cons_succ]
            refine wpAnyH_take (i := 12) (v := ?_) rfl (by kernel_rfl) (by kernel_rfl) (by kernel_rfl) (fun _ _ _ h => h) (Or.inl ⟨by rfl, ?_⟩) (by assumption) ?_
            rotate_left
            · intro w hSw; (try dsimp only at hSw); go_simp <;> with_reducible rfl
            try simp only [Act.put, List.getElem_toArray, List.getElem_cons_succ, List.getElem_cons_zero, List.setIfInBounds_toArray, List.set_cons_zero, List.set_cons_succ]
            refine wpAnyH_take (i := 13) (v := ?_) rfl (by kernel_rfl) (by kernel_rfl) (by kernel_rfl) (fun _ _ _ h => h) (Or.inl ⟨by rfl, ?_⟩) (by assumption) ?_
            rotate_left
            · intro w hSw; (try dsimp only at hSw); go_simp <;> with_reducible rfl
            try simp only [Act.put, List.getElem_toArray, List.getElem_cons_succ, List.getElem_cons_zero, List.setIfInBounds_toArray, List.set_cons_zero, List.set_cons_succ]
            refine wpAnyH_ready (rs := [8]) (by kernel_rfl) (by simp) ?_
            refine AllReadyH.cons rfl (fun K hK => ?_) AllReadyH.nil
            go_simp
            have HB8 := Lib.hid (stepAlloc (Below.refl w13.heap.size w13).drew (.cells #[.string (bstr yn), .int .i64 yh, .int .i64 yt, .slice Xa YN Xc] 39))
            refine hK.out _ _ (HZ.out _ HB8.out) (fun hHeld => ?_)
            clear hK K
            try simp only [Act.put, List.getElem_toArray, List.getElem_cons_succ, List.getElem_cons_zero, List.setIfInBounds_toArray, List.set_cons_zero, List.set_cons_succ]
            refine wpAnyH_ready (rs := [14]) (by kernel_rfl) (by simp) ?_
            refine AllReadyH.cons rfl (fun K hK => ?_) AllReadyH.nil
            go_simp
            go_at_call 13
            refine (HSL.out _ (Below.refl _ w13).drew).mono ?_
            rintro e w14 ⟨rfl, hb14⟩
            have HBS := Lib.hid (step HB8.out hb14)
            clear hb14
            refine hK.out _ _ (HZ.out _ HBS.out) (fun hHeld => ?_)
            clear hK K
            try simp only [Act.put, List.getElem_toArray, List.getElem_cons_succ, List.getElem_cons_zero, List.setIfInBounds_toArray, List.set_cons_zero, List.set_cons_succ]
            refine wpAnyH_take (i := 15) (v := ?_) rfl (by kernel_rfl) (by kernel_rfl) (by kernel_rfl) (fun _ _ _ h => h) (Or.inl ⟨by rfl, ?_⟩) (by assumption) ?_
            rotate_left
            · intro w hSw; (try dsimp only at hSw); go_simp <;> with_reducible rfl
            try simp only [Act.put, List.getElem_toArray, List.getElem_cons_succ, List.getElem_cons_zero, List.setIfInBounds_toArray, List.set_cons_zero, List.set_cons_succ]
            refine wpAnyH_take (i := 16) (v := ?_) rfl (by kernel_rfl) (by kernel_rfl) (by kernel_rfl) (fun _ _ _ h => h) (Or.inl ⟨by rfl, ?_⟩) (by assumption) ?_
            rotate_left
            · intro w hSw; (try dsimp only at hSw); go_simp <;> with_reducible rfl
            try simp only [Act.put, List.getElem_toArray, List.getElem_cons_succ, List.getElem_cons_zero, List.setIfInBounds_toArray, List.set_cons_zero, List.set_cons_succ]
            refine wpAnyH_take (i := 17) (v := ?_) rfl (by kernel_rfl) (by kernel_rfl) (by kernel_rfl) (fun _ _ _ h => h) (Or.inl ⟨by rfl, ?_⟩) (by assumption) ?_
            rotate_left
            · intro w hSw; (try dsimp only at hSw); go_simp <;> with_reducible rfl
            try simp only [Act.put, List.getElem_toArray, List.getElem_cons_succ, List.getElem_cons_zero, List.setIfInBounds_toArray, List.set_cons_zero, List.set_cons_succ]
            refine wpAnyH_take (i := 18) (v := ?_) rfl (by kernel_rfl) (by kernel_rfl) (by kernel_rfl) (fun _ _ _ h => h) (Or.inl ⟨by rfl, ?_⟩) (by assumption) ?_
            rotate_left
            · intro w hSw; (try dsimp only at hSw); go_simp <;> with_reducible rfl
            try simp only [Act.put, List.getElem_toArray, List.getElem_cons_succ, List.getElem_cons_zero, List.setIfInBounds_toArray, List.set_cons_zero, List.set_cons_succ]
            refine wpAnyH_take (i := 19) (v := ?_) rfl (by kernel_rfl) (by kernel_rfl) (by kernel_rfl) (fun _ _ _ h => h) (Or.inl ⟨by rfl, ?_⟩) (by assumption) ?_
            rotate_left
            · intro w hSw; (try dsimp only at hSw); go_simp <;> with_reducible rfl
            try simp only [Act.put, List.getElem_toArray, List.getElem_cons_succ, List.getElem_cons_zero, List.setIfInBounds_toArray, List.set_cons_zero, List.set_cons_succ]
            refine wpAnyH_ready (rs := [20]) (by kernel_rfl) (by simp) ?_
            refine AllReadyH.cons rfl (fun K hK => ?_) AllReadyH.nil
            go_simp
            go_at_call 22
            refine (HRI.out _ HBS.out).mono ?_
            rintro e w15 ⟨rfl, hb15⟩
            have HB15 := Lib.hid (step HBS.out hb15)
            clear hb15
            refine hK.out _ _ (HZ.out _ HB15.out) (fun hHeld => ?_)
            clear hK K
            try simp only [Act.put, List.getElem_toArray, List.getElem_cons_succ, List.getElem_cons_zero, List.setIfInBounds_toArray, List.set_cons_zero, List.set_cons_succ]
            refine wpAnyH_take (i := 21) (v := ?_) rfl (by kernel_rfl) (by kernel_rfl) (by kernel_rfl) (fun _ _ _ h => h) (Or.inl ⟨by rfl, ?_⟩) (by assumption) ?_
            rotate_left
            · intro w hSw; (try dsimp only at hSw); go_simp <;> with_reducible rfl
            try simp only [Act.put, List.getElem_toArray, List.getElem_cons_succ, List.getElem_cons_zero, List.setIfInBounds_toArray, List.set_cons_zero, List.set_cons_succ]
            refine wpAnyH_take (i := 22) (v := ?_) rfl (by kernel_rfl) (by kernel_rfl) (by kernel_rfl) (fun _ _ _ h => h) (Or.inl ⟨by rfl, ?_⟩) (by assumption) ?_
            rotate_left
            · intro w hSw; (try dsimp only at hSw); go_simp <;> with_reducible rfl
            try simp only [Act.put, List.getElem_toArray, List.getElem_cons_succ, List.getElem_cons_zero, List.setIfInBounds_toArray, List.set_cons_zero, List.set_cons_succ]
            refine wpAnyH_take (i := 23) (v := ?_) rfl (by kernel_rfl) (by kernel_rfl) (by kernel_rfl) (fun _ _ _ h => h) (Or.inl ⟨by rfl, ?_⟩) (by assumption) ?_
            rotate_left
            · intro w hSw; (try dsimp only at hSw); go_simp <;> with_reducible rfl
            try simp only [Act.put, List.getElem_toArray, List.getElem_cons_succ, List.getElem_cons_zero, List.setIfInBounds_toArray, List.set_cons_zero, List.set_cons_succ]
            refine wpAnyH_take (i := 24) (v := ?_) rfl (by kernel_rfl) (by kernel_rfl) (by kernel_rfl) (fun _ _ _ h => h) (Or.inl ⟨by rfl, ?_⟩) (by assumption) ?_
            rotate_left
            · intro w hSw; (try dsimp only at hSw); go_simp <;> with_reducible rfl
            try simp only [Act.put, List.getElem_toArray, List.getElem_cons_succ, List.getElem_cons_zero, List.setIfInBounds_toArray, List.set_cons_zero, List.set_cons_succ]
            refine wpAnyH_take (i := 25) (v := ?_) rfl (by kernel_rfl) (by kernel_rfl) (by kernel_rfl) (fun _ _ _ h => h) (Or.inl ⟨by rfl, ?_⟩) (by assumption) ?_
            rotate_left
            · intro w hSw; (try dsimp only at hSw); go_simp <;> with_reducible rfl
            try simp only [Act.put, List.getElem_toArray, List.getElem_cons_succ, List.getElem_cons_zero, List.setIfInBounds_toArray, List.set_cons_zero, List.set_cons_succ]
            refine wpAnyH_take (i := 27) (v := ?_) rfl (by kernel_rfl) (by kernel_rfl) (by kernel_rfl) (fun _ _ _ h => h) (Or.inl ⟨by rfl, ?_⟩) (by assumption) ?_
            rotate_left
            · intro w hSw; (try dsimp only at hSw); go_simp <;> with_reducible rfl
            try simp only [Act.put, List.getElem_toArray, List.getElem_cons_succ, List.getElem_cons_zero, List.setIfInBounds_toArray, List.set_cons_zero, List.set_cons_succ]
            refine wpAnyH_take (i := 28) (v := ?_) rfl (by kernel_rfl) (by kernel_rfl) (by kernel_rfl) (fun _ _ _ h => h) (Or.inl ⟨by rfl, ?_⟩) (by assumption) ?_
            rotate_left
            · intro w hSw; (try dsimp only at hSw); go_simp <;> with_reducible rfl
            try simp only [Act.put, List.getElem_toArray, List.getElem_cons_succ, List.getElem_cons_zero, List.setIfInBounds_toArray, List.set_cons_zero, List.set_cons_succ]
            refine wpAnyH_ready (rs := [26]) (by kernel_rfl) (by simp) ?_
            refine AllReadyH.cons rfl (fun K hK => ?_) AllReadyH.nil
            go_simp
            go_at_call 24
            refine (HD1.out _ HB15.out).mono ?_
            rintro e w16 ⟨a16, c16, rfl, hr16, hb16⟩
            have HR16 := Lib.hid hr16
            have HB16 := Lib.hid (step HB15.out hb16)
            clear hr16 hb16
            refine hK.out _ _ (HZ.out _ HB16.out) (fun hHeld => ?_)
            clear hK K
            try simp only [Act.put, List.getElem_toArray, List.getElem_cons_succ, List.getElem_cons_zero, List.setIfInBounds_toArray, List.set_cons_zero, List.set_cons_succ]
            refine wpAnyH_ready (rs := [29]) (by kernel_rfl) (by simp) ?_
            refine AllReadyH.cons rfl (fun K hK => ?_) AllReadyH.nil
            go_simp
            go_at_call 25
            refine (HD2.out _ HB16.out).mono ?_
            rintro e w17 ⟨a17, c17, rfl, hr17, hb17⟩
            have HR17 := Lib.hid hr17
            have HR167 := Lib.hid (HR16.out.later hb17)
            have HB17 := Lib.hid (step HB16.out hb17)
            clear hr17 hb17
            refine hK.out _ _ (HZ.out _ HB17.out) (fun hHeld => ?_)
            clear hK K
            try simp only [Act.put, List.getElem_toArray, List.getElem_cons_succ, List.getElem_cons_zero, List.setIfInBounds_toArray, List.set_cons_zero, List.set_cons_succ]
            refine wpAnyH_ready (rs := [30]) (by kernel_rfl) (by simp) ?_
            refine AllReadyH.cons rfl (fun K hK => ?_) AllReadyH.nil
            go_simp
            go_at_call 23
            refine (HSG.out _ _ _ gs HR167.out HR17.out).mono ?_
            rintro e w18 ⟨rfl, hb18⟩
            have HB18 := Lib.hid (step HB17.out hb18)
            clear hb18
            refine hK.out _ _ (HZ.out _ HB18.out) (fun hHeld => ?_)
            clear hK K
            try simp only [Act.put, List.getElem_toArray, List.getElem_cons_succ, List.getElem_cons_zero, List.setIfInBounds_toArray, List.set_cons_zero, List.set_cons_succ]
            refine wpAnyH_take (i := 31) (v := ?_) rfl (by kernel_rfl) (by kernel_rfl) (by kernel_rfl) (fun _ _ _ h => h) (Or.inl ⟨by rfl, ?_⟩) (by assumption) ?_
            rotate_left
            · intro w hSw; (try dsimp only at hSw); go_simp <;> with_reducible rfl
            try simp only [Act.put, List.getElem_toArray, List.getElem_cons_succ, List.getElem_cons_zero, List.setIfInBounds_toArray, List.set_cons_zero, List.set_cons_succ]
            refine wpAnyH_take (i := 32) (v := ?_) rfl (by kernel_rfl) (by kernel_rfl) (by kernel_rfl) (fun _ _ _ h => h) (Or.inl ⟨by rfl, ?_⟩) (by assumption) ?_
            rotate_left
            · intro w hSw; (try dsimp only at hSw); go_simp <;> with_reducible rfl
            try simp only [Act.put, List.getElem_toArray, List.getElem_cons_succ, List.getElem_cons_zero, List.setIfInBounds_toArray, List.set_cons_zero, List.set_cons_succ]
            refine wpAnyH_done (by kernel_rfl) ?_ _
            have HRF2 := Lib.hid (HR12.out.later HB18.out)
            have HBF := Lib.hid (step HB12.out HB18.out)
            clear HB15 HB16 HB17 HB18 HR16 HR17 HR167 HD1 HD2 HSG HRI hHeld
            go_wp2
            go_roundw
            case rel => exact ⟨k + 1, M', (some ⟨b', o', none⟩), c', nt, by omega, by go_num, by rw [HMN.out], rfl, by omega, Lib.hid (by rw [HV'.out]; exact HGN.out), Lib.hid (by rw [HMN.out]; exact HRF2.out), HBF⟩
            case measure => simp [intOf]; omega
    · obtain rfl : k = N := by omega
      go_wp2_with (go_at_call 9; refine (C0.out _).mono ?_; rintro e w3 ⟨rfl, hb3⟩)
      go_ret
      exact ⟨rfl, step HB.out hb3⟩

/-! ### THE ROW's STEP -/
set_option maxRecDepth 100000 in
theorem lifted (os : Os) (started : os.Started) (H : Type) (enc : TypeId × Value → H) :
    ReturnsInHanded {} Try.checked os 3 .any (Rows.lockRunsSpec.pre6 enc Try.prog Try.f3 Rows.lockRunsRow.domain false) (Rows.lockRunsSpec.post enc Try.prog Try.f3 false true false false) := by
  refine returnsInHanded_of_change (C := Try.checked) own started (by kernel_rfl) Try.func3
    (ChangeSpec.witness6 (enc := enc) (C := Try.checked) false ⟨#[], #[.slice none 0 0], []⟩ 8 (by kernel_rfl) (by kernel_rfl) (by kernel_rfl) (by kernel_rfl)) ?_
  intro W base args ds gs before hval0 hW hcnd _
  have hval : ∀ (j : Nat) t v, Try.f3.params[j]? = some t → args[j]? = some v → Value.okWide Try.prog W .any base t v := hval0
  have hW' := hW
  obtain ⟨p, q, hA0, hV, rfl, hfz, hnd⟩ := hW
  have hA : DataW.TrodAll enc Try.prog W 0 (fun _ => true) true Try.f3.params.toList args.toList ds p := hA0
  rw [Try.params3] at hA hval
  obtain ⟨v0, vs0, d0, ds0, p0, q0, hargs, rfl, rfl, h0, r0⟩ := trodAll_cons hA
  obtain ⟨rfl, rfl, rfl⟩ := trodAll_nil r0
  obtain rfl : args = #[v0] := by cases args; simp_all
  obtain ⟨rfl, rfl⟩ := trodVars_none hV
  have k0 := h0
  have lt0 : ∀ x ∈ p0, x.block < W.heap.size := by obtain ⟨m, hm⟩ := k0; exact DataW.trod_lt m _ _ _ hm
  obtain ⟨a0, rfl, w0⟩ := Cm.open_act3 (hval 0 22 v0 rfl rfl) h0
  clear hA0 hval0
  refine (walk a0 W w0).mono fun e W' ⟨he, bel⟩ => ?_
  subst he
  exact ⟨_, rfl, _, _, _, [], _, [], hW', trodAll_mk1 (shut_bool Try.underlying4 _), (trodAll_cons_mk (Below.trod laidOut (by kernel_rfl) (of_decide_eq_true (by kernel_rfl)) k0 bel lt0) trodAll_mk0), rfl, bel.frame _, fun h => by cases h⟩

theorem over : Rows.lockRunsRow.holds Try.pinned (OpenSpec.ofChange Rows.lockRunsSpec) :=
  OpenClaim.holds_of_wide 3 Try.f3 rfl rfl rfl rfl rfl rfl rfl ⟨rfl, rfl, rfl, rfl, rfl⟩ rfl rfl rfl rfl rfl (by kernel_rfl) Try.func3 (by kernel_rfl)
    (of_decide_eq_true (by kernel_rfl)) (by unfold Func.isWrapper; first | (rw [if_pos (by decide +kernel)]; kernel_rfl) | (rw [if_neg (by decide +kernel)]; exact ⟨rfl, rfl⟩))
    (fun os started H enc _ => lifted os started H enc)

/-- THE STATEMENT -/
theorem proved : Rows.LockRunsSaid := over
end Go.Proofs.Ytnkooajbenhjhaa.lockRuns
