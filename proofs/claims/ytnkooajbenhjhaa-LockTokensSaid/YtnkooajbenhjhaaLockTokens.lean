/- PROVED: the statement LockTokens of layer 8: for every input that can be read, the law returns true and leaves its arguments as they were. No condition. -/
import Derived.Test.YtnkooajbenhjhaaRows
import Derived.Test.YtnkooajbenhjhaaP10
import Derived.WalkKit
import Derived.ProofKit
import Derived.OpenShut
import Derived.ShutString
import Derived.ChangeOld
import Derived.Below
import Derived.Deep.Cut
import Derived.Deep.CutBlock
import Derived.Deep.DeepCutAuto
namespace Go.Proofs.Ytnkooajbenhjhaa.lockTokens
open Go.ChangeShapes Go.WideShapes Go.ChangeAt Go.RowKit
open Go.ChangeMaps (open_string shut_string)
open Go.Sort (grow)
set_option linter.unusedVariables false

theorem own : ownKnob Try.prog.godebug = none := by kernel_rfl
theorem laidOut : laidOutB Try.prog = true := by kernel_rfl

/-! ### STEP 1: THE WALK -/
set_option maxRecDepth 100000 in
set_option maxHeartbeats 4000000 in
theorem walk (a0 : List Cm.Act3 × Value) (w : World) (w0 : Cm.act3OkA w a0) :
    Calls Try.prog 5 #[Cm.act3A a0] w fun e w' => e = .returned (.bool true) ∧ Below w.heap.size w w' := by
  obtain ⟨ac, v⟩ := a0
  unfold Cm.act3OkA at w0
  unfold Cm.act3A
  dsimp only at w0 ⊢
  obtain ⟨w0, wa⟩ := w0
  have hm := w0.len
  have C0 := Lib.hid (fun w => Cm.awake8_ok w)
  obtain ⟨a, cap, rfl⟩ := w0.form
  have HA := Lib.hid (fun i hi => Cm.acts3_at w0 i hi)
  have HOK : Hid (∀ i (hi : i < ac.length), ac[i].ok) := Lib.hid fun i hi => wa _ (List.getElem_mem hi)
  clear w0 wa
  obtain ⟨N, hN⟩ : ∃ N, ac.length = N := ⟨_, rfl⟩
  have HLL := Lib.hid hN
  rw [hN] at hm ⊢
  clear hN
  by_cases h1 : 60 < N
  · go_enter Try.func5, Try.ntmps5
    go_wp2_with (go_at_call 9; refine (C0.out _).mono ?_; rintro e w1 ⟨rfl, hb1⟩)
    go_ret
    exact ⟨rfl, hb1⟩
  have d60 : decide ((60 : Int) < (N : Int)) = false := by simp; omega
  have h60 : N ≤ 60 := by omega
  clear h1
  go_enter Try.func5, Try.ntmps5
  go_wp2
  go_loopw [3, 4, 5] (fun l tk i wr => ∃ (k : Nat) (M : List Cm.LockC) (am : Option Addr) (cm : Nat) (T : Int), k ≤ N ∧ i = .int .i64 k ∧ l = .slice am M.length cm ∧ tk = .int .i64 T ∧ T ≤ 4 * k ∧ Hid (Cm.Good (Cm.vals M) T) ∧ Hid (Cm.RdK wr (.slice am M.length cm) M) ∧ Hid (Below w.heap.size w wr)) (fun _ _ i _ => N - (intOf i).toNat)
  case atStart => exact ⟨0, [], none, 0, 0, by omega, rfl, rfl, rfl, Int.le_refl _, Lib.hid Cm.Good.nil, Lib.hid (Cm.RdK.nil _), Lib.hid (Below.refl _ _)⟩
  case round =>
    obtain ⟨k, M, am, cm, T, hk, rfl, rfl, rfl, hT, HG, HR, HB⟩ := hrel
    by_cases hlt : k < N
    · have hkl : k < ac.length := by rw [HLL.out]; exact hlt
      obtain ⟨b, o, rfl, hc⟩ := HA.out k hkl
      obtain ⟨q0, q1, q2⟩ := hc _ HB.out
      have hok := HOK.out k hkl
      have hgn := Cm.good_next HG.out ac[k] (by omega)
      have hsn := Cm.steps_next HG.out ac[k]
      clear hc HA HOK
      generalize ac[k] = x at q0 q1 q2 hok hgn hsn
      obtain ⟨xd, xn, xc⟩ := x
      obtain ⟨h2, h3, h4⟩ := hok
      dsimp only at q0 q1 q2 h2 h3 h4
      have hT0 := HG.out.pos
      obtain ⟨nx, hnx⟩ : ∃ nx, Cm.nextK (Cm.vals M) T ⟨xd, xn, xc⟩ = nx := ⟨_, rfl⟩
      rw [hnx] at hgn hsn
      obtain ⟨nl, nt⟩ := nx
      have HGN := Lib.hid hgn.1
      have HSN := Lib.hid hsn
      have hnt := hgn.2
      dsimp only at HGN HSN hnt
      have HNX := Lib.hid hnx
      clear hgn hsn hnx
      have f1 : (0 : Int) ≤ (k : Int) := by omega
      have f2 : (k : Int) < (N : Int) := by omega
      have CN := Lib.hid (fun W => Cm.Named_any xn W h3)
      have hnmd := Cm.namedF_ok (xn % 6) (Nat.mod_lt _ (by omega))
      have hcld : Cm.clientF ((xc % 8 : Nat) : Int) = true := Cm.Act3.cl_ok ⟨xd, xn, xc⟩
      have e1 : (xd : Int).tmod 4 = ((xd % 4 : Nat) : Int) := Cm.tmod_cast xd 4
      have e2 : (xc : Int).tmod 8 = ((xc % 8 : Nat) : Int) := Cm.tmod_cast xc 8
      have hm8 : xc % 8 < 8 := Nat.mod_lt _ (by omega)
      have e3 : IntKind.i64.wrap (xc : Int) = (xc : Int) := by rw [IntKind.wrap_i64]; omega
      have e4 : IntKind.i64.wrap ((xc % 8 : Nat) : Int) = ((xc % 8 : Nat) : Int) := by rw [IntKind.wrap_i64]; omega
      obtain ⟨W1, hW1⟩ : ∃ W1, W1 = wr.alloc (.cells #[.int .u8 (xd : Int), .int .u8 (xn : Int), .int .u8 (xc : Int)] 26) := ⟨_, rfl⟩
      have HB1 : Hid (Below wr.heap.size wr W1) := Lib.hid (by rw [hW1]; exact newAlloc _ _)
      have z := Cm.box3 (Below.refl _ (wr.alloc (.cells #[.int .u8 (xd : Int), .int .u8 (xn : Int), .int .u8 (xc : Int)] 26)))
      rw [← hW1] at z
      obtain ⟨z0, z1, z2⟩ := z
      have HBX : Hid (∀ W, Below W1.heap.size W1 W → W.cell? ⟨wr.heap.size, 0, none⟩ = some (.int .u8 (xd : Int)) ∧ W.cell? ⟨wr.heap.size, 1, none⟩ = some (.int .u8 (xn : Int)) ∧ W.cell? ⟨wr.heap.size, 2, none⟩ = some (.int .u8 (xc : Int))) := Lib.hid fun W hb => ⟨(hb.cell (lt_of_cell z0)).trans z0, (hb.cell (lt_of_cell z1)).trans z1, (hb.cell (lt_of_cell z2)).trans z2⟩
      go_upto_region 9 with fail
      rw [← hW1]
      clear hW1 q0 q1 q2
      generalize hCC : xc % 8 = C at *
      generalize hNM : Cm.namedF (xn % 6) = nm at *
      go_region_held3 (fun W => W.cell? ⟨wr.heap.size, 1, none⟩ = some (.int .u8 (xn : Int)) ∧ W.cell? ⟨wr.heap.size, 2, none⟩ = some (.int .u8 (xc : Int))) (first | exact ⟨z1, z2⟩ | exact (HBX.out _ HBN.out).2 | exact (HBX.out _ (Cm.below_drewN6 (Below.refl _ _) _)).2 | go_keep) (first
        | (go_at_call 10; refine (CN.out _).mono ?_; rintro e w2 ⟨rfl, hb2⟩; have HBN := Lib.hid (step (Cm.below_drewN6 (Below.refl W1.heap.size W1) 1) hb2); clear hb2))
      all_goals
        obtain ⟨x0, x1, x2⟩ := HBX.out _ HBN.out
        have HB2 := Lib.hid (step HB1.out HBN.out)
        have HX0 := Lib.hid (fun W (hb : Below w2.heap.size w2 W) => (HBX.out W (step HBN.out hb)).2.2)
        clear HBX z0 z1 z2 CN e2 e3 e4 HBN HB1
        have hxd : xd % 4 < 4 := Nat.mod_lt _ (by omega)
        have HCC := Lib.hid hCC
        have HNM := Lib.hid hNM
        have HBW := Lib.hid (step HB.out HB2.out)
        have HR2 := Lib.hid (HR.out.later HB2.out)
        clear hCC hNM HR HB
        unfold Cm.nextK Cm.Act3.nm Cm.Act3.cl at HNX
        dsimp only at HNX
        rw [HCC.out, HNM.out] at HNX
        generalize xd % 4 = D at *
        go_upto_block 2 with fail
        go_cut [9, 10, 21, 22, 23, 24] from 11 to 91 (fun m gv s21 s22 s23 s24 wc => s21 = .slice (some ⟨b, o, none⟩) N cap ∧ s22 = .int .i64 (N : Int) ∧ s23 = .bool false ∧ s24 = undef ∧ ∃ (M' : List Cm.LockC) (a' : Option Addr) (c' : Nat), m = .slice a' M'.length c' ∧ gv = .int .i64 (nt - T) ∧ Hid (Cm.vals M' = nl) ∧ Hid (Cm.RdK wc (.slice a' M'.length c') M') ∧ Hid (Below w2.heap.size w2 wc))
        case first =>
          match D, hxd with
          | 0, _ =>
            have hnx := HNX.out
            rw [if_pos (by decide)] at hnx
            have KT := Lib.hid (fun W (hb : Below w2.heap.size w2 W) => (Cm.LckTake_any (.slice am M.length cm) M nm (C : Int) T true W (HR2.out.later hb) HG.out hnmd hcld (by omega)).mono fun e w' h => Cm.GetsT.s h)
            unfold Cm.GetsTS at KT
            rw [show decide ((0 : Nat) = 0) = true from rfl] at hnx
            generalize Cm.takeK (Cm.vals M) nm (C : Int) T true = r at hnx KT
            obtain ⟨rl, rn, rc⟩ := r
            dsimp only at hnx KT
            replace e1 : (xd : Int).tmod 4 = 0 := e1
            by_cases k0 : rc = 0
            · have d0 : (rc == 0) = true := by simpa using k0
              rw [if_pos k0] at hnx
              obtain ⟨rfl, rfl⟩ := Prod.mk.inj hnx
              clear hnx HNX HGN HSN
              go_wp2_with (go_at_call 11; refine (KT.out _ (Below.refl _ _)).mono ?_; rintro e w5 ⟨a5, c5, M5, rfl, hv5, hr5, hb5⟩; have HV5 := Lib.hid hv5; have HR5 := Lib.hid hr5; have HB5 := Lib.hid hb5; clear hv5 hr5 hb5)
              go_meet
              case rel => exact ⟨rfl, rfl, rfl, rfl, M5, a5, c5, rfl, by rw [show T + 1 - T = 1 by omega], HV5, HR5, HB5⟩
            · have d0 : (rc == 0) = false := by simpa using k0
              rw [if_neg k0] at hnx
              by_cases k1 : rc = 10
              · have d1 : (rc == 10) = true := by simpa using k1
                rw [if_pos k1] at hnx
                obtain ⟨rfl, rfl⟩ := Prod.mk.inj hnx
                clear hnx HNX HGN HSN
                go_wp2_with (go_at_call 11; refine (KT.out _ (Below.refl _ _)).mono ?_; rintro e w5 ⟨a5, c5, M5, rfl, hv5, hr5, hb5⟩; have HV5 := Lib.hid hv5; have HR5 := Lib.hid hr5; have HB5 := Lib.hid hb5; clear hv5 hr5 hb5)
                go_meet
                case rel => exact ⟨rfl, rfl, rfl, rfl, M5, a5, c5, rfl, by rw [show T - T = 0 by omega], HV5, HR5, HB5⟩
              · have d1 : (rc == 10) = false := by simpa using k1
                rw [if_neg k1] at hnx
                obtain ⟨rfl, rfl⟩ := Prod.mk.inj hnx
                clear hnx HNX HGN HSN
                go_wp2_with (go_at_call 11; refine (KT.out _ (Below.refl _ _)).mono ?_; rintro e w5 ⟨a5, c5, M5, rfl, hv5, hr5, hb5⟩; have HB5 := Lib.hid hb5; clear hv5 hr5 hb5)
                go_meet
                case rel => exact ⟨rfl, rfl, rfl, rfl, M, am, cm, rfl, by rw [show T - T = 0 by omega], Lib.hid rfl, Lib.hid (HR2.out.later HB5.out), HB5⟩
          | 1, _ =>
            have hnx := HNX.out
            rw [if_pos (by decide)] at hnx
            have KT := Lib.hid (fun W (hb : Below w2.heap.size w2 W) => (Cm.LckTake_any (.slice am M.length cm) M nm (C : Int) T false W (HR2.out.later hb) HG.out hnmd hcld (by omega)).mono fun e w' h => Cm.GetsT.s h)
            unfold Cm.GetsTS at KT
            rw [show decide ((1 : Nat) = 0) = false from rfl] at hnx
            generalize Cm.takeK (Cm.vals M) nm (C : Int) T false = r at hnx KT
            obtain ⟨rl, rn, rc⟩ := r
            dsimp only at hnx KT
            replace e1 : (xd : Int).tmod 4 = 1 := e1
            by_cases k0 : rc = 0
            · have d0 : (rc == 0) = true := by simpa using k0
              rw [if_pos k0] at hnx
              obtain ⟨rfl, rfl⟩ := Prod.mk.inj hnx
              clear hnx HNX HGN HSN
              go_wp2_with (go_at_call 11; refine (KT.out _ (Below.refl _ _)).mono ?_; rintro e w5 ⟨a5, c5, M5, rfl, hv5, hr5, hb5⟩; have HV5 := Lib.hid hv5; have HR5 := Lib.hid hr5; have HB5 := Lib.hid hb5; clear hv5 hr5 hb5)
              go_meet
              case rel => exact ⟨rfl, rfl, rfl, rfl, M5, a5, c5, rfl, by rw [show T + 1 - T = 1 by omega], HV5, HR5, HB5⟩
            · have d0 : (rc == 0) = false := by simpa using k0
              rw [if_neg k0] at hnx
              by_cases k1 : rc = 10
              · have d1 : (rc == 10) = true := by simpa using k1
                rw [if_pos k1] at hnx
                obtain ⟨rfl, rfl⟩ := Prod.mk.inj hnx
                clear hnx HNX HGN HSN
                go_wp2_with (go_at_call 11; refine (KT.out _ (Below.refl _ _)).mono ?_; rintro e w5 ⟨a5, c5, M5, rfl, hv5, hr5, hb5⟩; have HV5 := Lib.hid hv5; have HR5 := Lib.hid hr5; have HB5 := Lib.hid hb5; clear hv5 hr5 hb5)
                go_meet
                case rel => exact ⟨rfl, rfl, rfl, rfl, M5, a5, c5, rfl, by rw [show T - T = 0 by omega], HV5, HR5, HB5⟩
              · have d1 : (rc == 10) = false := by simpa using k1
                rw [if_neg k1] at hnx
                obtain ⟨rfl, rfl⟩ := Prod.mk.inj hnx
                clear hnx HNX HGN HSN
                go_wp2_with (go_at_call 11; refine (KT.out _ (Below.refl _ _)).mono ?_; rintro e w5 ⟨a5, c5, M5, rfl, hv5, hr5, hb5⟩; have HB5 := Lib.hid hb5; clear hv5 hr5 hb5)
                go_meet
                case rel => exact ⟨rfl, rfl, rfl, rfl, M, am, cm, rfl, by rw [show T - T = 0 by omega], Lib.hid rfl, Lib.hid (HR2.out.later HB5.out), HB5⟩
          | 2, _ =>
            have hnx := HNX.out
            rw [if_neg (by decide), if_pos (by decide)] at hnx
            have KT := Lib.hid (fun W (hb : Below w2.heap.size w2 W) => (Cm.LckFree_any (.slice am M.length cm) M nm (C : Int) T W (HR2.out.later hb) HG.out hnmd hcld (by omega)).mono fun e w' h => Cm.GetsT.s h)
            unfold Cm.GetsTS at KT
            generalize Cm.freeK (Cm.vals M) nm (C : Int) T = r at hnx KT
            obtain ⟨rl, rn, rc⟩ := r
            dsimp only at hnx KT
            replace e1 : (xd : Int).tmod 4 = 2 := e1
            by_cases k0 : rc = 0
            · have d0 : (rc == 0) = true := by simpa using k0
              rw [if_pos k0] at hnx
              obtain ⟨rfl, rfl⟩ := Prod.mk.inj hnx
              clear hnx HNX HGN HSN
              go_wp2_with (go_at_call 14; refine (KT.out _ (Below.refl _ _)).mono ?_; rintro e w5 ⟨a5, c5, M5, rfl, hv5, hr5, hb5⟩; have HV5 := Lib.hid hv5; have HR5 := Lib.hid hr5; have HB5 := Lib.hid hb5; clear hv5 hr5 hb5)
              go_meet
              case rel => exact ⟨rfl, rfl, rfl, rfl, M5, a5, c5, rfl, by rw [show T + rn - T = rn by omega], HV5, HR5, HB5⟩
            · have d0 : (rc == 0) = false := by simpa using k0
              rw [if_neg k0] at hnx
              obtain ⟨rfl, rfl⟩ := Prod.mk.inj hnx
              clear hnx HNX HGN HSN
              go_wp2_with (go_at_call 14; refine (KT.out _ (Below.refl _ _)).mono ?_; rintro e w5 ⟨a5, c5, M5, rfl, hv5, hr5, hb5⟩; have HB5 := Lib.hid hb5; clear hv5 hr5 hb5)
              go_meet
              case rel => exact ⟨rfl, rfl, rfl, rfl, M, am, cm, rfl, by rw [show T - T = 0 by omega], Lib.hid rfl, Lib.hid (HR2.out.later HB5.out), HB5⟩
          | 3, _ =>
            have hnx := HNX.out
            rw [if_neg (by decide), if_neg (by decide)] at hnx
            have hgl := Cm.clientsF_length xc 8
            have KT := Lib.hid (fun W u (hb : Below w2.heap.size w2 W) (hu : Cm.RdI W u (Cm.clientsF xc 8)) => (Cm.LckDrop_any (.slice am M.length cm) u M (Cm.clientsF xc 8) T W (HR2.out.later hb) HG.out hu (by omega) (by omega)).mono fun e w' h => Cm.GetsD.s h)
            have CK := Lib.hid (fun W => Cm.clients_any xc h4 W)
            unfold Cm.GetsDS at KT
            unfold Cm.GetsN at CK
            generalize Cm.dropK (Cm.clientsF xc 8) (Cm.vals M) T = r at hnx KT
            generalize Cm.clientsF xc 8 = G at KT CK
            obtain ⟨rl, rn⟩ := r
            dsimp only at hnx KT
            replace e1 : (xd : Int).tmod 4 = 3 := e1
            obtain ⟨rfl, rfl⟩ := Prod.mk.inj hnx
            clear hnx HNX HGN HSN hgl
            go_wp2_with (first
              | (go_at_call 17; refine (CK.out _).mono ?_; rintro e w4 ⟨v4, rfl, ho4, hb4⟩; have HR4 := Lib.hid (RdX.own Cm.cellsI_length ho4); have HB4 := Lib.hid hb4; clear ho4 hb4)
              | (go_at_call 16; refine (KT.out _ _ HB4.out HR4.out).mono ?_; rintro e w5 ⟨a5, c5, M5, rfl, hv5, hr5, hb5⟩; have HV5 := Lib.hid hv5; have HR5 := Lib.hid hr5; have HB5 := Lib.hid (step HB4.out hb5); clear hv5 hr5 hb5))
            go_meet
            case rel => exact ⟨rfl, rfl, rfl, rfl, M5, a5, c5, rfl, by rw [show T + rn - T = rn by omega], HV5, HR5, HB5⟩
        case rest =>
          obtain ⟨rfl, rfl, rfl, rfl, M', a', c', rfl, rfl, HV', HR', HB'⟩ := hcut
          have HFI := Lib.hid (fun n W (hb : Below w2.heap.size w2 W) (hn : Cm.nameF n = true) => (Cm.LckFind_any (.slice am M.length cm) M n W T (HR2.out.later hb) HG.out hn).mono fun e w' h => Cm.GetsF.s h)
          have HRI := Lib.hid (fun W (hb : Below wc.heap.size wc W) => Cm.LckRight_any (.slice a' M'.length c') M' W (HR'.out.later hb) (Cm.good_names (t := nt) (by rw [HV'.out]; exact HGN.out)))
          rw [HV'.out, HGN.out.right] at HRI
          have HA' := Lib.hid (fun i hi => Cm.rdk_at HR'.out.row i hi)
          have HNA : Hid (∀ j (hj : j < M'.length), Cm.nameF M'[j].name = true) := Lib.hid fun j hj => ((Cm.oneK_iff _).1 (HGN.out.rk.one M'[j].val (by rw [← HV'.out]; exact List.mem_map_of_mem (List.getElem_mem hj)))).1
          have HSF : Hid (∀ j (hj : j < M'.length), (T < M'[j].token ∧ M'[j].token ≤ nt ∧ ((Cm.findK (Cm.vals M) M'[j].name).2 = true → (Cm.findK (Cm.vals M) M'[j].name).1.token ≠ M'[j].token)) ∨ (M'[j].token ≤ T ∧ (Cm.findK (Cm.vals M) M'[j].name).2 = true ∧ (Cm.findK (Cm.vals M) M'[j].name).1.token = M'[j].token ∧ (Cm.findK (Cm.vals M) M'[j].name).1.holder = M'[j].holder)) := Lib.hid fun j hj => Cm.steps_find HG.out HSN.out M'[j].val (by rw [← HV'.out]; exact List.mem_map_of_mem (List.getElem_mem hj))
          have HNT : Hid (∀ j (hj : j < M'.length), Cm.newT T ((Cm.vals M').take (j + 1)) = Cm.newT T ((Cm.vals M').take j) + if T < M'[j].token then 1 else 0) := Lib.hid fun j hj => by
            have := Cm.newT_take_succ T (Cm.vals M') j (by rw [Cm.vals_length]; exact hj)
            rw [Cm.vals_get M' j hj] at this
            exact this
          have HNL : Hid ((Cm.newT T ((Cm.vals M').take M'.length) : Int) = nt - T) := Lib.hid (by rw [List.take_of_length_le (by rw [Cm.vals_length]; exact Nat.le_refl _), HV'.out]; exact HSN.out.count)
          have HN0 : Hid (Cm.newT T ((Cm.vals M').take 0) = 0) := Lib.hid (by simp [Cm.newT])
          have hm4 : M'.length ≤ 4 := by
            have := HGN.out.len
            rw [← HV'.out, Cm.vals_length] at this
            exact this
          have HGV : Hid (Cm.Good (Cm.vals M') nt) := Lib.hid (by rw [HV'.out]; exact HGN.out)
          have hnt0 : T ≤ nt := by have := HNL.out; omega
          clear HNX HX0 HCC HNM HSN HGN HG
          obtain ⟨N', hN'⟩ : ∃ N', M'.length = N' := ⟨_, rfl⟩
          have HN' := Lib.hid hN'
          rw [hN'] at hm4 HNL HRI ⊢
          clear hN'
          go_wp2
          go_loopw [17, 18] (fun fr i wk => ∃ j : Nat, j ≤ N' ∧ i = .int .i64 j ∧ fr = .int .i64 (Cm.newT T ((Cm.vals M').take j) : Int) ∧ Cm.newT T ((Cm.vals M').take j) ≤ j ∧ Hid (Below wc.heap.size wc wk)) (fun _ i _ => N' - (intOf i).toNat)
          case atStart => exact ⟨0, by omega, rfl, by rw [HN0.out]; rfl, by rw [HN0.out]; omega, Lib.hid (Below.refl _ _)⟩
          case round =>
            obtain ⟨j, hj, rfl, rfl, hfj, HBJ⟩ := hrel
            by_cases hlj : j < N'
            · have hjl : j < M'.length := by rw [HN'.out]; exact hlj
              obtain ⟨b', o', rfl, hc'⟩ := HA'.out j hjl
              obtain ⟨p0, p1, p2, p3⟩ := hc' _ HBJ.out
              have hsf := HSF.out j hjl
              have hna := HNA.out j hjl
              have hnts := HNT.out j hjl
              have HC' := Lib.hid (fun W (hb : Below wr.heap.size wr W) => hc' W (step HBJ.out hb))
              clear hc' HA' HNA HSF HNT
              generalize M'[j] = y at p0 p1 p2 p3 hsf hna hnts HC'
              obtain ⟨yn, yh, yt, yl, ya, yc⟩ := y
              dsimp only at p0 p1 p2 hsf hna hnts HC'
              have HFN := Lib.hid (HFI.out yn wr (step HB'.out HBJ.out) hna)
              clear hna HFI
              generalize Cm.findK (Cm.vals M) yn = r at hsf HFN
              obtain ⟨⟨gn, gh, gt, gl⟩, gb⟩ := r
              dsimp only at hsf HFN
              obtain ⟨q', hq'⟩ : ∃ q', Cm.newT T ((Cm.vals M').take (j + 1)) = q' := ⟨_, rfl⟩
              rw [hq'] at hnts
              have HQ' := Lib.hid hq'
              clear hq'
              generalize Cm.newT T ((Cm.vals M').take j) = q at hfj hnts ⊢
              have g1 : (0 : Int) ≤ (j : Int) := by omega
              have g2 : (j : Int) < (N' : Int) := by omega
              rcases hsf with ⟨t1, t2, t3⟩ | ⟨t1, t2, t3, t4⟩
              · have s1 : decide (yt ≤ T) = false := by simp; omega
                have s2 : IntKind.i64.wrap (T + (nt - T)) = nt := by rw [IntKind.wrap_i64]; omega
                have s3 : decide (nt < yt) = false := by simp; omega
                rw [if_pos t1] at hnts
                cases gb
                case' true =>
                  have hne := t3 rfl
                  have s0 : (gt == yt) = false := by simpa using hne
                  clear hne t3
                case' false => clear t3
                all_goals
                  go_upto_region 29 with (go_at_call 20; refine HFN.out.mono ?_; rintro e w4 ⟨Xa, Xc, rfl, hx, hb4⟩; have HB4 := Lib.hid hb4; clear hx hb4)
                  obtain ⟨W5, hW5⟩ : ∃ W5, W5 = w4.alloc (.cells #[.string (bstr gn), .int .i64 gh, .int .i64 gt, .slice Xa gl.length Xc] 39) := ⟨_, rfl⟩
                  have HB5 : Hid (Below wr.heap.size wr W5) := Lib.hid (by rw [hW5]; exact stepAlloc HB4.out _)
                  obtain ⟨z0, z1, z2, z3⟩ := Cm.box4 (Below.refl _ (w4.alloc (.cells #[.string (bstr gn), .int .i64 gh, .int .i64 gt, .slice Xa gl.length Xc] 39)))
                  rw [← hW5] at z0 z1 z2 z3 ⊢
                  obtain ⟨p0, p1, p2, p3⟩ := HC'.out _ HB5.out
                  clear hW5 HB4 z0 z1 z3
                  go_quiet (fail)
                  go_wp2
                  go_roundw
                  case rel => exact ⟨j + 1, by omega, by go_num, by rw [HQ'.out, hnts]; go_num, by rw [HQ'.out, hnts]; omega, Lib.hid (step HBJ.out (Cm.below_drewN6 HB5.out nq))⟩
                  case measure => simp [intOf]; omega
              · have s0 : (gt == yt) = true := by simpa using t3
                have s1 : (gh != yh) = false := by simpa using t4
                subst t2
                rw [if_neg (by omega), Nat.add_zero] at hnts
                clear t3 t4
                go_upto_region 29 with (go_at_call 20; refine HFN.out.mono ?_; rintro e w4 ⟨Xa, Xc, rfl, hx, hb4⟩; have HB4 := Lib.hid hb4; clear hx hb4)
                obtain ⟨W5, hW5⟩ : ∃ W5, W5 = w4.alloc (.cells #[.string (bstr gn), .int .i64 gh, .int .i64 gt, .slice Xa gl.length Xc] 39) := ⟨_, rfl⟩
                have HB5 : Hid (Below wr.heap.size wr W5) := Lib.hid (by rw [hW5]; exact stepAlloc HB4.out _)
                obtain ⟨z0, z1, z2, z3⟩ := Cm.box4 (Below.refl _ (w4.alloc (.cells #[.string (bstr gn), .int .i64 gh, .int .i64 gt, .slice Xa gl.length Xc] 39)))
                rw [← hW5] at z0 z1 z2 z3 ⊢
                obtain ⟨p0, p1, p2, p3⟩ := HC'.out _ HB5.out
                clear hW5 HB4 z0 z3
                go_quiet (fail)
                go_upto_region 30 with fail
                go_quiet (fail)
                go_wp2
                go_roundw
                case rel => exact ⟨j + 1, by omega, by go_num, by rw [HQ'.out, hnts], by rw [HQ'.out, hnts]; omega, Lib.hid (Cm.below_drewN6 (step HBJ.out HB5.out) _)⟩
                case measure => simp [intOf]; omega
            · obtain rfl : j = N' := by omega
              rw [HNL.out]
              have dd : ((nt - T) != (nt - T)) = false := by simp
              have ee : IntKind.i64.wrap (T + (nt - T)) = nt := by rw [IntKind.wrap_i64]; omega
              go_wp2_with (go_at_call 22; refine (HRI.out _ HBJ.out).mono ?_; rintro e w8 ⟨rfl, hb8⟩; have HB8 := Lib.hid (step HBJ.out hb8); clear hb8)
              go_roundw
              case rel => exact ⟨k + 1, M', a', c', nt, by omega, by go_num, by rw [HN'.out], rfl, by omega, HGV, Lib.hid (HR'.out.later HB8.out), Lib.hid (step HBW.out (step HB'.out HB8.out))⟩
              case measure => simp [intOf]; omega
    · obtain rfl : k = N := by omega
      go_wp2_with (go_at_call 9; refine (C0.out _).mono ?_; rintro e w3 ⟨rfl, hb3⟩)
      go_ret
      exact ⟨rfl, step HB.out hb3⟩

/-! ### THE ROW's STEP -/
set_option maxRecDepth 100000 in
theorem lifted (os : Os) (started : os.Started) (H : Type) (enc : TypeId × Value → H) :
    ReturnsInHanded {} Try.checked os 5 .any (Rows.lockTokensSpec.pre6 enc Try.prog Try.f5 Rows.lockTokensRow.domain false) (Rows.lockTokensSpec.post enc Try.prog Try.f5 false true false false) := by
  refine returnsInHanded_of_change (C := Try.checked) own started (by kernel_rfl) Try.func5
    (ChangeSpec.witness6 (enc := enc) (C := Try.checked) false ⟨#[], #[.slice none 0 0], []⟩ 8 (by kernel_rfl) (by kernel_rfl) (by kernel_rfl) (by kernel_rfl)) ?_
  intro W base args ds gs before hval0 hW hcnd _
  have hval : ∀ (j : Nat) t v, Try.f5.params[j]? = some t → args[j]? = some v → Value.okWide Try.prog W .any base t v := hval0
  have hW' := hW
  obtain ⟨p, q, hA0, hV, rfl, hfz, hnd⟩ := hW
  have hA : DataW.TrodAll enc Try.prog W 0 (fun _ => true) true Try.f5.params.toList args.toList ds p := hA0
  rw [Try.params5] at hA hval
  obtain ⟨v0, vs0, d0, ds0, p0, q0, hargs, rfl, rfl, h0, r0⟩ := trodAll_cons hA
  obtain ⟨rfl, rfl, rfl⟩ := trodAll_nil r0
  obtain rfl : args = #[v0] := by cases args; simp_all
  obtain ⟨rfl, rfl⟩ := trodVars_none hV
  have k0 := h0
  have lt0 : ∀ x ∈ p0, x.block < W.heap.size := by obtain ⟨m, hm⟩ := k0; exact DataW.trod_lt m _ _ _ hm
  obtain ⟨a0, rfl, w0⟩ := Cm.open_act3 (hval 0 22 v0 rfl rfl) h0
  clear hA0 hval0
  refine (walk a0 W w0).mono fun e W' ⟨he, bel⟩ => ?_
  subst he
  exact ⟨_, rfl, _, _, _, [], _, [], hW', trodAll_mk1 (shut_bool Try.underlying4 _), (trodAll_cons_mk (Below.trod laidOut (by kernel_rfl) (of_decide_eq_true (by kernel_rfl)) k0 bel lt0) trodAll_mk0), rfl, bel.frame _, fun h => by cases h⟩

theorem over : Rows.lockTokensRow.holds Try.pinned (OpenSpec.ofChange Rows.lockTokensSpec) :=
  OpenClaim.holds_of_wide 5 Try.f5 rfl rfl rfl rfl rfl rfl rfl ⟨rfl, rfl, rfl, rfl, rfl⟩ rfl rfl rfl rfl rfl (by kernel_rfl) Try.func5 (by kernel_rfl)
    (of_decide_eq_true (by kernel_rfl)) (by unfold Func.isWrapper; first | (rw [if_pos (by decide +kernel)]; kernel_rfl) | (rw [if_neg (by decide +kernel)]; exact ⟨rfl, rfl⟩))
    (fun os started H enc _ => lifted os started H enc)

/-- THE STATEMENT -/
theorem proved : Rows.LockTokensSaid := over
end Go.Proofs.Ytnkooajbenhjhaa.lockTokens
