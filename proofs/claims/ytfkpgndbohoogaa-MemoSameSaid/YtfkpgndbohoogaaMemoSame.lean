/- PROVED: the statement MemoSame of layer 9: for every input that can be read, the law returns true and leaves its arguments as they were. No condition. -/
import Derived.Test.YtfkpgndbohoogaaRows
import Derived.Test.YtfkpgndbohoogaaP8
import Derived.WalkKit
import Derived.ProofKit
import Derived.OpenShut
import Derived.ShutString
import Derived.ChangeOld
import Derived.Below
import Derived.Deep.Cut
import Derived.Deep.CutBlock
import Derived.Deep.DeepCutAuto
namespace Go.Proofs.Ytfkpgndbohoogaa.memoSame
open Go.ChangeShapes Go.WideShapes Go.ChangeAt Go.RowKit
open Go.ChangeMaps (open_string shut_string)
open Go.Sort (grow)
set_option linter.unusedVariables false

theorem own : ownKnob Try.prog.godebug = none := by kernel_rfl
theorem laidOut : laidOutB Try.prog = true := by kernel_rfl

/-! ### STEP 1: THE WALK -/
set_option maxRecDepth 100000 in
set_option maxHeartbeats 4000000 in
theorem walk (a0 : List Cm.Act9 × Value) (a1 : Int) (a2 : Int) (a3 : Option Addr) (len3 cap3 : Nat) (z3 : List Int) (w : World) (w0 : Cm.act9OkA w a0) (w1 : (Lit.int .u8 a1).wf = true) (w2 : (Lit.int .u8 a2).wf = true) (w3 : IsRow .u8 w a3 len3 cap3 z3) :
    Calls Try.prog 7 #[Cm.act9A a0, .int .u8 a1, .int .u8 a2, .slice a3 len3 cap3] w fun e w' => e = .returned (.bool true) ∧ Below w.heap.size w w' := by
  obtain ⟨L, v⟩ := a0
  unfold Cm.act9OkA at w0
  unfold Cm.act9A
  dsimp only at w0 ⊢
  obtain ⟨w0, wa⟩ := w0
  obtain ⟨c9, rfl⟩ : ∃ n : Nat, a1 = (n : Int) := Int.eq_ofNat_of_zero_le (by have := w1; simp [Lit.wf, IntKind.min, IntKind.max, IntKind.signed, IntKind.bits] at this; omega)
  have hc9 : c9 < 256 := by have := w1; simp [Lit.wf, IntKind.min, IntKind.max, IntKind.signed, IntKind.bits] at this; omega
  obtain ⟨s9, rfl⟩ : ∃ n : Nat, a2 = (n : Int) := Int.eq_ofNat_of_zero_le (by have := w2; simp [Lit.wf, IntKind.min, IntKind.max, IntKind.signed, IntKind.bits] at this; omega)
  have hs9 : s9 < 256 := by have := w2; simp [Lit.wf, IntKind.min, IntKind.max, IntKind.signed, IntKind.bits] at this; omega
  obtain ⟨hr9, -⟩ := w3.rd
  generalize bytesOf z3 len3 = NS at hr9
  have KA9 := Lib.hid (fun W (hb : Below w.heap.size w W) => Cm.Answer_any c9 s9 (.slice a3 len3 cap3) NS W hc9 hs9 (hr9.later hb))
  have hm := w0.len
  have C0 := Lib.hid (fun w => Cm.awake9_ok w)
  obtain ⟨a, cap, rfl⟩ := w0.form
  have HA := Lib.hid (fun i hi => Cm.acts9_at w0 i hi)
  have HOK : Hid (∀ i (hi : i < L.length), L[i].ok w) := Lib.hid fun i hi => wa _ (List.getElem_mem hi)
  clear w0 wa w1 w2 w3 hr9
  obtain ⟨N, hN⟩ : ∃ N, L.length = N := ⟨_, rfl⟩
  have HLL := Lib.hid hN
  rw [hN] at hm ⊢
  clear hN
  obtain ⟨i1, hi, hz0, hz1, hz2⟩ := info_parts Cm.infoM
  go_enter Try.func7, Try.ntmps7
  go_wp2
  go_loopw [9, 10] (fun m i wr => ∃ (k : Nat) (M : List Cm.MemC) (am : Option Addr) (cm : Nat), k ≤ N ∧ k ≤ 20 ∧ i = .int .i64 k ∧ m = .slice am M.length cm ∧ M.length ≤ k ∧ Hid (Cm.Rm (Cm.valsM M)) ∧ Hid (Cm.Few (Cm.valsM M)) ∧ Hid (Cm.RdM wr (.slice am M.length cm) M) ∧ Hid (Below w.heap.size w wr)) (fun _ i _ => 20 - (intOf i).toNat)
  case atStart => exact ⟨0, [], none, 0, by omega, by omega, rfl, rfl, by simp, Lib.hid Cm.Rm.nil, Lib.hid Cm.Few.nil, Lib.hid (Cm.RdM.nil _), Lib.hid (Below.refl _ _)⟩
  case round =>
    obtain ⟨k, M, am, cm, hk, hk20, rfl, rfl, hMk, HG, HF, HR, HB⟩ := hrel
    obtain ⟨MN, hMN⟩ : ∃ MN, M.length = MN := ⟨_, rfl⟩
    have HMN := Lib.hid hMN
    rw [hMN] at HR hMk ⊢
    clear hMN
    have KK := Lib.hid (fun W u (A : Cm.AnsV) (hb : Below wr.heap.size wr W) (hu : Cm.RdH W u A.rep.held) (h4 : A.rep.held.length ≤ 4) => Cm.MemKeep_any (.slice am MN cm) u M A W (HR.out.later hb) HG.out (by rw [HMN.out]; omega) hu (by omega) HF.out.mem)
    by_cases hlt : k < N ∧ k < 20
    · obtain ⟨g1, g3⟩ := hlt
      have hkl : k < L.length := by rw [HLL.out]; exact g1
      obtain ⟨b, o, rfl, hc⟩ := HA.out k hkl
      have hok := HOK.out k hkl
      have HC := Lib.hid hc
      clear hc HA HOK
      generalize L[k] = x at hok HC
      obtain ⟨xc, xs, xl, xa, xp⟩ := x
      obtain ⟨o1, o2, o3⟩ := hok
      unfold Cm.Act9.nv at HC o3
      dsimp only at HC o1 o2 o3
      have KA := Lib.hid (fun W (hb : Below w.heap.size w W) => Cm.Answer_any xc xs (.slice xa xl.length xp) xl W o1 o2 (o3.later hb))
      have d1 : decide (k < N) = true := decide_eq_true g1
      have d3 : decide (k < 20) = true := decide_eq_true g3
      have f1 : (0 : Int) ≤ (k : Int) := by omega
      have f2 : (k : Int) < (N : Int) := by omega
      clear o3 hkl
      generalize xl.length = XN at *
      obtain ⟨q0, q1, q2⟩ := HC.out _ HB.out
      go_upto_region 5 with fail
      go_region_held3 (fun W => W.cell? ⟨b, o + k * 3, none⟩ = some (.int .u8 (xc : Int)) ∧ W.cell? ⟨b, o + k * 3 + 1, none⟩ = some (.int .u8 (xs : Int)) ∧ W.cell? ⟨b, o + k * 3 + 2, none⟩ = some (.slice xa XN xp)) (first | exact ⟨q0, q1, q2⟩ | exact HC.out _ (step HB.out (Below.refl _ _).drew) | exact HC.out _ (step HB.out HB5.out) | exact HC.out _ (step HB.out HB6.out) | go_keep) (first
        | (go_at_call 18; refine (KA.out _ (step HB.out (Below.refl _ _).drew)).mono ?_; rintro e w5 ⟨⟨ac, sq, ⟨ak, an, ad, al⟩⟩, ua, up, he, -, -, -, hA4, hr5, hb5⟩; unfold Cm.ansVal at he; dsimp only at he hA4 hr5; subst he; have HB5 := Lib.hid (step (Below.refl wr.heap.size wr).drew hb5); have KK2 := Lib.hid (KK.out _ (.slice ua al.length up) ⟨ac, sq, ⟨ak, an, ad, al⟩⟩ HB5.out hr5 hA4); clear hb5 hr5)
        | (go_at_call 9; refine KK2.out.mono ?_; rintro e w6 ⟨a6, c6, M6, rfl, hv6, hr6, hb6⟩; have HV6 := Lib.hid hv6; have HR6 := Lib.hid hr6; have HB6 := Lib.hid (step HB5.out hb6); clear hv6 hr6 hb6))
      go_wp2
      go_roundw
      case rel => exact ⟨k + 1, M6, a6, c6, by omega, by omega, by go_num, rfl, by rw [← Cm.valsM_length M6, HV6.out]; have := Cm.keep_length (Cm.valsM M) ⟨ac, sq, ⟨ak, an, ad, al⟩⟩; rw [Cm.valsM_length, HMN.out] at this; omega, Lib.hid (by rw [HV6.out]; exact HG.out.keep _), Lib.hid (by rw [HV6.out]; exact HF.out.keep (by dsimp only; omega)), HR6, Lib.hid (step HB.out HB6.out)⟩
      case measure => simp [intOf]; omega
    · have hcs : ¬ k < N ∨ (k < N ∧ ¬ k < 20) := by omega
      clear hlt HA HOK
      rcases hcs with c1 | ⟨c1, c2⟩
      all_goals
        have HN1 := Lib.hid (HR.out.later (newAlloc wr (.cells #[] 35)))
        go_upto_region 7 with (at_builtin; refine wpList_append_rdx Cm.cellsM_length (by omega) Cm.cellsM_one rfl (.tmp 45) (.tmp 46) 24 rfl wr.heap.size 35 i1 _ 64 Try.underlying24 hi hz0 hz1 hz2 rfl _ 0 [] rfl (own_new wr _ 6 _ _ rfl (Nat.le_refl _)) _ M rfl HN1.out.row (by rw [HMN.out]; unfold maxLen; omega) (by rw [HMN.out]; omega) (newAlloc wr (.cells #[] 35)).size ?_; intro v5 w5 hown5 hgrow5; have HB5 : Hid (Below wr.heap.size wr w5) := Lib.hid ((newAlloc wr (.cells #[] 35)).grown hgrow5 (newAlloc wr (.cells #[] 35)).size (fun k hk => by cases hk; exact Nat.le_refl _)); have HO5 : Hid (w5.ownsRow wr.heap.size 35 6 v5 M.length (flatX Cm.cellsM M)) := Lib.hid (by simpa using hown5); clear hown5 hgrow5)
        have HRD5 := Lib.hid (Cm.RdM.made HO5.out HR.out.held HB5.out)
        obtain ⟨u5, uc5, rfl⟩ := Rw.own_form HO5.out
        rw [HMN.out] at HRD5 ⊢
        clear HO5 HN1
        go_upto_region 8 with (go_at_call 18; refine (KA9.out _ (step HB.out HB5.out)).mono ?_; rintro e w6 ⟨⟨ac, sq, ⟨ak, an, ad, al⟩⟩, ua, up, he, hA1, -, -, hA4, hr6, hb6⟩; unfold Cm.ansVal at he; dsimp only at he hA4 hr6; subst he; have HA1 := Lib.hid hA1; have HB6 := Lib.hid (step HB5.out hb6); have HRA := Lib.hid hr6; have HRD6 := Lib.hid (HRD5.out.later hb6); clear hb6 hr6 hA1)
        obtain ⟨W7, hW7⟩ : ∃ W7, W7 = w6.alloc (.cells #[.int .i64 ac, .int .i64 sq, .int .i64 ak, .int .i64 an, .int .i64 ad, .slice ua al.length up] 30) := ⟨_, rfl⟩
        have HB7 : Hid (Below wr.heap.size wr W7) := Lib.hid (by rw [hW7]; exact stepAlloc HB6.out _)
        have hn7 : Below w6.heap.size w6 W7 := by rw [hW7]; exact newAlloc _ _
        have HRA7 := Lib.hid (HRA.out.later hn7)
        have HRD7 := Lib.hid (HRD6.out.later hn7)
        have hx := Cm.box6 (Below.refl _ (w6.alloc (.cells #[.int .i64 ac, .int .i64 sq, .int .i64 ak, .int .i64 an, .int .i64 ad, .slice ua al.length up] 30)))
        rw [← hW7] at hx ⊢
        have HX7 : Hid (∀ W, Below W7.heap.size W7 W → W.cell? ⟨w6.heap.size, 0, none⟩ = some (.int .i64 ac) ∧ W.cell? ⟨w6.heap.size, 1, none⟩ = some (.int .i64 sq) ∧ W.cell? ⟨w6.heap.size, 2, none⟩ = some (.int .i64 ak) ∧ W.cell? ⟨w6.heap.size, 3, none⟩ = some (.int .i64 an) ∧ W.cell? ⟨w6.heap.size, 4, none⟩ = some (.int .i64 ad) ∧ W.cell? ⟨w6.heap.size, 5, none⟩ = some (.slice ua al.length up)) := Lib.hid fun W hb => ⟨(hb.cell (lt_of_cell hx.1)).trans hx.1, (hb.cell (lt_of_cell hx.2.1)).trans hx.2.1, (hb.cell (lt_of_cell hx.2.2.1)).trans hx.2.2.1, (hb.cell (lt_of_cell hx.2.2.2.1)).trans hx.2.2.2.1, (hb.cell (lt_of_cell hx.2.2.2.2.1)).trans hx.2.2.2.2.1, (hb.cell (lt_of_cell hx.2.2.2.2.2)).trans hx.2.2.2.2.2⟩
        obtain ⟨z0, z1, z2, z3, z4, z5⟩ := HX7.out _ (Below.refl _ _)
        clear hW7 hn7 hx HRD5 HRD6 HRA HB5 HB6
        have hGK := HG.out.keep ⟨ac, sq, ⟨ak, an, ad, al⟩⟩
        have hFK := HF.out.keep (a := ⟨ac, sq, ⟨ak, an, ad, al⟩⟩) (by dsimp only; omega)
        obtain ⟨⟨xc, xq, ⟨xk, xn, xd, xl⟩⟩, hx1, hx2, -⟩ := Cm.keep_last (Cm.valsM M) ⟨ac, sq, ⟨ak, an, ad, al⟩⟩ HA1.out
        have hxb := (Cm.mayA_bounds _ (hGK.may _ (Cm.last_mem hx1))).2.1
        have hag := Cm.keep_again (Cm.valsM M) ⟨ac, sq, ⟨ak, an, ad, al⟩⟩
        have hlk := Cm.keep_length (Cm.valsM M) ⟨ac, sq, ⟨ak, an, ad, al⟩⟩
        rw [Cm.valsM_length, HMN.out] at hlk
        have KK1 := KK.out W7 (.slice ua al.length up) ⟨ac, sq, ⟨ak, an, ad, al⟩⟩ HB7.out HRA7.out hA4
        generalize Cm.keepM (Cm.valsM M) ⟨ac, sq, ⟨ak, an, ad, al⟩⟩ = K at KK1 hGK hFK hx1 hag hlk
        have hf0 := Cm.fresh_at hx1
        dsimp only at hx1 hx2 hxb hf0
        have KK1 := Lib.hid KK1
        have HGK := Lib.hid hGK
        have HFK := Lib.hid hFK
        have HX1 := Lib.hid hx1
        have HAG := Lib.hid hag
        have HF0 := Lib.hid hf0
        unfold Cm.ansVal Cm.GetsK at KK1
        dsimp only at KK1
        clear hGK hFK hx1 hag hf0 KA9 KK
        go_upto_region 9 with (go_at_call 9; refine KK1.out.mono ?_; rintro e w8 ⟨a8, c8, M8, rfl, hv8, hr8, hb8⟩; have HV8 := Lib.hid hv8; have HR8 := Lib.hid hr8; have HB8 := Lib.hid hb8; obtain ⟨y0, y1, y2, y3, y4, y5⟩ := HX7.out _ hb8; clear hv8 hr8 hb8)
        have KL := (Cm.MemLast_any (.slice a8 M8.length c8) M8 ac w8 HR8.out (by rw [HV8.out]; exact HGK.out)).mono fun e w' h => Cm.GetsM.s h
        rw [HV8.out, HX1.out] at KL
        dsimp only at KL
        have KL := Lib.hid KL
        have hl8 : M8.length ≤ 21 := by rw [← Cm.valsM_length M8, HV8.out]; omega
        obtain ⟨XN, hXN⟩ : ∃ XN, xl.length = XN := ⟨_, rfl⟩
        rw [hXN] at KL
        clear hXN
        go_upto_region 10 with (go_at_call 15; refine KL.out.mono ?_; rintro e w9 ⟨a9, c9', rfl, -, hb9⟩; have HB9 := Lib.hid hb9; clear hb9)
        obtain ⟨W10, hW10⟩ : ∃ W10, W10 = w9.alloc (.cells #[.int .i64 xc, .int .i64 xq, .int .i64 xk, .int .i64 xn, .int .i64 xd, .slice a9 XN c9'] 35) := ⟨_, rfl⟩
        have HB10 : Hid (Below w8.heap.size w8 W10) := Lib.hid (by rw [hW10]; exact stepAlloc HB9.out _)
        have hx := Cm.box6 (Below.refl _ (w9.alloc (.cells #[.int .i64 xc, .int .i64 xq, .int .i64 xk, .int .i64 xn, .int .i64 xd, .slice a9 XN c9'] 35)))
        rw [← hW10] at hx ⊢
        have HQ10 : Hid (∀ W, Below W10.heap.size W10 W → W.cell? ⟨w9.heap.size, 1, none⟩ = some (.int .i64 xq) ∧ W.cell? ⟨w6.heap.size, 0, none⟩ = some (.int .i64 ac) ∧ W.cell? ⟨w6.heap.size, 1, none⟩ = some (.int .i64 sq)) := Lib.hid fun W hb => ⟨(hb.cell (lt_of_cell hx.2.1)).trans hx.2.1, (HX7.out _ (step HB8.out (step HB10.out hb))).1, (HX7.out _ (step HB8.out (step HB10.out hb))).2.1⟩
        clear hW10 hx HB9 KL
        obtain ⟨p0, p1, p2, p3, p4, p5⟩ := HX7.out _ (step HB8.out HB10.out)
        have KK3 := Cm.MemKeep_any (.slice a8 M8.length c8) (.slice ua al.length up) M8 ⟨ac, sq, ⟨ak, an, ad, al⟩⟩ W10 (HR8.out.later HB10.out) (by rw [HV8.out]; exact HGK.out) (by omega) (HRA7.out.later (step HB8.out HB10.out)) (by dsimp only; omega) (Cm.Few.mem (by rw [HV8.out]; exact HFK.out))
        rw [HV8.out, HAG.out] at KK3
        unfold Cm.ansVal Cm.GetsK at KK3
        dsimp only at KK3
        have KK3 := Lib.hid KK3
        have KF := Lib.hid (fun W q (hb : Below w8.heap.size w8 W) => Cm.MemFresh_any (.slice a8 M8.length c8) M8 ac q W (HR8.out.later hb) (by rw [HV8.out]; exact HGK.out))
        rw [HV8.out] at KF
        go_upto_region 11 with (go_at_call 9; refine KK3.out.mono ?_; rintro e w11 ⟨a11, c11, M11, rfl, hv11, hr11, hb11⟩; have HV11 := Lib.hid hv11; have HR11 := Lib.hid hr11; have HB11 := Lib.hid hb11; clear hv11 hr11 hb11)
        obtain ⟨t0, t1, t2⟩ := HQ10.out _ HB11.out
        have HBA := Lib.hid (step HB10.out HB11.out)
        have HBW := Lib.hid (step (step HB.out HB7.out) HB8.out)
        have dg : decide (sq ≤ xq) = true := decide_eq_true hx2
        have v1 : IntKind.i64.wrap (xq + 1) = xq + 1 := by rw [IntKind.wrap_i64]; omega
        have v2 : IntKind.i64.wrap (xq - 1) = xq - 1 := by rw [IntKind.wrap_i64]; omega
        have e0 : Cm.freshM K ac xq = 0 := by rw [HF0.out, if_neg (by omega), if_pos rfl]
        have e1 : Cm.freshM K ac (xq + 1) = 1 := by rw [HF0.out, if_pos (by omega)]
        have e2 : Cm.freshM K ac (xq - 1) = -1 := by rw [HF0.out, if_neg (by omega), if_neg (by omega)]
        have KF1 := Lib.hid (fun W (hb : Below w8.heap.size w8 W) => KF.out W xq hb)
        have KF2 := Lib.hid (fun W (hb : Below w8.heap.size w8 W) => KF.out W (xq + 1) hb)
        have KF3 := Lib.hid (fun W (hb : Below w8.heap.size w8 W) => KF.out W (xq - 1) hb)
        rw [e0] at KF1
        rw [e1] at KF2
        rw [e2] at KF3
        have KS1 := Lib.hid (fun W (hb : Below w11.heap.size w11 W) => Cm.same_mems _ _ M11 M8 W (HR11.out.later hb) (HR8.out.later (step HBA.out hb)) (HV11.out.trans HV8.out.symm))
        have KS2 := Lib.hid (fun W (hb : Below w11.heap.size w11 W) => Cm.same_mems (.slice am MN cm) (.slice u5 MN uc5) M M W (HR.out.later (step (step HB7.out HB8.out) (step HBA.out hb))) (HRD7.out.later (step HB8.out (step HBA.out hb))) rfl)
        clear e0 e1 e2 KF KK3 KK1 HX7 z0 z1 z2 z3 z4 z5 y0 y1 y2 y3 y4 y5 p0 p1 p2 p3 p4 p5 hxb hx2
        go_wp2_with fail
        refine (KF1.out _ HBA.out).mono ?_
        rintro e w12 ⟨rfl, hb12⟩
        obtain ⟨t0, t1, t2⟩ := HQ10.out _ (step HB11.out hb12)
        have HB12 := Lib.hid hb12
        clear hb12
        go_wp2_with fail
        refine (KF2.out _ (step HBA.out HB12.out)).mono ?_
        rintro e w13 ⟨rfl, hb13⟩
        obtain ⟨t0, t1, t2⟩ := HQ10.out _ (step HB11.out (step HB12.out hb13))
        have HB13 := Lib.hid (step HB12.out hb13)
        clear hb13
        go_wp2_with fail
        refine (KF3.out _ (step HBA.out HB13.out)).mono ?_
        rintro e w14 ⟨rfl, hb14⟩
        have HB14 := Lib.hid (step HB13.out hb14)
        clear hb14
        go_wp2_with fail
        refine (KS1.out _ HB14.out).mono ?_
        rintro e w15 ⟨rfl, hb15⟩
        have HB15 := Lib.hid (step HB14.out hb15)
        clear hb15
        go_wp2_with fail
        refine (KS2.out _ HB15.out).mono ?_
        rintro e w16 ⟨rfl, hb16⟩
        have HB16 := Lib.hid (step HB15.out hb16)
        clear hb16
        go_wp2_with (go_at_call 8; refine (C0.out _).mono ?_; rintro e w17 ⟨rfl, hb17⟩)
        go_ret
        exact ⟨rfl, step HBW.out (step HBA.out (step HB16.out hb17))⟩

/-! ### THE ROW's STEP -/
set_option maxRecDepth 100000 in
theorem lifted (os : Os) (started : os.Started) (H : Type) (enc : TypeId × Value → H) :
    ReturnsInHanded {} Try.checked os 7 .any (Rows.memoSameSpec.pre6 enc Try.prog Try.f7 Rows.memoSameRow.domain false) (Rows.memoSameSpec.post enc Try.prog Try.f7 false true false false) := by
  refine returnsInHanded_of_change (C := Try.checked) own started (by kernel_rfl) Try.func7
    (ChangeSpec.witness6 (enc := enc) (C := Try.checked) false ⟨#[], #[.slice none 0 0, .int .u8 0, .int .u8 0, .slice none 0 0], []⟩ 8 (by kernel_rfl) (by kernel_rfl) (by kernel_rfl) (by kernel_rfl)) ?_
  intro W base args ds gs before hval0 hW hcnd _
  have hval : ∀ (j : Nat) t v, Try.f7.params[j]? = some t → args[j]? = some v → Value.okWide Try.prog W .any base t v := hval0
  have hW' := hW
  obtain ⟨p, q, hA0, hV, rfl, hfz, hnd⟩ := hW
  have hA : DataW.TrodAll enc Try.prog W 0 (fun _ => true) true Try.f7.params.toList args.toList ds p := hA0
  rw [Try.params7] at hA hval
  obtain ⟨v0, vs0, d0, ds0, p0, q0, hargs, rfl, rfl, h0, r0⟩ := trodAll_cons hA
  obtain ⟨v1, vs1, d1, ds1, p1, q1, rfl, rfl, rfl, h1, r1⟩ := trodAll_cons r0
  obtain ⟨v2, vs2, d2, ds2, p2, q2, rfl, rfl, rfl, h2, r2⟩ := trodAll_cons r1
  obtain ⟨v3, vs3, d3, ds3, p3, q3, rfl, rfl, rfl, h3, r3⟩ := trodAll_cons r2
  obtain ⟨rfl, rfl, rfl⟩ := trodAll_nil r3
  obtain rfl : args = #[v0, v1, v2, v3] := by cases args; simp_all
  obtain ⟨rfl, rfl⟩ := trodVars_none hV
  have k0 := h0
  have lt0 : ∀ x ∈ p0, x.block < W.heap.size := by obtain ⟨m, hm⟩ := k0; exact DataW.trod_lt m _ _ _ hm
  obtain ⟨a0, rfl, w0⟩ := Cm.open_act9 (hval 0 39 v0 rfl rfl) h0
  obtain ⟨a1, rfl, rfl, rfl, w1⟩ := open_int Try.underlying5 (hval 1 5 v1 rfl rfl) h1
  obtain ⟨a2, rfl, rfl, rfl, w2⟩ := open_int Try.underlying5 (hval 2 5 v2 rfl rfl) h2
  obtain ⟨a3, len3, cap3, rfl⟩ := okWide_slice Try.underlying42 (hval 3 42 v3 rfl rfl)
  have k3 := h3
  have lt3 : ∀ x ∈ p3, x.block < W.heap.size := by obtain ⟨m, hm⟩ := k3; exact DataW.trod_lt m _ _ _ hm
  obtain ⟨z3, w3⟩ : ∃ zs, IsRow .u8 W a3 len3 cap3 zs := by
    obtain ⟨fuel, hf⟩ := h3
    rcases open_ints Try.underlying42 Try.underlying5 (by kernel_rfl) hf with ⟨hcs, _⟩ | ⟨x, l, c, zs, hcs, _, hl, hm, hz, _, hcell, hwz⟩
    · simp [Value.cells] at hcs
      obtain ⟨rfl, rfl, rfl⟩ := hcs
      exact ⟨[], .inl ⟨rfl, rfl, rfl, rfl⟩⟩
    · simp [Value.cells] at hcs
      obtain ⟨rfl, rfl, rfl⟩ := hcs
      exact ⟨zs, .inr ⟨_, rfl, hl, hm, by simpa using hz, hcell, hwz⟩⟩
  clear hA0 hval0
  refine (walk a0 a1 a2 a3 len3 cap3 z3 W w0 w1 w2 w3).mono fun e W' ⟨he, bel⟩ => ?_
  subst he
  exact ⟨_, rfl, _, _, _, [], _, [], hW', trodAll_mk1 (shut_bool Try.underlying4 _), (trodAll_cons_mk (Below.trod laidOut (by kernel_rfl) (of_decide_eq_true (by kernel_rfl)) k0 bel lt0) (trodAll_cons_mk (shut_int Try.underlying5 w1) (trodAll_cons_mk (shut_int Try.underlying5 w2) (trodAll_cons_mk (Below.trod laidOut (by kernel_rfl) (of_decide_eq_true (by kernel_rfl)) k3 bel lt3) trodAll_mk0)))), rfl, bel.frame _, fun h => by cases h⟩

theorem over : Rows.memoSameRow.holds Try.pinned (OpenSpec.ofChange Rows.memoSameSpec) :=
  OpenClaim.holds_of_wide 7 Try.f7 rfl rfl rfl rfl rfl rfl rfl ⟨rfl, rfl, rfl, rfl, rfl⟩ rfl rfl rfl rfl rfl (by kernel_rfl) Try.func7 (by kernel_rfl)
    (of_decide_eq_true (by kernel_rfl)) (by unfold Func.isWrapper; first | (rw [if_pos (by decide +kernel)]; kernel_rfl) | (rw [if_neg (by decide +kernel)]; exact ⟨rfl, rfl⟩))
    (fun os started H enc _ => lifted os started H enc)

/-- THE STATEMENT -/
theorem proved : Rows.MemoSameSaid := over
end Go.Proofs.Ytfkpgndbohoogaa.memoSame
