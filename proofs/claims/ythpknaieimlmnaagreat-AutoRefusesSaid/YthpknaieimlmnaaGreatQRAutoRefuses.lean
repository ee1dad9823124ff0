/- PROVED: the statement AutoRefuses of layer 10: for every input that can be read, the law returns true and leaves its arguments as they were. No condition. -/
import Derived.Test.YthpknaieimlmnaaGreatRows
import Derived.Test.YthpknaieimlmnaaGreatQ52
import Derived.WalkKit
import Derived.ProofKit
import Derived.OpenShut
import Derived.ShutString
import Derived.ChangeOld
import Derived.Below
import Derived.Deep.Cut
import Derived.Deep.CutBlock
import Derived.Deep.DeepCutAuto
namespace Go.Proofs.YthpknaieimlmnaaGreat.autoRefuses
open Go.ChangeShapes Go.WideShapes Go.ChangeAt Go.RowKit
open Go.ChangeMaps (open_string shut_string)
open Go.Sort (grow)
set_option linter.unusedVariables false
set_option maxRecDepth 8000
set_option linter.unusedSimpArgs false

theorem own : ownKnob Tryz.prog.godebug = none := by kernel_rfl
theorem laidOut : laidOutB Tryz.prog = true := by kernel_rfl

/-! ### STEP 1: THE WALK -/
set_option maxRecDepth 100000 in
set_option maxHeartbeats 4000000 in
theorem walk (a0 : List Cm.Act10 × Value) (a1 : Int) (a2 : Int) (a3 : Int) (w : World) (w0 : Cm.act10OkA w a0) (w1 : (Lit.int .u8 a1).wf = true) (w2 : (Lit.int .u8 a2).wf = true) (w3 : (Lit.int .u8 a3).wf = true) :
    Calls Tryz.prog 9 #[Cm.act10A a0, .int .u8 a1, .int .u8 a2, .int .u8 a3] w fun e w' => e = .returned (.bool true) ∧ Below w.heap.size w w' := by
  obtain ⟨L, v⟩ := a0
  unfold Cm.act10OkA at w0
  unfold Cm.act10A
  dsimp only at w0 ⊢
  obtain ⟨C, rfl⟩ : ∃ C : Nat, a1 = (C : Int) := Int.eq_ofNat_of_zero_le (by have := w1; simp [Lit.wf, IntKind.min, IntKind.max, IntKind.signed, IntKind.bits] at this; omega)
  have hC : C < 256 := by have := w1; simp [Lit.wf, IntKind.min, IntKind.max, IntKind.signed, IntKind.bits] at this; omega
  obtain ⟨U, rfl⟩ : ∃ U : Nat, a2 = (U : Int) := Int.eq_ofNat_of_zero_le (by have := w2; simp [Lit.wf, IntKind.min, IntKind.max, IntKind.signed, IntKind.bits] at this; omega)
  have hU : U < 256 := by have := w2; simp [Lit.wf, IntKind.min, IntKind.max, IntKind.signed, IntKind.bits] at this; omega
  obtain ⟨K, rfl⟩ : ∃ K : Nat, a3 = (K : Int) := Int.eq_ofNat_of_zero_le (by have := w3; simp [Lit.wf, IntKind.min, IntKind.max, IntKind.signed, IntKind.bits] at this; omega)
  have hK : K < 256 := by have := w3; simp [Lit.wf, IntKind.min, IntKind.max, IntKind.signed, IntKind.bits] at this; omega
  clear w1 w2 w3
  have hfew := Cm.made_few 60 L
  have hml := fun c => Cm.made_last 60 L c
  obtain ⟨s, hs⟩ : ∃ s, Cm.madeA 60 (L.take 60) = s := ⟨_, rfl⟩
  have KM := fun W (hb : Below w.heap.size w W) => Cm.Made_any10 v L W (w0.later hb)
  rw [hs] at hfew KM
  simp only [hs] at hml
  have hR := hfew.right
  have hn := hfew.num
  have ht := hfew.tok
  clear hs hfew
  obtain ⟨c8, hc8⟩ : ∃ c8 : Int, ((C % 8 : Nat) : Int) = c8 := ⟨_, rfl⟩
  have hcr : 0 ≤ c8 ∧ c8 < 8 := by omega
  have htm : (C : Int).tmod 8 = c8 := by rw [Int.tmod_eq_emod_of_nonneg (by omega)]; omega
  have hwC : IntKind.i64.wrap (C : Int) = (C : Int) := by rw [IntKind.wrap_i64]; omega
  have hwU : IntKind.i64.wrap (U : Int) = (U : Int) := by rw [IntKind.wrap_i64]; omega
  have hwK : IntKind.i64.wrap (K : Int) = (K : Int) := by rw [IntKind.wrap_i64]; omega
  have hw7 : IntKind.i64.wrap (7 + (K : Int)) = 7 + (K : Int) := by rw [IntKind.wrap_i64]; omega
  have hl66 := hml c8
  have hl0 := (Cm.last_bounds hR c8).2
  have KF := fun W (y : Cm.StC) (h : Cm.RdSt W y) (e : y.v = s) => by
    have := Cm.Find_any y.sv y.S c8 W h.s
    rw [show y.S = s.ses from congrArg Cm.StV.ses e] at this
    exact this
  have KL := fun W (y : Cm.StC) (h : Cm.RdSt W y) (e : y.v = s) => by
    have := (Cm.RefLast_any y.mv y.M c8 W h.m).mono fun e w' q => Cm.GetsM.s q
    rw [show Cm.valsM y.M = s.memos from congrArg Cm.StV.memos e] at this
    exact this
  have hnum : 0 ≤ (Cm.findS s.ses c8).1.num ∧ (Cm.findS s.ses c8).1.num ≤ 60 := Cm.find_num hR hn c8
  have HOP : Hid ((Cm.findS s.ses c8).2 = true → Cm.openA s c8 = (s, ⟨7, (Cm.findS s.ses c8).1.num, 0, Cm.heldK s.locks c8⟩)) := Lib.hid fun q => Cm.open_has q
  have hcl : Cm.clientF c8 = true := by unfold Cm.clientF; simp; omega
  have HOF : Hid ((Cm.findS s.ses c8).2 = false → 5 ≤ s.ses.length → Cm.openA s c8 = (s, ⟨5, 0, 0, []⟩)) := Lib.hid fun q q2 => Cm.open_full hR (by omega) hcl q q2
  have HON := Lib.hid (fun (q : (Cm.findS s.ses c8).2 = false) (q2 : s.ses.length < 5) => Cm.open_new hR (by omega) hcl q q2)
  have h5 : s.ses.length ≤ 5 := Cm.rst_five hR
  have h1 : Cm.applyA s ⟨c8, (Cm.lastM s.memos c8).1.seq + 1, ⟨7 + (K : Int), 0, []⟩⟩ = (s, Cm.onlyA 1, false) := Cm.refuse_kind s _ _ K
  obtain ⟨k5, hk5⟩ : ∃ k5 : Int, ((K % 5 : Nat) : Int) = k5 := ⟨_, rfl⟩
  have hk5b : 0 ≤ k5 ∧ k5 < 5 := by omega
  have hk5r : ((K : Int) % 5) = k5 := by omega
  have hw5 : IntKind.u8.wrap (1 + k5) = 1 + k5 := by rw [IntKind.wrap_u8]; omega
  have KN := fun W => Cm.Req_any C 0 (1 + K % 5) U U W hC (by omega) (by omega) hU hU
  have hcm := Cm.cmd_num (1 + K % 5) U U (by omega) ((Cm.findS s.ses c8).1.num + 1 + (U : Int)) (by omega)
  have hcast : (((1 + K % 5 : Nat) : Nat) : Int) = 1 + k5 := by omega
  unfold Cm.reqOf at KN
  rw [hc8] at KN
  obtain ⟨⟨rk, rn, rm⟩, hcmd⟩ : ∃ m, Cm.cmdOf (1 + K % 5) U U = m := ⟨_, rfl⟩
  rw [hcmd] at KN hcm
  rw [hcast] at KN
  dsimp only at hcm
  have h2 : Cm.applyA s ⟨c8, (Cm.lastM s.memos c8).1.seq + 1, ⟨rk, (Cm.findS s.ses c8).1.num + 1 + (U : Int), rm⟩⟩ = (Cm.keptA s ⟨c8, (Cm.lastM s.memos c8).1.seq + 1, Cm.onlyA 9⟩, Cm.onlyA 9, true) := by
    rw [Cm.apply_new (Cm.next_may hcr (by omega) hcm.1) rfl, Cm.refuse_num hcm.2 (by dsimp only; omega)]
  have h3 : Cm.applyA s ⟨c8, (Cm.lastM s.memos c8).1.seq + 1, ⟨1, 0, []⟩⟩ = (Cm.keptA (Cm.openA s c8).1 ⟨c8, (Cm.lastM s.memos c8).1.seq + 1, (Cm.openA s c8).2⟩, (Cm.openA s c8).2, true) := by
    rw [Cm.apply_new (Cm.open_may _ _ hcr (by omega)) rfl]
    rfl
  have KAP := fun (r : Cm.ReqV) W (y : Cm.StC) (h : Cm.RdSt W y) (e : y.v = s) => by
    have := Cm.DevApply y r W h (by rw [e]; exact hR) (by rw [show y.num = s.num from congrArg Cm.StV.num e]; omega) (by rw [show y.token = s.token from congrArg Cm.StV.token e]; omega)
    rw [e] at this
    exact this
  have K1 := KAP ⟨c8, (Cm.lastM s.memos c8).1.seq + 1, ⟨7 + (K : Int), 0, []⟩⟩
  have K2 := KAP ⟨c8, (Cm.lastM s.memos c8).1.seq + 1, ⟨rk, (Cm.findS s.ses c8).1.num + 1 + (U : Int), rm⟩⟩
  have K3 := KAP ⟨c8, (Cm.lastM s.memos c8).1.seq + 1, ⟨1, 0, []⟩⟩
  rw [h1] at K1
  rw [h2] at K2
  rw [h3] at K3
  obtain ⟨⟨⟨lc, ls, ⟨lk, ln, ld, lh⟩⟩, lb⟩, hlm⟩ : ∃ l, Cm.lastM s.memos c8 = l := ⟨_, rfl⟩
  obtain ⟨⟨⟨fc, fn, fe⟩, fb⟩, hfs⟩ : ∃ l, Cm.findS s.ses c8 = l := ⟨_, rfl⟩
  obtain ⟨⟨OS, ⟨oc, os, oa, oh⟩⟩, hop⟩ : ∃ x, Cm.openA s c8 = x := ⟨_, rfl⟩
  rw [hlm] at K1 K2 K3 hl66 hl0 KL
  rw [hfs] at K2 KF hnum HOP HOF HON
  rw [hop] at K3 HOP HOF HON
  have HRs := Lib.hid hR
  have hk0 : s.locks.length ≤ 4 := hR.good.len
  unfold Cm.reqVal Cm.ReadsAp at K1 K2 K3
  unfold Cm.stVal Cm.onlyA at K1 K2
  unfold Cm.stVal at K3 KM
  unfold Cm.reqVal at KN
  unfold Cm.Found Cm.sesVal at KF
  simp only [show ((0 : Nat) : Int) = 0 from rfl, Int.add_zero] at KN
  dsimp only at K1 K2 K3 KL KF KN hl66 hl0 hnum HOP HOF HON
  simp only [Cm.StC.sv, Cm.StC.kv, Cm.StC.mv, List.length_nil] at K1 K2 K3 KM KL KF
  have hwl : IntKind.i64.wrap (ls + 1) = ls + 1 := by rw [IntKind.wrap_i64]; omega
  have hwf : IntKind.i64.wrap (fn + 1) = fn + 1 := by rw [IntKind.wrap_i64]; omega
  have hwf2 : IntKind.i64.wrap (fn + 1 + (U : Int)) = fn + 1 + (U : Int) := by rw [IntKind.wrap_i64]; omega
  have hbn : bstr [] = ⟨#[]⟩ := rfl
  have KM := Lib.hid KM
  have K1 := Lib.hid K1
  have K2 := Lib.hid K2
  have K3 := Lib.hid K3
  have KL := Lib.hid KL
  have KF := Lib.hid KF
  have KN := Lib.hid KN
  have C0 := Lib.hid (fun W => Cm.awake10_ok W)
  have HNU := Lib.hid hn
  have HK0 := Lib.hid hk0
  have H5 := Lib.hid h5
  clear KAP h1 h2 h3 hlm hfs hop hR hml hcm hcmd hcast hk5 hcl hn ht w0 hk0 h5 hbn hc8
  go_enter Tryz.func9, Tryz.ntmps9
  go_upto_region 1 with fail
  go_upto_region 2 with (go_at_call 30; refine (KM.out w (Below.refl _ _)).mono ?_; rintro e w2 ⟨⟨yt, yn, yk, yS, ya, yc, yK, yka, ykc, yM, yma, ymc⟩, he, hv2, hf2, hb2⟩; simp only [Cm.StC.sv, Cm.StC.kv, Cm.StC.mv] at he; subst he; have HV2 := Lib.hid hv2; have HY2 := Lib.hid (hf2.rd (Cm.RdSt.zero w2)); have HB2 := Lib.hid hb2; clear hv2 hf2 hb2)
  obtain ⟨W3, hW3⟩ : ∃ W3, W3 = w2.alloc (.cells #[.int .i64 yt, .int .i64 yn, .int .i64 yk, .slice ya yS.length yc, .slice yka yK.length ykc, .slice yma yM.length ymc] 28) := ⟨_, rfl⟩
  rw [← hW3]
  have hx3 : Cm.BoxS W3 w2.heap.size ⟨yt, yn, yk, yS, ya, yc, yK, yka, ykc, yM, yma, ymc⟩ := by rw [hW3]; exact Cm.BoxS.new w2 ⟨yt, yn, yk, yS, ya, yc, yK, yka, ykc, yM, yma, ymc⟩ _
  have hb3 : Below w2.heap.size w2 W3 := by rw [hW3]; exact newAlloc _ _
  obtain ⟨b, hb⟩ : ∃ b, w2.heap.size = b := ⟨_, rfl⟩
  have HY3 := Lib.hid (HY2.out.later hb3)
  have HB3 := Lib.hid (step HB2.out hb3)
  rw [hb] at hx3 ⊢
  have HX3 := Lib.hid hx3
  clear hW3 hb hx3 hb3 HY2 HB2 KM
  obtain ⟨c0, c1, c2, c3, c4, c5, cf⟩ := HX3.out
  simp only [Cm.StC.sv, Cm.StC.kv, Cm.StC.mv] at c0 c1 c2 c3 c4 c5
  have KF3 := Lib.hid (KF.out W3 _ HY3.out HV2.out)
  simp only [Cm.StC.sv, Cm.StC.kv, Cm.StC.mv] at KF3
  go_upto_region 3 with fail
  go_upto_region 4 with (go_at_call 32; refine KF3.out.mono ?_; rintro e w4 ⟨rfl, hb4⟩; have HB4 := Lib.hid hb4; clear hb4)
  obtain ⟨W5, hW5⟩ : ∃ W5, W5 = w4.alloc (.cells #[.int .i64 fc, .int .i64 fn, .int .i64 fe] 56) := ⟨_, rfl⟩
  have hb5 : Below w4.heap.size w4 W5 := by rw [hW5]; exact newAlloc _ _
  have hs5 : W5.cell? ⟨w4.heap.size, 1, none⟩ = some (.int .i64 fn) := by rw [hW5]; simp [go_sem]
  rw [← hW5]
  obtain ⟨bs, hbs⟩ : ∃ bs, w4.heap.size = bs := ⟨_, rfl⟩
  have HB35 := Lib.hid (step HB4.out hb5)
  rw [hbs] at hs5 ⊢
  have HS5 := Lib.hid hs5
  clear hW5 hbs hs5 hb5 HB4 KF3 KF c0 c1 c2 c3 c4 c5 cf
  have HX5 := Lib.hid (HX3.out.later HB35.out)
  have HY5 := Lib.hid (HY3.out.later HB35.out)
  obtain ⟨c0, c1, c2, c3, c4, c5, cf⟩ := HX5.out
  simp only [Cm.StC.sv, Cm.StC.kv, Cm.StC.mv] at c0 c1 c2 c3 c4 c5
  have KL5 := Lib.hid (KL.out W5 _ HY5.out HV2.out)
  simp only [Cm.StC.sv, Cm.StC.kv, Cm.StC.mv] at KL5
  go_upto_region 5 with (go_at_call 34; refine KL5.out.mono ?_; rintro e w6 ⟨la, lp, rfl, hr6, hb6⟩; have HB6 := Lib.hid hb6; clear hr6 hb6)
  obtain ⟨W7, hW7⟩ : ∃ W7, W7 = w6.alloc (.cells #[.int .i64 lc, .int .i64 ls, .int .i64 lk, .int .i64 ln, .int .i64 ld, .slice la lh.length lp] 61) := ⟨_, rfl⟩
  have hb7 : Below w6.heap.size w6 W7 := by rw [hW7]; exact newAlloc _ _
  have hm7 : W7.cell? ⟨w6.heap.size, 1, none⟩ = some (.int .i64 ls) := by rw [hW7]; exact (Cm.box6 (Below.refl _ _)).2.1
  rw [← hW7]
  obtain ⟨bm, hbm⟩ : ∃ bm, w6.heap.size = bm := ⟨_, rfl⟩
  have HB57 := Lib.hid (step HB6.out hb7)
  rw [hbm] at hm7 ⊢
  have HM7 := Lib.hid hm7
  clear hW7 hbm hm7 hb7 HB6 KL5 KL c0 c1 c2 c3 c4 c5 cf
  have HX7 := Lib.hid (HX5.out.later HB57.out)
  have HY7 := Lib.hid (HY5.out.later HB57.out)
  have HS7 := Lib.hid ((HB57.out.cell (lt_of_cell HS5.out)).trans HS5.out)
  have HB7 := Lib.hid (step HB3.out (step HB35.out HB57.out))
  clear HX3 HX5 HY3 HY5 HS5 HB3 HB35 HB57
  obtain ⟨c0, c1, c2, c3, c4, c5, cf⟩ := HX7.out.later (Below.refl _ _)
  simp only [Cm.StC.sv, Cm.StC.kv, Cm.StC.mv] at c0 c1 c2 c3 c4 c5
  have m1 := (((Below.refl _ _)).cell (lt_of_cell HM7.out)).trans HM7.out
  have KA7 := Lib.hid (K1.out W7 _ HY7.out HV2.out)
  simp only [Cm.StC.sv, Cm.StC.kv, Cm.StC.mv] at KA7
  go_upto_region 6 with (go_at_call 23; refine KA7.out.mono ?_; rintro e w8 ⟨⟨gt, gn, gk, gS, ga, gc, gK, gka, gkc, gM, gma, gmc⟩, gh, gp, he, hv8, hr8, hh8, hb8⟩; simp only [Cm.StC.sv, Cm.StC.kv, Cm.StC.mv] at he; subst he; have HV8 := Lib.hid hv8; have HR8 := Lib.hid hr8; have HH8 := Lib.hid hh8; have HB8 := Lib.hid hb8; clear hv8 hr8 hh8 hb8)
  have hbx8 := Cm.two_boxes w8 ⟨gt, gn, gk, gS, ga, gc, gK, gka, gkc, gM, gma, gmc⟩ ⟨1, 0, 0, []⟩ (.slice gh 0 gp) 28 44 (b := w8.heap.size) rfl
  simp only [Cm.StC.sv, Cm.StC.kv, Cm.StC.mv] at hbx8
  obtain ⟨W8, hW8⟩ : ∃ W8, W8 = (w8.alloc (.cells #[.int .i64 gt, .int .i64 gn, .int .i64 gk, .slice ga gS.length gc, .slice gka gK.length gkc, .slice gma gM.length gmc] 28)).alloc (.cells #[.int .i64 1, .int .i64 0, .int .i64 0, .slice gh 0 gp] 44) := ⟨_, rfl⟩
  rw [← hW8] at hbx8 ⊢
  obtain ⟨t8, ht8⟩ : ∃ t, w8.heap.size = t := ⟨_, rfl⟩
  have HZ8 := Lib.hid (HR8.out.later hbx8.2.2)
  have HG8 := Lib.hid (HH8.out.later hbx8.2.2)
  have HC8 : Hid (Below W7.heap.size W7 W8) := Lib.hid (step HB8.out hbx8.2.2)
  have HRX8 : Hid (∀ V, Below t8 w8 V → Cm.RdSt V ⟨gt, gn, gk, gS, ga, gc, gK, gka, gkc, gM, gma, gmc⟩) := Lib.hid (by rw [← ht8]; exact fun V hb => HR8.out.later hb)
  have HBX8 : Hid (Below t8 w8 W8) := Lib.hid (by rw [← ht8]; exact hbx8.2.2)
  have hst8 : W7.heap.size ≤ t8 := by rw [← ht8]; exact HB8.out.size
  rw [ht8] at hbx8 ⊢
  have HX8 := Lib.hid hbx8.1
  have HP8 := Lib.hid hbx8.2.1
  have HHX8 : Hid (∀ V, Below t8 w8 V → Cm.RdH V (.slice gh 0 gp) []) := Lib.hid (by rw [← ht8]; exact fun V hb => HH8.out.later hb)
  clear hW8 ht8 hbx8 HB8 HR8 HH8
  clear c0 c1 c2 c3 c4 c5 cf m1 KA7 K1
  obtain ⟨c0, c1, c2, c3, c4, c5, cf⟩ := HX7.out.later HC8.out
  simp only [Cm.StC.sv, Cm.StC.kv, Cm.StC.mv] at c0 c1 c2 c3 c4 c5
  obtain ⟨d0, d1, d2, d3, d4, d5, df⟩ := HX8.out
  simp only [Cm.StC.sv, Cm.StC.kv, Cm.StC.mv] at d0 d1 d2 d3 d4 d5
  obtain ⟨p0, p1, p2, p3⟩ := HP8.out
  try dsimp only at p0 p1 p2 p3
  have KS8 := Lib.hid (Cm.same_states _ _ W8 HZ8.out (HY7.out.later HC8.out) (HV8.out.trans HV2.out.symm))
  unfold Cm.stVal at KS8
  simp only [Cm.StC.sv, Cm.StC.kv, Cm.StC.mv] at KS8
  go_upto_region 8 with (go_at_call 18; refine KS8.out.mono ?_; rintro e w9 ⟨rfl, hb9⟩; have HB9 := Lib.hid (step HC8.out hb9); clear hb9)
  clear KS8 d0 d1 d2 d3 d4 d5 df p0 p1 p2 p3 HX8 HP8 HZ8 HG8 HC8 HV8 c0 c1 c2 c3 c4 c5 cf
  go_upto_region 9 with (go_at_call 40; refine (KN.out w9).mono ?_; rintro e w10 ⟨rfl, hb10⟩; have HB10 := Lib.hid (step HB9.out hb10); clear hb10)
  obtain ⟨W11, hW11⟩ : ∃ W11, W11 = w10.alloc (.cells #[.int .i64 c8, .int .i64 (1), .int .i64 rk, .int .i64 rn, .string (bstr rm)] 39) := ⟨_, rfl⟩
  have hq11 : Cm.BoxQ W11 w10.heap.size ⟨c8, 1, ⟨rk, rn, rm⟩⟩ := by rw [hW11]; exact Cm.BoxQ.new w10 ⟨c8, 1, ⟨rk, rn, rm⟩⟩ _
  have hb11 : Below w10.heap.size w10 W11 := by rw [hW11]; exact newAlloc _ _
  rw [← hW11]
  obtain ⟨q, hq⟩ : ∃ q, w10.heap.size = q := ⟨_, rfl⟩
  have hqb : W7.heap.size ≤ q := by rw [← hq]; exact HB10.out.size
  have HB11 := Lib.hid (step HB10.out hb11)
  rw [hq] at hq11 ⊢
  have HQ11 := Lib.hid hq11
  clear hW11 hq hq11 hb11 HB10 KN
  have m1 := ((HB11.out).cell (lt_of_cell HM7.out)).trans HM7.out
  obtain ⟨⟨q0, q1, q2, q3, q4⟩, qf⟩ := HQ11.out
  dsimp only at q0 q1 q2 q3 q4
  go_upto_region 10 with fail
  obtain ⟨W12, hW12⟩ : ∃ W12, W12 = W11.setCell ⟨q, 1, none⟩ (.int .i64 (ls + 1)) := ⟨_, rfl⟩
  have hq12 : Cm.BoxQ W12 q ⟨c8, ls + 1, ⟨rk, rn, rm⟩⟩ := by rw [hW12]; exact HQ11.out.set1 (ls + 1)
  have hb12 : Below W7.heap.size W7 W12 := by rw [hW12]; exact HB11.out.setCell hqb _
  rw [← hW12]
  have HQ12 := Lib.hid hq12
  have HB12 := Lib.hid hb12
  clear hW12 hq12 hb12 q0 q1 q2 q3 q4 qf m1 HQ11 HB11
  obtain ⟨⟨q0, q1, q2, q3, q4⟩, qf⟩ := HQ12.out
  dsimp only at q0 q1 q2 q3 q4
  have x1 := ((HB12.out).cell (lt_of_cell HS7.out)).trans HS7.out
  go_upto_region 11 with fail
  obtain ⟨W13, hW13⟩ : ∃ W13, W13 = W12.setCell ⟨q, 3, none⟩ (.int .i64 (fn + 1 + (U : Int))) := ⟨_, rfl⟩
  have hq13 : Cm.BoxQ W13 q ⟨c8, ls + 1, ⟨rk, fn + 1 + (U : Int), rm⟩⟩ := by rw [hW13]; exact HQ12.out.set3 (fn + 1 + (U : Int))
  have hb13 : Below W7.heap.size W7 W13 := by rw [hW13]; exact HB12.out.setCell hqb _
  rw [← hW13]
  have HQ13 := Lib.hid hq13
  have HB13 := Lib.hid hb13
  clear hW13 hq13 hb13 q0 q1 q2 q3 q4 qf x1 HQ12 HB12
  obtain ⟨⟨q0, q1, q2, q3, q4⟩, qf⟩ := HQ13.out
  dsimp only at q0 q1 q2 q3 q4
  obtain ⟨c0, c1, c2, c3, c4, c5, cf⟩ := HX7.out.later HB13.out
  simp only [Cm.StC.sv, Cm.StC.kv, Cm.StC.mv] at c0 c1 c2 c3 c4 c5
  have KA13 := Lib.hid (K2.out W13 _ (HY7.out.later HB13.out) HV2.out)
  simp only [Cm.StC.sv, Cm.StC.kv, Cm.StC.mv] at KA13
  go_upto_region 12 with (go_at_call 23; refine KA13.out.mono ?_; rintro e w14 ⟨⟨ht, hn, hk, hS, ha, hc, hK, hka, hkc, hM, hma, hmc⟩, hh, hp, he, hv14, hr14, hh14, hb14⟩; simp only [Cm.StC.sv, Cm.StC.kv, Cm.StC.mv] at he; subst he; have HV14 := Lib.hid hv14; have HR14 := Lib.hid hr14; have HH14 := Lib.hid hh14; have HB14 := Lib.hid hb14; clear hv14 hr14 hh14 hb14)
  have hbx14 := Cm.two_boxes w14 ⟨ht, hn, hk, hS, ha, hc, hK, hka, hkc, hM, hma, hmc⟩ ⟨9, 0, 0, []⟩ (.slice hh 0 hp) 28 44 (b := w14.heap.size) rfl
  simp only [Cm.StC.sv, Cm.StC.kv, Cm.StC.mv] at hbx14
  obtain ⟨W14, hW14⟩ : ∃ W14, W14 = (w14.alloc (.cells #[.int .i64 ht, .int .i64 hn, .int .i64 hk, .slice ha hS.length hc, .slice hka hK.length hkc, .slice hma hM.length hmc] 28)).alloc (.cells #[.int .i64 9, .int .i64 0, .int .i64 0, .slice hh 0 hp] 44) := ⟨_, rfl⟩
  rw [← hW14] at hbx14 ⊢
  obtain ⟨t14, ht14⟩ : ∃ t, w14.heap.size = t := ⟨_, rfl⟩
  have HZ14 := Lib.hid (HR14.out.later hbx14.2.2)
  have HG14 := Lib.hid (HH14.out.later hbx14.2.2)
  have HC14 : Hid (Below W13.heap.size W13 W14) := Lib.hid (step HB14.out hbx14.2.2)
  have HRX14 : Hid (∀ V, Below t14 w14 V → Cm.RdSt V ⟨ht, hn, hk, hS, ha, hc, hK, hka, hkc, hM, hma, hmc⟩) := Lib.hid (by rw [← ht14]; exact fun V hb => HR14.out.later hb)
  have HBX14 : Hid (Below t14 w14 W14) := Lib.hid (by rw [← ht14]; exact hbx14.2.2)
  have hst14 : W13.heap.size ≤ t14 := by rw [← ht14]; exact HB14.out.size
  rw [ht14] at hbx14 ⊢
  have HX14 := Lib.hid hbx14.1
  have HP14 := Lib.hid hbx14.2.1
  have HHX14 : Hid (∀ V, Below t14 w14 V → Cm.RdH V (.slice hh 0 hp) []) := Lib.hid (by rw [← ht14]; exact fun V hb => HH14.out.later hb)
  clear hW14 ht14 hbx14 HB14 HR14 HH14
  clear c0 c1 c2 c3 c4 c5 cf q0 q1 q2 q3 q4 qf KA13 K2 HQ13
  have HB14 := Lib.hid (step HB13.out HC14.out)
  obtain ⟨c0, c1, c2, c3, c4, c5, cf⟩ := HX7.out.later HB14.out
  simp only [Cm.StC.sv, Cm.StC.kv, Cm.StC.mv] at c0 c1 c2 c3 c4 c5
  obtain ⟨d0, d1, d2, d3, d4, d5, df⟩ := HX14.out
  simp only [Cm.StC.sv, Cm.StC.kv, Cm.StC.mv] at d0 d1 d2 d3 d4 d5
  go_upto_region 13 with fail
  obtain ⟨W15, hW15⟩ : ∃ W15, W15 = W14.setCell ⟨t14, 5, none⟩ (.slice yma yM.length ymc) := ⟨_, rfl⟩
  have hx15 : Cm.BoxS W15 t14 ⟨ht, hn, hk, hS, ha, hc, hK, hka, hkc, yM, yma, ymc⟩ := by rw [hW15]; exact HX14.out.set5 yM yma ymc
  have hb15 : Below W7.heap.size W7 W15 := by rw [hW15]; exact HB14.out.setCell (show W7.heap.size ≤ t14 from Nat.le_trans HB13.out.size hst14) _
  have hp15 : Cm.BoxP W15 (t14 + 1) ⟨9, 0, 0, []⟩ (.slice hh 0 hp) := by rw [hW15]; exact HP14.out.other (by show t14 ≠ t14 + 1; omega) _ _
  rw [← hW15]
  have HX15 := Lib.hid hx15
  have HP15 := Lib.hid hp15
  have HB15 := Lib.hid hb15
  have HZ15 : Hid (Cm.RdSt W15 ⟨ht, hn, hk, hS, ha, hc, hK, hka, hkc, yM, yma, ymc⟩) := Lib.hid (by
    have q := HRX14.out W15 (by rw [hW15]; exact HBX14.out.setCell (Nat.le_refl _) _)
    exact ⟨q.s, q.k, (HY7.out.later hb15).m⟩)
  clear hW15 hx15 hb15 hp15 c0 c1 c2 c3 c4 c5 cf d0 d1 d2 d3 d4 d5 df HX14 HP14 HC14 HB14

  obtain ⟨c0, c1, c2, c3, c4, c5, cf⟩ := HX7.out.later HB15.out
  simp only [Cm.StC.sv, Cm.StC.kv, Cm.StC.mv] at c0 c1 c2 c3 c4 c5
  obtain ⟨d0, d1, d2, d3, d4, d5, df⟩ := HX15.out
  simp only [Cm.StC.sv, Cm.StC.kv, Cm.StC.mv] at d0 d1 d2 d3 d4 d5
  obtain ⟨p0, p1, p2, p3⟩ := HP15.out
  try dsimp only at p0 p1 p2 p3
  have KS15 := Lib.hid (Cm.same_states _ _ W15 HZ15.out (HY7.out.later HB15.out) ((Cm.v_back HV14.out HV2.out).trans HV2.out.symm))
  unfold Cm.stVal at KS15
  simp only [Cm.StC.sv, Cm.StC.kv, Cm.StC.mv] at KS15
  go_upto_region 15 with (go_at_call 18; refine KS15.out.mono ?_; rintro e w16 ⟨rfl, hb16⟩; have HB16 := Lib.hid (step HB15.out hb16); clear hb16)
  clear KS15 d0 d1 d2 d3 d4 d5 df p0 p1 p2 p3 HX15 HP15 HZ15 HV14 HB15 HRX14 HBX14 hst14 c0 c1 c2 c3 c4 c5 cf
  obtain ⟨c0, c1, c2, c3, c4, c5, cf⟩ := HX7.out.later HB16.out
  simp only [Cm.StC.sv, Cm.StC.kv, Cm.StC.mv] at c0 c1 c2 c3 c4 c5
  have m1 := ((HB16.out).cell (lt_of_cell HM7.out)).trans HM7.out
  have KA16 := Lib.hid (K3.out w16 _ (HY7.out.later HB16.out) HV2.out)
  simp only [Cm.StC.sv, Cm.StC.kv, Cm.StC.mv] at KA16
  go_upto_region 16 with (go_at_call 23; refine KA16.out.mono ?_; rintro e w17 ⟨⟨dt, dn, dk, dS, da, dc, dK, dka, dkc, dM, dma, dmc⟩, dh, dp, he, hv17, hr17, hh17, hb17⟩; simp only [Cm.StC.sv, Cm.StC.kv, Cm.StC.mv] at he; subst he; have HV17 := Lib.hid hv17; have HR17 := Lib.hid hr17; have HH17 := Lib.hid hh17; have HB17 := Lib.hid hb17; clear hv17 hr17 hh17 hb17)
  have hbx17 := Cm.two_boxes w17 ⟨dt, dn, dk, dS, da, dc, dK, dka, dkc, dM, dma, dmc⟩ ⟨oc, os, oa, []⟩ (.slice dh oh.length dp) 28 44 (b := w17.heap.size) rfl
  simp only [Cm.StC.sv, Cm.StC.kv, Cm.StC.mv] at hbx17
  obtain ⟨W17, hW17⟩ : ∃ W17, W17 = (w17.alloc (.cells #[.int .i64 dt, .int .i64 dn, .int .i64 dk, .slice da dS.length dc, .slice dka dK.length dkc, .slice dma dM.length dmc] 28)).alloc (.cells #[.int .i64 oc, .int .i64 os, .int .i64 oa, .slice dh oh.length dp] 44) := ⟨_, rfl⟩
  rw [← hW17] at hbx17 ⊢
  obtain ⟨t17, ht17⟩ : ∃ t, w17.heap.size = t := ⟨_, rfl⟩
  have HZ17 := Lib.hid (HR17.out.later hbx17.2.2)
  have HG17 := Lib.hid (HH17.out.later hbx17.2.2)
  have HC17 : Hid (Below w16.heap.size w16 W17) := Lib.hid (step HB17.out hbx17.2.2)
  have HRX17 : Hid (∀ V, Below t17 w17 V → Cm.RdSt V ⟨dt, dn, dk, dS, da, dc, dK, dka, dkc, dM, dma, dmc⟩) := Lib.hid (by rw [← ht17]; exact fun V hb => HR17.out.later hb)
  have HBX17 : Hid (Below t17 w17 W17) := Lib.hid (by rw [← ht17]; exact hbx17.2.2)
  have hst17 : w16.heap.size ≤ t17 := by rw [← ht17]; exact HB17.out.size
  rw [ht17] at hbx17 ⊢
  have HX17 := Lib.hid hbx17.1
  have HP17 := Lib.hid hbx17.2.1
  have HHX17 : Hid (∀ V, Below t17 w17 V → Cm.RdH V (.slice dh oh.length dp) oh) := Lib.hid (by rw [← ht17]; exact fun V hb => HH17.out.later hb)
  clear hW17 ht17 hbx17 HB17 HR17 HH17
  clear c0 c1 c2 c3 c4 c5 cf m1 KA16 K3
  have HB17 := Lib.hid (step HB16.out HC17.out)
  have HLS : Hid (yS = s.ses) := Lib.hid (congrArg Cm.StV.ses HV2.out)
  have HLK : Hid (Cm.vals yK = s.locks) := Lib.hid (congrArg Cm.StV.locks HV2.out)
  have HLN : Hid (yn = s.num) := Lib.hid (congrArg Cm.StV.num HV2.out)
  cases fb with
  | true =>
    have hop := HOP.out rfl
    obtain ⟨rfl, hop2⟩ : OS = s ∧ (⟨oc, os, oa, oh⟩ : Cm.ReplyV) = ⟨7, fn, 0, Cm.heldK s.locks c8⟩ := by injection hop with q1 q2; exact ⟨q1, q2⟩
    obtain ⟨rfl, rfl, rfl, hoh⟩ : oc = 7 ∧ os = fn ∧ oa = 0 ∧ oh = Cm.heldK OS.locks c8 := by injection hop2 with q1 q2 q3 q4; exact ⟨q1, q2, q3, q4⟩
    have HOH := Lib.hid hoh
    clear hop hop2 hoh
    go_upto_region 17 with fail
    obtain ⟨c0, c1, c2, c3, c4, c5, cf⟩ := HX7.out.later HB17.out
    simp only [Cm.StC.sv, Cm.StC.kv, Cm.StC.mv] at c0 c1 c2 c3 c4 c5
    obtain ⟨d0, d1, d2, d3, d4, d5, df⟩ := HX17.out
    simp only [Cm.StC.sv, Cm.StC.kv, Cm.StC.mv] at d0 d1 d2 d3 d4 d5
    go_upto_region 18 with fail
    obtain ⟨W18, hW18⟩ : ∃ W18, W18 = W17.setCell ⟨t17, 5, none⟩ (.slice yma yM.length ymc) := ⟨_, rfl⟩
    have hx18 : Cm.BoxS W18 t17 ⟨dt, dn, dk, dS, da, dc, dK, dka, dkc, yM, yma, ymc⟩ := by rw [hW18]; exact HX17.out.set5 yM yma ymc
    have hb18 : Below W7.heap.size W7 W18 := by rw [hW18]; exact HB17.out.setCell (show W7.heap.size ≤ t17 from Nat.le_trans HB16.out.size hst17) _
    have hp18 : Cm.BoxP W18 (t17 + 1) ⟨7, os, 0, []⟩ (.slice dh oh.length dp) := by rw [hW18]; exact HP17.out.other (by show t17 ≠ t17 + 1; omega) _ _
    have HZ18 : Hid (Cm.RdSt W18 ⟨dt, dn, dk, dS, da, dc, dK, dka, dkc, yM, yma, ymc⟩) := Lib.hid (by
      have q := HRX17.out W18 (by rw [hW18]; exact HBX17.out.setCell (Nat.le_refl _) _)
      exact ⟨q.s, q.k, (HY7.out.later hb18).m⟩)
    have hh18 : Cm.RdH W18 (.slice dh oh.length dp) oh := by rw [hW18]; exact HHX17.out _ (HBX17.out.setCell (Nat.le_refl _) _)
    rw [← hW18]
    have HX18 := Lib.hid hx18
    have HP18 := Lib.hid hp18
    have HB18 := Lib.hid hb18
    have HH18 := Lib.hid hh18
    clear hW18 hx18 hb18 hp18 hh18 c0 c1 c2 c3 c4 c5 cf d0 d1 d2 d3 d4 d5 df
    have KH := Lib.hid (fun W (hb : Below W18.heap.size W18 W) => Cm.Held_any (.slice yka yK.length ykc) yK c8 W ((HY7.out.later HB18.out).later hb).k.row (by have := HK0.out; rw [← HLK.out, Cm.vals_length] at this; omega))
    rw [HLK.out, ← HOH.out] at KH
    have KG := Lib.hid (fun (u v : Value) W (h : Cm.RdH W u oh) (h2 : Cm.RdH W v oh) => by
      have := Cm.SameGrants_any u v oh oh W h h2
      rw [(Cm.sameH_iff _ _).2 rfl] at this
      exact this)
    have KS := Lib.hid (fun W (hb : Below W18.heap.size W18 W) => Cm.same_states _ _ W (HZ18.out.later hb) ((HY7.out.later HB18.out).later hb) ((Cm.v_back HV17.out HV2.out).trans HV2.out.symm))
    unfold Cm.stVal at KS
    simp only [Cm.StC.sv, Cm.StC.kv, Cm.StC.mv] at KS
    obtain ⟨c0, c1, c2, c3, c4, c5, cf⟩ := HX7.out.later HB18.out
    simp only [Cm.StC.sv, Cm.StC.kv, Cm.StC.mv] at c0 c1 c2 c3 c4 c5
    have x1 := ((HB18.out).cell (lt_of_cell HS7.out)).trans HS7.out
    obtain ⟨d0, d1, d2, d3, d4, d5, df⟩ := HX18.out
    simp only [Cm.StC.sv, Cm.StC.kv, Cm.StC.mv] at d0 d1 d2 d3 d4 d5
    obtain ⟨p0, p1, p2, p3⟩ := HP18.out
    try dsimp only at p0 p1 p2 p3
    
    have HKP : Hid (∀ W, Below W18.heap.size W18 W → (fun W => (W.cell? ⟨t17, 0, none⟩ = some (.int .i64 dt) ∧ W.cell? ⟨t17, 1, none⟩ = some (.int .i64 dn) ∧ W.cell? ⟨t17, 2, none⟩ = some (.int .i64 dk) ∧ W.cell? ⟨t17, 3, none⟩ = some (.slice da dS.length dc) ∧ W.cell? ⟨t17, 4, none⟩ = some (.slice dka dK.length dkc) ∧ W.cell? ⟨t17, 5, none⟩ = some (.slice yma yM.length ymc)) ∧ (W.cell? ⟨b, 0, none⟩ = some (.int .i64 yt) ∧ W.cell? ⟨b, 1, none⟩ = some (.int .i64 yn) ∧ W.cell? ⟨b, 2, none⟩ = some (.int .i64 yk) ∧ W.cell? ⟨b, 3, none⟩ = some (.slice ya yS.length yc) ∧ W.cell? ⟨b, 4, none⟩ = some (.slice yka yK.length ykc) ∧ W.cell? ⟨b, 5, none⟩ = some (.slice yma yM.length ymc)) ∧ (W.cell? ⟨t17 + 1, 0, none⟩ = some (.int .i64 7) ∧ W.cell? ⟨t17 + 1, 1, none⟩ = some (.int .i64 os) ∧ W.cell? ⟨t17 + 1, 3, none⟩ = some (.slice dh oh.length dp)) ∧ W.cell? ⟨bs, 1, none⟩ = some (.int .i64 os)) W) := Lib.hid fun W hb => by
      have D := HX18.out.later hb
      have Y := HX7.out.later (step HB18.out hb)
      have P := HP18.out.later hb
      exact ⟨⟨D.c0, D.c1, D.c2, D.c3, D.c4, D.c5⟩, ⟨Y.c0, Y.c1, Y.c2, Y.c3, Y.c4, Y.c5⟩, ⟨P.c0, P.c1, P.c3⟩, ((step HB18.out hb).cell (lt_of_cell HS7.out)).trans HS7.out⟩
    clear c0 c1 c2 c3 c4 c5 cf x1 d0 d1 d2 d3 d4 d5 df p0 p1 p2 p3
    refine wp_region_held_drew (S := (fun W => (W.cell? ⟨t17, 0, none⟩ = some (.int .i64 dt) ∧ W.cell? ⟨t17, 1, none⟩ = some (.int .i64 dn) ∧ W.cell? ⟨t17, 2, none⟩ = some (.int .i64 dk) ∧ W.cell? ⟨t17, 3, none⟩ = some (.slice da dS.length dc) ∧ W.cell? ⟨t17, 4, none⟩ = some (.slice dka dK.length dkc) ∧ W.cell? ⟨t17, 5, none⟩ = some (.slice yma yM.length ymc)) ∧ (W.cell? ⟨b, 0, none⟩ = some (.int .i64 yt) ∧ W.cell? ⟨b, 1, none⟩ = some (.int .i64 yn) ∧ W.cell? ⟨b, 2, none⟩ = some (.int .i64 yk) ∧ W.cell? ⟨b, 3, none⟩ = some (.slice ya yS.length yc) ∧ W.cell? ⟨b, 4, none⟩ = some (.slice yka yK.length ykc) ∧ W.cell? ⟨b, 5, none⟩ = some (.slice yma yM.length ymc)) ∧ (W.cell? ⟨t17 + 1, 0, none⟩ = some (.int .i64 7) ∧ W.cell? ⟨t17 + 1, 1, none⟩ = some (.int .i64 os) ∧ W.cell? ⟨t17 + 1, 3, none⟩ = some (.slice dh oh.length dp)) ∧ W.cell? ⟨bs, 1, none⟩ = some (.int .i64 os))) (by kernel_rfl) (HKP.out _ (Below.refl _ W18).drew) (fun hHeld => ?_)
    refine wpAnyH_take (i := 0) (v := ?_) rfl (by kernel_rfl) (by kernel_rfl) (by kernel_rfl) (fun _ _ _ h => h) (Or.inl ⟨by rfl, ?_⟩) (by assumption) ?_
    rotate_left
    · intro w hSw; (try dsimp only at hSw); go_simp <;> with_reducible rfl
    try simp only [Act.put, List.getElem_toArray, List.getElem_cons_zero, List.setIfInBounds_toArray, List.set_cons_zero, List.set_cons_succ]
    refine wpAnyH_take (i := 1) (v := ?_) rfl (by kernel_rfl) (by kernel_rfl) (by kernel_rfl) (fun _ _ _ h => h) (Or.inl ⟨by rfl, ?_⟩) (by assumption) ?_
    rotate_left
    · intro w hSw; (try dsimp only at hSw); go_simp <;> with_reducible rfl
    try simp only [Act.put, List.getElem_toArray, List.getElem_cons_succ, List.getElem_cons_zero, List.setIfInBounds_toArray, List.set_cons_zero, List.set_cons_succ]
    refine wpAnyH_take (i := 2) (v := ?_) rfl (by kernel_rfl) (by kernel_rfl) (by kernel_rfl) (fun _ _ _ h => h) (Or.inl ⟨by rfl, ?_⟩) (by assumption) ?_
    rotate_left
    · intro w hSw; (try dsimp only at hSw); go_simp <;> with_reducible rfl
    try simp only [Act.put, List.getElem_toArray, List.getElem_cons_succ, List.getElem_cons_zero, List.setIfInBounds_toArray, List.set_cons_zero, List.set_cons_succ]
    refine wpAnyH_take (i := 3) (v := ?_) rfl (by kernel_rfl) (by kernel_rfl) (by kernel_rfl) (fun _ _ _ h => h) (Or.inl ⟨by rfl, ?_⟩) (by assumption) ?_
    rotate_left
    · intro w hSw; (try dsimp only at hSw); go_simp <;> with_reducible rfl
    try simp only [Act.put, List.getElem_toArray, List.getElem_cons_succ, List.getElem_cons_zero, List.setIfInBounds_toArray, List.set_cons_zero, List.set_cons_succ]
    refine wpAnyH_take (i := 4) (v := ?_) rfl (by kernel_rfl) (by kernel_rfl) (by kernel_rfl) (fun _ _ _ h => h) (Or.inl ⟨by rfl, ?_⟩) (by assumption) ?_
    rotate_left
    · intro w hSw; (try dsimp only at hSw); go_simp <;> with_reducible rfl
    try simp only [Act.put, List.getElem_toArray, List.getElem_cons_succ, List.getElem_cons_zero, List.setIfInBounds_toArray, List.set_cons_zero, List.set_cons_succ]
    refine wpAnyH_take (i := 5) (v := ?_) rfl (by kernel_rfl) (by kernel_rfl) (by kernel_rfl) (fun _ _ _ h => h) (Or.inl ⟨by rfl, ?_⟩) (by assumption) ?_
    rotate_left
    · intro w hSw; (try dsimp only at hSw); go_simp <;> with_reducible rfl
    try simp only [Act.put, List.getElem_toArray, List.getElem_cons_succ, List.getElem_cons_zero, List.setIfInBounds_toArray, List.set_cons_zero, List.set_cons_succ]
    refine wpAnyH_take (i := 6) (v := ?_) rfl (by kernel_rfl) (by kernel_rfl) (by kernel_rfl) (fun _ _ _ h => h) (Or.inl ⟨by rfl, ?_⟩) (by assumption) ?_
    rotate_left
    · intro w hSw; (try dsimp only at hSw); go_simp <;> with_reducible rfl
    try simp only [Act.put, List.getElem_toArray, List.getElem_cons_succ, List.getElem_cons_zero, List.setIfInBounds_toArray, List.set_cons_zero, List.set_cons_succ]
    refine wpAnyH_take (i := 7) (v := ?_) rfl (by kernel_rfl) (by kernel_rfl) (by kernel_rfl) (fun _ _ _ h => h) (Or.inl ⟨by rfl, ?_⟩) (by assumption) ?_
    rotate_left
    · intro w hSw; (try dsimp only at hSw); go_simp <;> with_reducible rfl
    try simp only [Act.put, List.getElem_toArray, List.getElem_cons_succ, List.getElem_cons_zero, List.setIfInBounds_toArray, List.set_cons_zero, List.set_cons_succ]
    refine wpAnyH_take (i := 8) (v := ?_) rfl (by kernel_rfl) (by kernel_rfl) (by kernel_rfl) (fun _ _ _ h => h) (Or.inl ⟨by rfl, ?_⟩) (by assumption) ?_
    rotate_left
    · intro w hSw; (try dsimp only at hSw); go_simp <;> with_reducible rfl
    try simp only [Act.put, List.getElem_toArray, List.getElem_cons_succ, List.getElem_cons_zero, List.setIfInBounds_toArray, List.set_cons_zero, List.set_cons_succ]
    refine wpAnyH_take (i := 9) (v := ?_) rfl (by kernel_rfl) (by kernel_rfl) (by kernel_rfl) (fun _ _ _ h => h) (Or.inl ⟨by rfl, ?_⟩) (by assumption) ?_
    rotate_left
    · intro w hSw; (try dsimp only at hSw); go_simp <;> with_reducible rfl
    try simp only [Act.put, List.getElem_toArray, List.getElem_cons_succ, List.getElem_cons_zero, List.setIfInBounds_toArray, List.set_cons_zero, List.set_cons_succ]
    refine wpAnyH_take (i := 10) (v := ?_) rfl (by kernel_rfl) (by kernel_rfl) (by kernel_rfl) (fun _ _ _ h => h) (Or.inl ⟨by rfl, ?_⟩) (by assumption) ?_
    rotate_left
    · intro w hSw; (try dsimp only at hSw); go_simp <;> with_reducible rfl
    try simp only [Act.put, List.getElem_toArray, List.getElem_cons_succ, List.getElem_cons_zero, List.setIfInBounds_toArray, List.set_cons_zero, List.set_cons_succ]
    refine wpAnyH_take (i := 11) (v := ?_) rfl (by kernel_rfl) (by kernel_rfl) (by kernel_rfl) (fun _ _ _ h => h) (Or.inl ⟨by rfl, ?_⟩) (by assumption) ?_
    rotate_left
    · intro w hSw; (try dsimp only at hSw); go_simp <;> with_reducible rfl
    try simp only [Act.put, List.getElem_toArray, List.getElem_cons_succ, List.getElem_cons_zero, List.setIfInBounds_toArray, List.set_cons_zero, List.set_cons_succ]
    refine wpAnyH_take (i := 12) (v := ?_) rfl (by kernel_rfl) (by kernel_rfl) (by kernel_rfl) (fun _ _ _ h => h) (Or.inl ⟨by rfl, ?_⟩) (by assumption) ?_
    rotate_left
    · intro w hSw; (try dsimp only at hSw); go_simp <;> with_reducible rfl
    try simp only [Act.put, List.getElem_toArray, List.getElem_cons_succ, List.getElem_cons_zero, List.setIfInBounds_toArray, List.set_cons_zero, List.set_cons_succ]
    refine wpAnyH_take (i := 13) (v := ?_) rfl (by kernel_rfl) (by kernel_rfl) (by kernel_rfl) (fun _ _ _ h => h) (Or.inl ⟨by rfl, ?_⟩) (by assumption) ?_
    rotate_left
    · intro w hSw; (try dsimp only at hSw); go_simp <;> with_reducible rfl
    try simp only [Act.put, List.getElem_toArray, List.getElem_cons_succ, List.getElem_cons_zero, List.setIfInBounds_toArray, List.set_cons_zero, List.set_cons_succ]
    refine wpAnyH_take (i := 14) (v := ?_) rfl (by kernel_rfl) (by kernel_rfl) (by kernel_rfl) (fun _ _ _ h => h) (Or.inl ⟨by rfl, ?_⟩) (by assumption) ?_
    rotate_left
    · intro w hSw; (try dsimp only at hSw); go_simp <;> with_reducible rfl
    try simp only [Act.put, List.getElem_toArray, List.getElem_cons_succ, List.getElem_cons_zero, List.setIfInBounds_toArray, List.set_cons_zero, List.set_cons_succ]
    refine wpAnyH_take (i := 15) (v := ?_) rfl (by kernel_rfl) (by kernel_rfl) (by kernel_rfl) (fun _ _ _ h => h) (Or.inl ⟨by rfl, ?_⟩) (by assumption) ?_
    rotate_left
    · intro w hSw; (try dsimp only at hSw); go_simp <;> with_reducible rfl
    try simp only [Act.put, List.getElem_toArray, List.getElem_cons_succ, List.getElem_cons_zero, List.setIfInBounds_toArray, List.set_cons_zero, List.set_cons_succ]
    refine wpAnyH_take (i := 16) (v := ?_) rfl (by kernel_rfl) (by kernel_rfl) (by kernel_rfl) (fun _ _ _ h => h) (Or.inl ⟨by rfl, ?_⟩) (by assumption) ?_
    rotate_left
    · intro w hSw; (try dsimp only at hSw); go_simp <;> with_reducible rfl
    try simp only [Act.put, List.getElem_toArray, List.getElem_cons_succ, List.getElem_cons_zero, List.setIfInBounds_toArray, List.set_cons_zero, List.set_cons_succ]
    refine wpAnyH_take (i := 17) (v := ?_) rfl (by kernel_rfl) (by kernel_rfl) (by kernel_rfl) (fun _ _ _ h => h) (Or.inl ⟨by rfl, ?_⟩) (by assumption) ?_
    rotate_left
    · intro w hSw; (try dsimp only at hSw); go_simp <;> with_reducible rfl
    try simp only [Act.put, List.getElem_toArray, List.getElem_cons_succ, List.getElem_cons_zero, List.setIfInBounds_toArray, List.set_cons_zero, List.set_cons_succ]
    refine wpAnyH_take (i := 18) (v := ?_) rfl (by kernel_rfl) (by kernel_rfl) (by kernel_rfl) (fun _ _ _ h => h) (Or.inl ⟨by rfl, ?_⟩) (by assumption) ?_
    rotate_left
    · intro w hSw; (try dsimp only at hSw); go_simp <;> with_reducible rfl
    try simp only [Act.put, List.getElem_toArray, List.getElem_cons_succ, List.getElem_cons_zero, List.setIfInBounds_toArray, List.set_cons_zero, List.set_cons_succ]
    refine wpAnyH_ready (rs := [19]) (by kernel_rfl) (by simp) ?_
    refine AllReadyH.cons rfl (fun K hK => ?_) AllReadyH.nil
    go_simp
    go_at_call 33
    refine (KH.out _ (Below.refl _ W18).drew).mono ?_
    rintro e w21 ⟨a21, p21, rfl, hr21, hb21⟩
    have HR21 := Lib.hid hr21
    have HB21 : Hid (Below W18.heap.size W18 w21) := Lib.hid (step (Below.refl W18.heap.size W18).drew hb21)
    clear hb21 hr21
    refine hK.out _ _ (HKP.out _ HB21.out) (fun hHeld => ?_)
    clear hK K
    try simp only [Act.put, List.getElem_toArray, List.getElem_cons_succ, List.getElem_cons_zero, List.setIfInBounds_toArray, List.set_cons_zero, List.set_cons_succ]
    refine wpAnyH_ready (rs := [20]) (by kernel_rfl) (by simp) ?_
    refine AllReadyH.cons rfl (fun K hK => ?_) AllReadyH.nil
    go_simp
    go_at_call 35
    refine (KG.out _ _ w21 (HH18.out.later HB21.out) HR21.out).mono ?_
    rintro e w22 ⟨rfl, hb22⟩
    have HB22 := Lib.hid (step HB21.out hb22)
    clear hb22
    refine hK.out _ _ (HKP.out _ HB22.out) (fun hHeld => ?_)
    clear hK K
    try simp only [Act.put, List.getElem_toArray, List.getElem_cons_succ, List.getElem_cons_zero, List.setIfInBounds_toArray, List.set_cons_zero, List.set_cons_succ]
    refine wpAnyH_take (i := 21) (v := ?_) rfl (by kernel_rfl) (by kernel_rfl) (by kernel_rfl) (fun _ _ _ h => h) (Or.inl ⟨by rfl, ?_⟩) (by assumption) ?_
    rotate_left
    · intro w hSw; (try dsimp only at hSw); go_simp <;> with_reducible rfl
    try simp only [Act.put, List.getElem_toArray, List.getElem_cons_succ, List.getElem_cons_zero, List.setIfInBounds_toArray, List.set_cons_zero, List.set_cons_succ]
    refine wpAnyH_take (i := 22) (v := ?_) rfl (by kernel_rfl) (by kernel_rfl) (by kernel_rfl) (fun _ _ _ h => h) (Or.inl ⟨by rfl, ?_⟩) (by assumption) ?_
    rotate_left
    · intro w hSw; (try dsimp only at hSw); go_simp <;> with_reducible rfl
    try simp only [Act.put, List.getElem_toArray, List.getElem_cons_succ, List.getElem_cons_zero, List.setIfInBounds_toArray, List.set_cons_zero, List.set_cons_succ]
    refine wpAnyH_take (i := 23) (v := ?_) rfl (by kernel_rfl) (by kernel_rfl) (by kernel_rfl) (fun _ _ _ h => h) (Or.inl ⟨by rfl, ?_⟩) (by assumption) ?_
    rotate_left
    · intro w hSw; (try dsimp only at hSw); go_simp <;> with_reducible rfl
    try simp only [Act.put, List.getElem_toArray, List.getElem_cons_succ, List.getElem_cons_zero, List.setIfInBounds_toArray, List.set_cons_zero, List.set_cons_succ]
    refine wpAnyH_take (i := 24) (v := ?_) rfl (by kernel_rfl) (by kernel_rfl) (by kernel_rfl) (fun _ _ _ h => h) (Or.inl ⟨by rfl, ?_⟩) (by assumption) ?_
    rotate_left
    · intro w hSw; (try dsimp only at hSw); go_simp <;> with_reducible rfl
    try simp only [Act.put, List.getElem_toArray, List.getElem_cons_succ, List.getElem_cons_zero, List.setIfInBounds_toArray, List.set_cons_zero, List.set_cons_succ]
    refine wpAnyH_ready (rs := [25]) (by kernel_rfl) (by simp) ?_
    refine AllReadyH.cons rfl (fun K hK => ?_) AllReadyH.nil
    go_simp
    go_at_call 18
    refine (KS.out w22 HB22.out).mono ?_
    rintro e w23 ⟨rfl, hb23⟩
    have HB23 := Lib.hid (step HB22.out hb23)
    clear hb23
    refine hK.out _ _ (HKP.out _ HB23.out) (fun hHeld => ?_)
    clear hK K
    try simp only [Act.put, List.getElem_toArray, List.getElem_cons_succ, List.getElem_cons_zero, List.setIfInBounds_toArray, List.set_cons_zero, List.set_cons_succ]
    refine wpAnyH_take (i := 26) (v := ?_) rfl (by kernel_rfl) (by kernel_rfl) (by kernel_rfl) (fun _ _ _ h => h) (Or.inl ⟨by rfl, ?_⟩) (by assumption) ?_
    rotate_left
    · intro w hSw; (try dsimp only at hSw); go_simp <;> with_reducible rfl
    try simp only [Act.put, List.getElem_toArray, List.getElem_cons_succ, List.getElem_cons_zero, List.setIfInBounds_toArray, List.set_cons_zero, List.set_cons_succ]
    refine wpAnyH_take (i := 27) (v := ?_) rfl (by kernel_rfl) (by kernel_rfl) (by kernel_rfl) (fun _ _ _ h => h) (Or.inl ⟨by rfl, ?_⟩) (by assumption) ?_
    rotate_left
    · intro w hSw; (try dsimp only at hSw); go_simp <;> with_reducible rfl
    try simp only [Act.put, List.getElem_toArray, List.getElem_cons_succ, List.getElem_cons_zero, List.setIfInBounds_toArray, List.set_cons_zero, List.set_cons_succ]
    refine wpAnyH_ready (rs := [28]) (by kernel_rfl) (by simp) ?_
    refine AllReadyH.cons rfl (fun K hK => ?_) AllReadyH.nil
    go_simp
    go_at_call 15
    refine (C0.out w23).mono ?_
    rintro e w24 ⟨rfl, hb24⟩
    have HB24 := Lib.hid (step HB23.out hb24)
    clear hb24
    refine hK.out _ _ (HKP.out _ HB24.out) (fun hHeld => ?_)
    clear hK K
    try simp only [Act.put, List.getElem_toArray, List.getElem_cons_succ, List.getElem_cons_zero, List.setIfInBounds_toArray, List.set_cons_zero, List.set_cons_succ]
    refine wpAnyH_take (i := 29) (v := ?_) rfl (by kernel_rfl) (by kernel_rfl) (by kernel_rfl) (fun _ _ _ h => h) (Or.inl ⟨by rfl, ?_⟩) (by assumption) ?_
    rotate_left
    · intro w hSw; (try dsimp only at hSw); go_simp <;> with_reducible rfl
    try simp only [Act.put, List.getElem_toArray, List.getElem_cons_succ, List.getElem_cons_zero, List.setIfInBounds_toArray, List.set_cons_zero, List.set_cons_succ]
    refine wpAnyH_take (i := 30) (v := ?_) rfl (by kernel_rfl) (by kernel_rfl) (by kernel_rfl) (fun _ _ _ h => h) (Or.inl ⟨by rfl, ?_⟩) (by assumption) ?_
    rotate_left
    · intro w hSw; (try dsimp only at hSw); go_simp <;> with_reducible rfl
    try simp only [Act.put, List.getElem_toArray, List.getElem_cons_succ, List.getElem_cons_zero, List.setIfInBounds_toArray, List.set_cons_zero, List.set_cons_succ]
    refine wpAnyH_done (by kernel_rfl) ?_ _
    go_wp2
    go_ret
    exact ⟨rfl, step HB7.out (step HB18.out HB24.out)⟩
  | false =>
    have hfx := HON.out rfl
    by_cases h5e : yS.length = 5
    · have hof := HOF.out rfl (by rw [← HLS.out]; omega)
      obtain ⟨rfl, hof2⟩ : OS = s ∧ (⟨oc, os, oa, oh⟩ : Cm.ReplyV) = ⟨5, 0, 0, []⟩ := by injection hof with q1 q2; exact ⟨q1, q2⟩
      obtain ⟨rfl, rfl, rfl, rfl⟩ : oc = 5 ∧ os = 0 ∧ oa = 0 ∧ oh = [] := by injection hof2 with q1 q2 q3 q4; exact ⟨q1, q2, q3, q4⟩
      have t5 : decide (((yS.length : Nat) : Int) = 5) = true := decide_eq_true (by omega)
      have t6 : (((yS.length : Nat) : Int) == 5) = true := by rw [beq_iff_eq]; omega
      have t7 : (yS.length == 5) = true := by rw [beq_iff_eq]; omega
      have u8 : decide (yS.length = 5) = true := decide_eq_true h5e
      clear hof hof2 hfx h5e
      obtain ⟨c0, c1, c2, c3, c4, c5, cf⟩ := HX7.out.later HB17.out
      simp only [Cm.StC.sv, Cm.StC.kv, Cm.StC.mv] at c0 c1 c2 c3 c4 c5
      go_upto_region 20 with fail
      clear c0 c1 c2 c3 c4 c5 cf
      obtain ⟨c0, c1, c2, c3, c4, c5, cf⟩ := HX7.out.later HB17.out
      simp only [Cm.StC.sv, Cm.StC.kv, Cm.StC.mv] at c0 c1 c2 c3 c4 c5
      obtain ⟨d0, d1, d2, d3, d4, d5, df⟩ := HX17.out
      simp only [Cm.StC.sv, Cm.StC.kv, Cm.StC.mv] at d0 d1 d2 d3 d4 d5
      go_upto_region 21 with fail
      obtain ⟨W18, hW18⟩ : ∃ W18, W18 = W17.setCell ⟨t17, 5, none⟩ (.slice yma yM.length ymc) := ⟨_, rfl⟩
      have hx18 : Cm.BoxS W18 t17 ⟨dt, dn, dk, dS, da, dc, dK, dka, dkc, yM, yma, ymc⟩ := by rw [hW18]; exact HX17.out.set5 yM yma ymc
      have hb18 : Below W7.heap.size W7 W18 := by rw [hW18]; exact HB17.out.setCell (show W7.heap.size ≤ t17 from Nat.le_trans HB16.out.size hst17) _
      have hp18 : Cm.BoxP W18 (t17 + 1) ⟨5, 0, 0, []⟩ (.slice dh 0 dp) := by rw [hW18]; exact HP17.out.other (by show t17 ≠ t17 + 1; omega) _ _
      have HZ18 : Hid (Cm.RdSt W18 ⟨dt, dn, dk, dS, da, dc, dK, dka, dkc, yM, yma, ymc⟩) := Lib.hid (by
        have q := HRX17.out W18 (by rw [hW18]; exact HBX17.out.setCell (Nat.le_refl _) _)
        exact ⟨q.s, q.k, (HY7.out.later hb18).m⟩)
      have hh18 : Cm.RdH W18 (.slice dh 0 dp) [] := by rw [hW18]; exact HHX17.out _ (HBX17.out.setCell (Nat.le_refl _) _)
      rw [← hW18]
      have HX18 := Lib.hid hx18
      have HP18 := Lib.hid hp18
      have HB18 := Lib.hid hb18
      have HH18 := Lib.hid hh18
      clear hW18 hx18 hb18 hp18 hh18 c0 c1 c2 c3 c4 c5 cf d0 d1 d2 d3 d4 d5 df
      have KS := Lib.hid (Cm.same_states _ _ W18 HZ18.out (HY7.out.later HB18.out) ((Cm.v_back HV17.out HV2.out).trans HV2.out.symm))
      unfold Cm.stVal at KS
      simp only [Cm.StC.sv, Cm.StC.kv, Cm.StC.mv] at KS
      obtain ⟨c0, c1, c2, c3, c4, c5, cf⟩ := HX7.out.later HB18.out
      simp only [Cm.StC.sv, Cm.StC.kv, Cm.StC.mv] at c0 c1 c2 c3 c4 c5
      obtain ⟨d0, d1, d2, d3, d4, d5, df⟩ := HX18.out
      simp only [Cm.StC.sv, Cm.StC.kv, Cm.StC.mv] at d0 d1 d2 d3 d4 d5
      obtain ⟨p0, p1, p2, p3⟩ := HP18.out
      try dsimp only at p0 p1 p2 p3
      go_wp2_with (first | (go_at_call 18; refine KS.out.mono ?_; rintro e w19 ⟨rfl, hb19⟩; have HB19 := Lib.hid (step HB18.out hb19); clear hb19) | (go_at_call 15; refine (C0.out _).mono ?_; rintro e w20 ⟨rfl, hb20⟩))
      go_ret
      exact ⟨rfl, step HB7.out (step HB19.out hb20)⟩
    · have hon := hfx (by rw [← HLS.out]; have := H5.out; rw [← HLS.out] at this; omega)
      obtain ⟨o1, o2, o3, o4⟩ := hon
      try dsimp only at o1 o2 o3 o4
      have t5 : decide (((yS.length : Nat) : Int) = 5) = false := decide_eq_false (by omega)
      have t6 : (((yS.length : Nat) : Int) == 5) = false := by rw [beq_eq_false_iff_ne]; omega
      have t7 : (yS.length == 5) = false := by rw [beq_eq_false_iff_ne]; omega
      have u8 : decide (yS.length = 5) = false := decide_eq_false h5e
      have z1 : dn = yn + 1 := by rw [HLN.out, ← o3]; exact congrArg Cm.StV.num HV17.out
      have z2 : dS.length = yS.length + 1 := by rw [HLS.out, ← o4]; exact congrArg (fun x : Cm.StV => x.ses.length) HV17.out
      have z3 : os = yn + 1 := by rw [HLN.out]; exact o2
      have hwn : IntKind.i64.wrap (yn + 1) = yn + 1 := by have := HNU.out; have := HRs.out.num; rw [IntKind.wrap_i64]; omega
      have hwl5 : IntKind.i64.wrap ((yS.length : Int) + 1) = (yS.length : Int) + 1 := by have := H5.out; rw [← HLS.out] at this; rw [IntKind.wrap_i64]; omega
      subst o1
      clear hfx o2 o3 o4 h5e
      
      obtain ⟨c0, c1, c2, c3, c4, c5, cf⟩ := HX7.out.later HB17.out
      simp only [Cm.StC.sv, Cm.StC.kv, Cm.StC.mv] at c0 c1 c2 c3 c4 c5
      obtain ⟨d0, d1, d2, d3, d4, d5, df⟩ := HX17.out
      simp only [Cm.StC.sv, Cm.StC.kv, Cm.StC.mv] at d0 d1 d2 d3 d4 d5
      obtain ⟨p0, p1, p2, p3⟩ := HP17.out
      try dsimp only at p0 p1 p2 p3
      rw [z2] at d3
      subst z1 z3
      clear z2
      go_wp2_with (go_at_call 15; refine (C0.out _).mono ?_; rintro e w20 ⟨rfl, hb20⟩)
      go_ret
      exact ⟨rfl, step HB7.out (step HB17.out hb20)⟩

/-! ### THE ROW's STEP -/
set_option maxRecDepth 100000 in
theorem lifted (os : Os) (started : os.Started) (H : Type) (enc : TypeId × Value → H) :
    ReturnsInHanded {} Tryz.checked os 9 .any (Rows.autoRefusesSpec.pre6 enc Tryz.prog Tryz.f9 Rows.autoRefusesRow.domain false) (Rows.autoRefusesSpec.post enc Tryz.prog Tryz.f9 false true false false) := by
  refine returnsInHanded_of_change (C := Tryz.checked) own started (by kernel_rfl) Tryz.func9
    (ChangeSpec.witness6 (enc := enc) (C := Tryz.checked) false ⟨#[], #[.slice none 0 0, .int .u8 0, .int .u8 0, .int .u8 0], []⟩ 8 (by kernel_rfl) (by kernel_rfl) (by kernel_rfl) (by kernel_rfl)) ?_
  intro W base args ds gs before hval0 hW hcnd _
  have hval : ∀ (j : Nat) t v, Tryz.f9.params[j]? = some t → args[j]? = some v → Value.okWide Tryz.prog W .any base t v := hval0
  have hW' := hW
  obtain ⟨p, q, hA0, hV, rfl, hfz, hnd⟩ := hW
  have hA : DataW.TrodAll enc Tryz.prog W 0 (fun _ => true) true Tryz.f9.params.toList args.toList ds p := hA0
  rw [Tryz.params9] at hA hval
  obtain ⟨v0, vs0, d0, ds0, p0, q0, hargs, rfl, rfl, h0, r0⟩ := trodAll_cons hA
  obtain ⟨v1, vs1, d1, ds1, p1, q1, rfl, rfl, rfl, h1, r1⟩ := trodAll_cons r0
  obtain ⟨v2, vs2, d2, ds2, p2, q2, rfl, rfl, rfl, h2, r2⟩ := trodAll_cons r1
  obtain ⟨v3, vs3, d3, ds3, p3, q3, rfl, rfl, rfl, h3, r3⟩ := trodAll_cons r2
  obtain ⟨rfl, rfl, rfl⟩ := trodAll_nil r3
  obtain rfl : args = #[v0, v1, v2, v3] := by cases args; simp_all
  obtain ⟨rfl, rfl⟩ := trodVars_none hV
  have k0 := h0
  have lt0 : ∀ x ∈ p0, x.block < W.heap.size := by obtain ⟨m, hm⟩ := k0; exact DataW.trod_lt m _ _ _ hm
  obtain ⟨a0, rfl, w0⟩ := Cm.open_act10 (hval 0 22 v0 rfl rfl) h0
  obtain ⟨a1, rfl, rfl, rfl, w1⟩ := open_int Tryz.underlying5 (hval 1 5 v1 rfl rfl) h1
  obtain ⟨a2, rfl, rfl, rfl, w2⟩ := open_int Tryz.underlying5 (hval 2 5 v2 rfl rfl) h2
  obtain ⟨a3, rfl, rfl, rfl, w3⟩ := open_int Tryz.underlying5 (hval 3 5 v3 rfl rfl) h3
  clear hA0 hval0
  refine (walk a0 a1 a2 a3 W w0 w1 w2 w3).mono fun e W' ⟨he, bel⟩ => ?_
  subst he
  exact ⟨_, rfl, _, _, _, [], _, [], hW', trodAll_mk1 (shut_bool Tryz.underlying4 _), (trodAll_cons_mk (Below.trod laidOut (by kernel_rfl) (of_decide_eq_true (by kernel_rfl)) k0 bel lt0) (trodAll_cons_mk (shut_int Tryz.underlying5 w1) (trodAll_cons_mk (shut_int Tryz.underlying5 w2) (trodAll_cons_mk (shut_int Tryz.underlying5 w3) trodAll_mk0)))), rfl, bel.frame _, fun h => by cases h⟩

theorem over : Rows.autoRefusesRow.holds Tryz.pinned (OpenSpec.ofChange Rows.autoRefusesSpec) :=
  OpenClaim.holds_of_wide 9 Tryz.f9 rfl rfl rfl rfl rfl rfl rfl ⟨rfl, rfl, rfl, rfl, rfl⟩ rfl rfl rfl rfl rfl (by kernel_rfl) Tryz.func9 (by kernel_rfl)
    (of_decide_eq_true (by kernel_rfl)) (by unfold Func.isWrapper; first | (rw [if_pos (by decide +kernel)]; kernel_rfl) | (rw [if_neg (by decide +kernel)]; exact ⟨rfl, rfl⟩))
    (fun os started H enc _ => lifted os started H enc)

/-- THE STATEMENT -/
theorem proved : Rows.AutoRefusesSaid := over
end Go.Proofs.YthpknaieimlmnaaGreat.autoRefuses
