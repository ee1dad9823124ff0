/- PROVED: the statement AutoTwice of layer 10: for every input that can be read, the law returns true and leaves its arguments as they were. No condition. -/
import Derived.Test.YthpknaieimlmnaaGreatRows
import Derived.Test.YthpknaieimlmnaaGreatQ50
import Derived.WalkKit
import Derived.ProofKit
import Derived.OpenShut
import Derived.ShutString
import Derived.ChangeOld
import Derived.Below
import Derived.Deep.Cut
import Derived.Deep.CutBlock
import Derived.Deep.DeepCutAuto
namespace Go.Proofs.YthpknaieimlmnaaGreat.autoTwice
open Go.ChangeShapes Go.WideShapes Go.ChangeAt Go.RowKit
open Go.ChangeMaps (open_string shut_string)
open Go.Sort (grow)
set_option linter.unusedVariables false
set_option maxRecDepth 8000
set_option linter.unusedSimpArgs false

theorem own : ownKnob Tryz.prog.godebug = none := by kernel_rfl
theorem laidOut : laidOutB Tryz.prog = true := by kernel_rfl

/-! ### STEP 1: THE WALK -/
set_option maxRecDepth 100000 in
set_option maxHeartbeats 4000000 in
theorem walk (a0 : List Cm.Act10 × Value) (a1 : Cm.Act10) (w : World) (w0 : Cm.act10OkA w a0) (w1 : Cm.act1OkA w a1) :
    Calls Tryz.prog 5 #[Cm.act10A a0, Cm.actVal a1] w fun e w' => e = .returned (.bool true) ∧ Below w.heap.size w w' := by
  obtain ⟨L, v⟩ := a0
  unfold Cm.act10OkA at w0
  unfold Cm.act1OkA at w1
  unfold Cm.act10A
  dsimp only at w0 ⊢
  have hfew := Cm.made_few 60 L
  obtain ⟨s, hs⟩ : ∃ s, Cm.madeA 60 (L.take 60) = s := ⟨_, rfl⟩
  have KM := fun W (hb : Below w.heap.size w W) => Cm.Made_any10 v L W (w0.later hb)
  rw [hs] at hfew KM
  have KM := Lib.hid KM
  have hR := hfew.right
  have hn := hfew.num
  have ht := hfew.tok
  have hqs := Cm.request_seq hR a1 w1
  have hok := w1
  clear hs hfew
  obtain ⟨r, hr⟩ : ∃ r, Cm.requestA s a1 = r := ⟨_, rfl⟩
  have KQ := Lib.hid (fun W (y : Cm.StC) (h : Cm.RdSt W y) (e : y.v = s) => by
    have := Cm.Request_any y a1 W h (by rw [e]; exact hR) hok
    rw [e, hr] at this
    exact this)
  rw [hr] at hqs
  have hx := Cm.apply_next hR r (by omega) (by omega)
  have hx2 := hx.right
  have hxn := hx.num
  have hxt := hx.tok
  obtain ⟨X, hX⟩ : ∃ X, Cm.applyA s r = X := ⟨_, rfl⟩
  have h2s : X.2.2 = true → Cm.applyA X.1 r = (X.1, X.2.1, false) := fun q => by
    rw [← hX] at q ⊢
    exact Cm.twice_same hR (by omega) (by omega) q
  have h2o : X.2.2 = true → 1 < r.seq → Cm.applyA X.1 ⟨r.client, r.seq - 1, r.cmd⟩ = (X.1, Cm.onlyA 0, false) := fun q q2 => by
    rw [← hX] at q ⊢
    exact Cm.twice_old hR (by omega) (by omega) q q2
  have h2n : X.2.2 = false → X.1 = s := fun q => by
    rw [← hX] at q ⊢
    exact Cm.not_done q
  have h2f : X.2.2 = false → Cm.applyA X.1 r = X := fun q => by rw [h2n q, hX]
  rw [hX] at hx2 hxn hxt
  have KA := Lib.hid (fun W (y : Cm.StC) (h : Cm.RdSt W y) (e : y.v = s) => by
    have := Cm.DevApply y r W h (by rw [e]; exact hR) (by rw [show y.num = s.num from congrArg Cm.StV.num e]; omega) (by rw [show y.token = s.token from congrArg Cm.StV.token e]; omega)
    rw [e, hX] at this
    exact this)
  obtain ⟨⟨X1, ⟨pc, ps, pd, pl⟩, did⟩, rfl⟩ : ∃ Y, X = Y := ⟨_, rfl⟩
  dsimp only at h2s h2o h2n h2f hx2 hxn hxt
  obtain ⟨Z, hZ⟩ : ∃ Z, Cm.applyA X1 r = Z := ⟨_, rfl⟩
  rw [hZ] at h2s h2f
  have HZ : Hid (Z.1 = X1 ∧ Z.2.2 = false ∧ (did = true → Z.2.1 = ⟨pc, ps, pd, pl⟩)) := Lib.hid (by
    cases did with
    | true => rw [h2s rfl]; exact ⟨rfl, rfl, fun _ => rfl⟩
    | false => rw [h2f rfl]; exact ⟨rfl, rfl, fun q => absurd q (by decide)⟩)
  have KB := Lib.hid (fun W (y : Cm.StC) (h : Cm.RdSt W y) (e : y.v = X1) => by
    have := Cm.DevApply y r W h (by rw [e]; exact hx2) (by rw [show y.num = X1.num from congrArg Cm.StV.num e]; omega) (by rw [show y.token = X1.token from congrArg Cm.StV.token e]; omega)
    rw [e, hZ] at this
    exact this)
  obtain ⟨U, hU⟩ : ∃ U, Cm.applyA X1 ⟨r.client, r.seq - 1, r.cmd⟩ = U := ⟨_, rfl⟩
  rw [hU] at h2o
  have HU : Hid (did = true → 1 < r.seq → U = (X1, Cm.onlyA 0, false)) := Lib.hid h2o
  have KC := Lib.hid (fun W (y : Cm.StC) (h : Cm.RdSt W y) (e : y.v = X1) => by
    have := Cm.DevApply y ⟨r.client, r.seq - 1, r.cmd⟩ W h (by rw [e]; exact hx2) (by rw [show y.num = X1.num from congrArg Cm.StV.num e]; omega) (by rw [show y.token = X1.token from congrArg Cm.StV.token e]; omega)
    rw [e, hU] at this
    exact this)
  have HN : Hid (did = false → X1 = s) := Lib.hid h2n
  have HR1 := Lib.hid hx2
  have HRs := Lib.hid hR
  have hln : ∀ k ∈ s.locks, k.line.length ≤ 3 := hR.lines
  have hl4 : s.locks.length ≤ 4 := hR.good.len
  have HLN := Lib.hid (And.intro hln hl4)
  have C0 := Lib.hid (fun W => Cm.awake10_ok W)
  obtain ⟨i0, hi, hz0, hz1, hz2⟩ := info_parts Cm.infoS
  obtain ⟨Z1, ⟨zc, zs, za, zl⟩, Z3⟩ := Z
  obtain ⟨U1, ⟨uc, us, ua, ul⟩, U3⟩ := U
  obtain ⟨rc, rs, ⟨rk, rn, rm⟩⟩ := r
  dsimp only at hqs HZ HU KC
  have hw1 : IntKind.i64.wrap (rs - 1) = rs - 1 := by rw [IntKind.wrap_i64]; omega
  clear hx2 hR hx hX hZ hU h2s h2o h2n h2f hn ht hxn hxt hln hl4 hr
  unfold Cm.reqVal at KQ KA KB KC
  unfold Cm.ReadsAp at KA KB KC
  unfold Cm.stVal at KM KQ KA KB KC
  dsimp only at KQ KA KB KC
  simp only [Cm.StC.sv, Cm.StC.kv, Cm.StC.mv] at KM KQ KA KB KC
  obtain ⟨at', ac, aq, ak, an, am⟩ := a1
  unfold Cm.actVal at KQ ⊢
  dsimp only at KQ ⊢
  obtain ⟨W1, hW1⟩ : ∃ W1, W1 = w.alloc (.cells #[.int .u8 (at' : Int), .int .u8 (ac : Int), .int .u8 (aq : Int), .int .u8 (ak : Int), .int .u8 (an : Int), .int .u8 (am : Int)] 30) := ⟨_, rfl⟩
  have hb1 : Below w.heap.size w W1 := by rw [hW1]; exact newAlloc _ _
  have hA1 : Cm.BoxA W1 w.heap.size ⟨at', ac, aq, ak, an, am⟩ := by rw [hW1]; exact Cm.box6 (Below.refl _ _)
  have KM1 := Lib.hid (KM.out W1 hb1)
  obtain ⟨nb, hnb⟩ : ∃ nb, w.heap.size = nb := ⟨_, rfl⟩
  have HNB := Lib.hid hnb
  rw [hnb] at hA1
  have HA1 := Lib.hid hA1
  have HB1 := Lib.hid hb1
  clear KM w0 w1 hok hA1 hb1 hnb
  go_enter Tryz.func5, Tryz.ntmps5
  go_upto_region 1 with fail
  rw [← hW1, HNB.out]
  clear hW1
  go_upto_region 2 with (go_at_call 30; refine KM1.out.mono ?_; rintro e w2 ⟨⟨yt, yn, yk, yS, ya, yc, yK, yka, ykc, yM, yma, ymc⟩, he, hv2, hf2, hb2⟩; simp only [Cm.StC.sv, Cm.StC.kv, Cm.StC.mv] at he; subst he; have HV2 := Lib.hid hv2; have HY2 := Lib.hid (hf2.rd (Cm.RdSt.zero w2)); have HB2 := Lib.hid hb2; clear hv2 hf2 hb2)
  obtain ⟨W3, hW3⟩ : ∃ W3, W3 = w2.alloc (.cells #[.int .i64 yt, .int .i64 yn, .int .i64 yk, .slice ya yS.length yc, .slice yka yK.length ykc, .slice yma yM.length ymc] 28) := ⟨_, rfl⟩
  rw [← hW3]
  have hx3 : Cm.BoxS W3 w2.heap.size ⟨yt, yn, yk, yS, ya, yc, yK, yka, ykc, yM, yma, ymc⟩ := by rw [hW3]; exact Cm.BoxS.new w2 ⟨yt, yn, yk, yS, ya, yc, yK, yka, ykc, yM, yma, ymc⟩ _
  have hb3 : Below w2.heap.size w2 W3 := by rw [hW3]; exact newAlloc _ _
  have hs3 : W3.heap.size = w2.heap.size + 1 := by rw [hW3]; simp
  obtain ⟨b, hb⟩ : ∃ b, w2.heap.size = b := ⟨_, rfl⟩
  rw [hb] at hx3 hs3 ⊢
  clear hW3
  obtain ⟨c0, c1, c2, c3, c4, c5, cf⟩ := hx3
  simp only [Cm.StC.sv, Cm.StC.kv, Cm.StC.mv] at c0 c1 c2 c3 c4 c5
  have HX3 : Hid (Cm.BoxS W3 b ⟨yt, yn, yk, yS, ya, yc, yK, yka, ykc, yM, yma, ymc⟩) := Lib.hid ⟨c0, c1, c2, c3, c4, c5, cf⟩
  go_upto_region 3 with fail
  obtain ⟨W4, hW4⟩ : ∃ W4, W4 = W3.alloc (.cells #[.int .i64 yt, .int .i64 yn, .int .i64 yk, .slice ya yS.length yc, .slice yka yK.length ykc, .slice yma yM.length ymc] 28) := ⟨_, rfl⟩
  rw [← hW4]
  have hx4 : Cm.BoxS W4 W3.heap.size ⟨yt, yn, yk, yS, ya, yc, yK, yka, ykc, yM, yma, ymc⟩ := by rw [hW4]; exact Cm.BoxS.new W3 ⟨yt, yn, yk, yS, ya, yc, yK, yka, ykc, yM, yma, ymc⟩ _
  have hb4 : Below W3.heap.size W3 W4 := by rw [hW4]; exact newAlloc _ _
  have hs4 : W4.heap.size = b + 2 := by rw [hW4]; simp [hs3]
  rw [hs3] at hx4
  try rw [hs3]
  have HX4 := Lib.hid (HX3.out.later hb4)
  have HW4 := Lib.hid hx4
  have hb24 := step hb3 hb4
  have HY4 := Lib.hid (HY2.out.later hb24)
  have HB24 : Hid (Below b w2 W4) := Lib.hid (by rw [← hb]; exact hb24)
  have HWB := Lib.hid hb
  have hbW : b < W4.heap.size ∧ b + 1 < W4.heap.size := by omega
  clear hW4 hx4 hb3 hb4 hs3 hs4 hb24 hb c0 c1 c2 c3 c4 c5 cf HX3
  obtain ⟨c0, c1, c2, c3, c4, c5, cf⟩ := HX4.out
  simp only [Cm.StC.sv, Cm.StC.kv, Cm.StC.mv] at c0 c1 c2 c3 c4 c5
  have hyl : yS.length ≤ 9223372036854775807 := HY4.out.s.len
  have hys : yS.length ≤ 1000 := by
    have q : Cm.Rst (Cm.StC.v ⟨yt, yn, yk, yS, ya, yc, yK, yka, ykc, yM, yma, ymc⟩) := by rw [HV2.out]; exact HRs.out
    exact q.small.s
  have HR2 := Lib.hid (fun o => HY4.out.s.later (newAlloc W4 o))
  obtain ⟨bw, hbw⟩ : ∃ bw, b + 1 = bw := ⟨_, rfl⟩
  have HBW := Lib.hid hbw
  rw [hbw] at HW4 hbW ⊢
  clear hbw
  go_upto_region 4 with (at_builtin; go_must (refine wpList_append_rdx Cm.cellsS_length (by omega) Cm.cellsS_one rfl _ _ 24 rfl W4.heap.size 56 i0 _ 24 Tryz.underlying24 hi hz0 hz1 hz2 rfl _ 0 [] rfl (own_new W4 _ 3 _ _ rfl (Nat.le_refl _)) _ yS rfl (HR2.out _) (by unfold maxLen; omega) (by omega) (newAlloc W4 (.cells #[] 56)).size ?_; intro v5 w5 hown5 hgrow5; have ho5 : w5.ownsRow W4.heap.size 56 3 v5 yS.length (flatX Cm.cellsS yS) := (by simpa using hown5); obtain ⟨a5, p5, rfl⟩ := Rw.own_form ho5; have hb5 : Below W4.heap.size W4 w5 := (newAlloc W4 (.cells #[] 56)).grown hgrow5 (newAlloc W4 (.cells #[] 56)).size (fun k hk => by cases hk; exact Nat.le_refl _); have HO5 := Lib.hid ho5; have HB5 := Lib.hid hb5; obtain ⟨d0, d1, d2, d3, d4, d5, df⟩ := HW4.out.later hb5; simp only [Cm.StC.sv, Cm.StC.kv, Cm.StC.mv] at d0 d1 d2 d3 d4 d5; clear hown5 hgrow5 ho5 hb5))
  obtain ⟨W6, hW6⟩ : ∃ W6, W6 = w5.setCell ⟨bw, 3, none⟩ (.slice a5 yS.length p5) := ⟨_, rfl⟩
  have hx6 : Cm.BoxS W6 b ⟨yt, yn, yk, yS, ya, yc, yK, yka, ykc, yM, yma, ymc⟩ := by rw [hW6]; exact (HX4.out.later HB5.out).other (by have := HBW.out; omega) _ _
  have hw6 : Cm.BoxS W6 bw ⟨yt, yn, yk, yS, a5, p5, yK, yka, ykc, yM, yma, ymc⟩ := by rw [hW6]; exact (HW4.out.later HB5.out).set3 yS a5 p5
  have hb6 : Below b w2 W6 := by rw [hW6]; exact (HB24.out.trans (HB5.out.mono (by omega))).setCell (by have := HBW.out; show b ≤ bw; omega) _
  have hs6 : W6.ownsRow W4.heap.size 56 3 (.slice a5 yS.length p5) yS.length (flatX Cm.cellsS yS) := by rw [hW6]; exact ownsRow_setCell_below HO5.out (show bw < W4.heap.size from hbW.2) _
  rw [← hW6]
  clear hW6 c0 c1 c2 c3 c4 c5 cf d0 d1 d2 d3 d4 d5 df HR2 HX4 HW4 HO5 HB5 HB24
  have hz6 : W6.heap.size ≥ bw + 1 := Nat.succ_le_of_lt hw6.lt
  have HX6 := Lib.hid hx6
  have HW6 := Lib.hid hw6
  have HB6 := Lib.hid hb6
  have HS6 := Lib.hid hs6
  have HY6 := Lib.hid (HY2.out.later (by rw [HWB.out]; exact hb6))
  obtain ⟨c0, c1, c2, c3, c4, c5, cf⟩ := hx6
  simp only [Cm.StC.sv, Cm.StC.kv, Cm.StC.mv] at c0 c1 c2 c3 c4 c5
  clear hw6 hb6 hs6
  have KK := Lib.hid (Cm.CopyK_any (.slice yka yK.length ykc) yK W6 HY6.out.k (by have := HLN.out.2; rw [← HV2.out] at this; have e : (Cm.vals yK).length ≤ 4 := this; rw [Cm.vals_length] at e; omega) (fun x hx => by have := HLN.out.1 x.val (by rw [← HV2.out]; exact List.mem_map_of_mem hx); have e : x.line.length ≤ 3 := this; omega))
  go_upto_region 5 with (go_at_call 31; refine KK.out.mono ?_; rintro e w7 ⟨v7, M7, rfl, hm7, ho7, hb7⟩; obtain ⟨a7, p7, rfl⟩ := Rw.own_form ho7.row; have HM7 := Lib.hid hm7; have HO7 := Lib.hid ho7; have HB7 := Lib.hid hb7; obtain ⟨d0, d1, d2, d3, d4, d5, df⟩ := HW6.out.later hb7; simp only [Cm.StC.sv, Cm.StC.kv, Cm.StC.mv] at d0 d1 d2 d3 d4 d5; clear hm7 ho7 hb7)
  obtain ⟨W8, hW8⟩ : ∃ W8, W8 = w7.setCell ⟨bw, 4, none⟩ (.slice a7 M7.length p7) := ⟨_, rfl⟩
  have hx8 : Cm.BoxS W8 b ⟨yt, yn, yk, yS, ya, yc, yK, yka, ykc, yM, yma, ymc⟩ := by rw [hW8]; exact (HX6.out.later HB7.out).other (by have := HBW.out; omega) _ _
  have hw8 : Cm.BoxS W8 bw ⟨yt, yn, yk, yS, a5, p5, M7, a7, p7, yM, yma, ymc⟩ := by rw [hW8]; exact (HW6.out.later HB7.out).set4 M7 a7 p7
  have hb8 : Below b w2 W8 := by rw [hW8]; exact (HB6.out.trans (HB7.out.mono (by have := HX6.out.lt; omega))).setCell (by have := HBW.out; show b ≤ bw; omega) _
  have hs8 : Cm.RdS W8 (.slice a5 yS.length p5) yS := by rw [hW8]; exact RdX.own Cm.cellsS_length (ownsRow_setCell_below (Rw.own_below HS6.out HB7.out) (show bw < W4.heap.size from hbW.2) _)
  have hk8 : Cm.RdK W8 (.slice a7 M7.length p7) M7 := by rw [hW8]; exact (HO7.out.n.setBelow (by omega) 4 _).rd
  have HY8 := Lib.hid (HY2.out.later (by rw [HWB.out]; exact hb8))
  have HWS8 : Hid (Cm.RdSt W8 ⟨yt, yn, yk, yS, a5, p5, M7, a7, p7, yM, yma, ymc⟩) := Lib.hid ⟨hs8, hk8, HY8.out.m⟩
  have HWV : Hid (Cm.StC.v ⟨yt, yn, yk, yS, a5, p5, M7, a7, p7, yM, yma, ymc⟩ = s) := Lib.hid (by rw [← HV2.out]; unfold Cm.StC.v; dsimp only; rw [HM7.out])
  have HX8 := Lib.hid hx8
  have HW8 := Lib.hid hw8
  have HA8 := Lib.hid (HA1.out.later (step HB2.out (by rw [HWB.out]; exact hb8)))
  have HB8 := Lib.hid (step HB1.out (step HB2.out (by rw [HWB.out]; exact hb8)))
  rw [← hW8]
  clear hW8 c0 c1 c2 c3 c4 c5 cf d0 d1 d2 d3 d4 d5 df hx8 hw8 hb8 hs8 hk8 KK HX6 HW6 HO7 HS6 HY6 HB6 HB7 HY2 HY4 HLN hbW hys hyl hi hz0 hz1 hz2 hz6 KM1
  obtain ⟨c0, c1, c2, c3, c4, c5, cf⟩ := HX8.out
  simp only [Cm.StC.sv, Cm.StC.kv, Cm.StC.mv] at c0 c1 c2 c3 c4 c5
  obtain ⟨x0, x1, x2, x3, x4, x5⟩ := HA8.out
  dsimp only at x0 x1 x2 x3 x4 x5
  have KQ8 := Lib.hid (KQ.out W8 _ HY8.out HV2.out)
  simp only [Cm.StC.sv, Cm.StC.kv, Cm.StC.mv] at KQ8

  go_upto_region 6 with (go_at_call 22; refine KQ8.out.mono ?_; rintro e w9 ⟨rfl, hb9⟩; have HB9 := Lib.hid hb9; clear hb9)
  obtain ⟨W10, hW10⟩ : ∃ W10, W10 = w9.alloc (.cells #[.int .i64 rc, .int .i64 rs, .int .i64 rk, .int .i64 rn, .string (bstr rm)] 39) := ⟨_, rfl⟩
  have hq10 : Cm.BoxQ W10 w9.heap.size ⟨rc, rs, ⟨rk, rn, rm⟩⟩ := by rw [hW10]; exact Cm.BoxQ.new w9 ⟨rc, rs, ⟨rk, rn, rm⟩⟩ _
  have hb10 : Below w9.heap.size w9 W10 := by rw [hW10]; exact newAlloc _ _
  obtain ⟨q, hq⟩ : ∃ q, w9.heap.size = q := ⟨_, rfl⟩
  rw [← hW10]
  rw [hq] at hq10 ⊢
  have HQ10 := Lib.hid hq10
  have HB10 : Hid (Below W8.heap.size W8 W10) := Lib.hid (step HB9.out hb10)
  clear hW10 hq hq10 hb10 c0 c1 c2 c3 c4 c5 cf x0 x1 x2 x3 x4 x5 KQ8
  obtain ⟨c0, c1, c2, c3, c4, c5, cf⟩ := HX8.out.later HB10.out
  simp only [Cm.StC.sv, Cm.StC.kv, Cm.StC.mv] at c0 c1 c2 c3 c4 c5
  obtain ⟨⟨q0, q1, q2, q3, q4⟩, qf⟩ := HQ10.out
  dsimp only at q0 q1 q2 q3 q4
  have KA10 := Lib.hid (KA.out W10 _ (HY8.out.later HB10.out) HV2.out)
  simp only [Cm.StC.sv, Cm.StC.kv, Cm.StC.mv] at KA10
  go_upto_region 7 with (go_at_call 23; refine KA10.out.mono ?_; rintro e w13 ⟨⟨gt, gn, gk, gS, ga, gc, gK, gka, gkc, gM, gma, gmc⟩, ph, pp, he, hv13, hr13, hh13, hb13⟩; simp only [Cm.StC.sv, Cm.StC.kv, Cm.StC.mv] at he; subst he; have HV13 := Lib.hid hv13; have HR13 := Lib.hid hr13; have HH13 := Lib.hid hh13; have HB13 := Lib.hid hb13; clear hv13 hr13 hh13 hb13)
  have hbx13 := Cm.two_boxes w13 ⟨gt, gn, gk, gS, ga, gc, gK, gka, gkc, gM, gma, gmc⟩ ⟨pc, ps, pd, pl⟩ (.slice ph pl.length pp) 28 44 (b := w13.heap.size) rfl
  simp only [Cm.StC.sv, Cm.StC.kv, Cm.StC.mv] at hbx13
  obtain ⟨W13, hW13⟩ : ∃ W13, W13 = (w13.alloc (.cells #[.int .i64 gt, .int .i64 gn, .int .i64 gk, .slice ga gS.length gc, .slice gka gK.length gkc, .slice gma gM.length gmc] 28)).alloc (.cells #[.int .i64 pc, .int .i64 ps, .int .i64 pd, .slice ph pl.length pp] 44) := ⟨_, rfl⟩
  rw [← hW13] at hbx13 ⊢
  obtain ⟨t13, ht13⟩ : ∃ t, w13.heap.size = t := ⟨_, rfl⟩
  have HS13 := Lib.hid (HR13.out.later hbx13.2.2)
  have HG13 := Lib.hid (HH13.out.later hbx13.2.2)
  have HC13 : Hid (Below W10.heap.size W10 W13) := Lib.hid (step HB13.out hbx13.2.2)
  rw [ht13] at hbx13 ⊢
  have HX13 := Lib.hid hbx13.1
  have HP13 := Lib.hid hbx13.2.1
  clear hW13 ht13 hbx13 c0 c1 c2 c3 c4 c5 cf q0 q1 q2 q3 q4 qf HB13 HR13 HH13
  obtain ⟨c0, c1, c2, c3, c4, c5, cf⟩ := HX13.out
  simp only [Cm.StC.sv, Cm.StC.kv, Cm.StC.mv] at c0 c1 c2 c3 c4 c5
  obtain ⟨⟨q0, q1, q2, q3, q4⟩, qf⟩ := HQ10.out.later HC13.out
  dsimp only at q0 q1 q2 q3 q4
  have KB13 := Lib.hid (KB.out W13 _ HS13.out HV13.out)
  simp only [Cm.StC.sv, Cm.StC.kv, Cm.StC.mv] at KB13
  go_upto_region 8 with (go_at_call 23; refine KB13.out.mono ?_; rintro e w16 ⟨⟨ht, hn, hk, hS, ha, hc, hK, hka, hkc, hM, hma, hmc⟩, zh, zp, he, hv16, hr16, hh16, hb16⟩; simp only [Cm.StC.sv, Cm.StC.kv, Cm.StC.mv] at he; subst he; have HV16 := Lib.hid hv16; have HR16 := Lib.hid hr16; have HH16 := Lib.hid hh16; have HB16 := Lib.hid hb16; clear hv16 hr16 hh16 hb16)
  have hbx16 := Cm.two_boxes w16 ⟨ht, hn, hk, hS, ha, hc, hK, hka, hkc, hM, hma, hmc⟩ ⟨zc, zs, za, zl⟩ (.slice zh zl.length zp) 28 44 (b := w16.heap.size) rfl
  simp only [Cm.StC.sv, Cm.StC.kv, Cm.StC.mv] at hbx16
  obtain ⟨W16, hW16⟩ : ∃ W16, W16 = (w16.alloc (.cells #[.int .i64 ht, .int .i64 hn, .int .i64 hk, .slice ha hS.length hc, .slice hka hK.length hkc, .slice hma hM.length hmc] 28)).alloc (.cells #[.int .i64 zc, .int .i64 zs, .int .i64 za, .slice zh zl.length zp] 44) := ⟨_, rfl⟩
  rw [← hW16] at hbx16 ⊢
  obtain ⟨t16, ht16⟩ : ∃ t, w16.heap.size = t := ⟨_, rfl⟩
  have HS16 := Lib.hid (HR16.out.later hbx16.2.2)
  have HG16 := Lib.hid (HH16.out.later hbx16.2.2)
  have HC16 : Hid (Below W13.heap.size W13 W16) := Lib.hid (step HB16.out hbx16.2.2)
  rw [ht16] at hbx16 ⊢
  have HX16 := Lib.hid hbx16.1
  have HP16 := Lib.hid hbx16.2.1
  clear hW16 ht16 hbx16 c0 c1 c2 c3 c4 c5 cf q0 q1 q2 q3 q4 qf HB16 HR16 HH16
  obtain ⟨⟨q0, q1, q2, q3, q4⟩, qf⟩ := HQ10.out.later (step HC13.out HC16.out)
  dsimp only at q0 q1 q2 q3 q4
  go_upto_region 9 with fail
  obtain ⟨W17, hW17⟩ : ∃ W17, W17 = W16.alloc (.cells #[.int .i64 rc, .int .i64 rs, .int .i64 rk, .int .i64 rn, .string (bstr rm)] 39) := ⟨_, rfl⟩
  have hq17 : Cm.BoxQ W17 W16.heap.size ⟨rc, rs, ⟨rk, rn, rm⟩⟩ := by rw [hW17]; exact Cm.BoxQ.new W16 ⟨rc, rs, ⟨rk, rn, rm⟩⟩ _
  have hb17 : Below W16.heap.size W16 W17 := by rw [hW17]; exact newAlloc _ _
  obtain ⟨o, ho⟩ : ∃ o, W16.heap.size = o := ⟨_, rfl⟩
  rw [← hW17]
  have HOO := Lib.hid ho
  rw [ho] at hq17 ⊢
  have HQ17 := Lib.hid hq17
  have HB17 := Lib.hid hb17
  clear hW17 ho hq17 hb17 q0 q1 q2 q3 q4 qf
  obtain ⟨⟨q0, q1, q2, q3, q4⟩, qf⟩ := HQ10.out.later (step HC13.out (step HC16.out HB17.out))
  dsimp only at q0 q1 q2 q3 q4
  obtain ⟨⟨o0, o1, o2, o3, o4⟩, of⟩ := HQ17.out
  dsimp only at o0 o1 o2 o3 o4
  go_upto_region 10 with fail
  obtain ⟨W18, hW18⟩ : ∃ W18, W18 = W17.setCell ⟨o, 1, none⟩ (.int .i64 (rs - 1)) := ⟨_, rfl⟩
  have hq18 : Cm.BoxQ W18 o ⟨rc, rs - 1, ⟨rk, rn, rm⟩⟩ := by rw [hW18]; exact HQ17.out.set1 (rs - 1)
  have hb18 : Below W16.heap.size W16 W18 := by rw [hW18]; exact HB17.out.setCell (by rw [HOO.out]; exact Nat.le_refl _) _
  rw [← hW18]
  have HQ18 := Lib.hid hq18
  have HB18 := Lib.hid hb18
  clear hW18 hq18 hb18 q0 q1 q2 q3 q4 qf o0 o1 o2 o3 o4 of HQ17 HB17 HOO
  obtain ⟨c0, c1, c2, c3, c4, c5, cf⟩ := HX13.out.later (step HC16.out HB18.out)
  simp only [Cm.StC.sv, Cm.StC.kv, Cm.StC.mv] at c0 c1 c2 c3 c4 c5
  obtain ⟨⟨q0, q1, q2, q3, q4⟩, qf⟩ := HQ18.out
  dsimp only at q0 q1 q2 q3 q4
  have KC18 := Lib.hid (KC.out W18 _ (HS13.out.later (step HC16.out HB18.out)) HV13.out)
  simp only [Cm.StC.sv, Cm.StC.kv, Cm.StC.mv] at KC18
  go_upto_region 11 with (go_at_call 23; refine KC18.out.mono ?_; rintro e w20 ⟨⟨kt, kn, kk, kS, ka, kc, kK, kka, kkc, kM, kma, kmc⟩, uh, up, he, hv20, hr20, hh20, hb20⟩; simp only [Cm.StC.sv, Cm.StC.kv, Cm.StC.mv] at he; subst he; have HV20 := Lib.hid hv20; have HR20 := Lib.hid hr20; have HH20 := Lib.hid hh20; have HB20 := Lib.hid hb20; clear hv20 hr20 hh20 hb20)
  have hbx20 := Cm.two_boxes w20 ⟨kt, kn, kk, kS, ka, kc, kK, kka, kkc, kM, kma, kmc⟩ ⟨uc, us, ua, ul⟩ (.slice uh ul.length up) 28 44 (b := w20.heap.size) rfl
  simp only [Cm.StC.sv, Cm.StC.kv, Cm.StC.mv] at hbx20
  obtain ⟨W20, hW20⟩ : ∃ W20, W20 = (w20.alloc (.cells #[.int .i64 kt, .int .i64 kn, .int .i64 kk, .slice ka kS.length kc, .slice kka kK.length kkc, .slice kma kM.length kmc] 28)).alloc (.cells #[.int .i64 uc, .int .i64 us, .int .i64 ua, .slice uh ul.length up] 44) := ⟨_, rfl⟩
  rw [← hW20] at hbx20 ⊢
  obtain ⟨t20, ht20⟩ : ∃ t, w20.heap.size = t := ⟨_, rfl⟩
  have HS20 := Lib.hid (HR20.out.later hbx20.2.2)
  have HG20 := Lib.hid (HH20.out.later hbx20.2.2)
  have HC20 : Hid (Below W18.heap.size W18 W20) := Lib.hid (step HB20.out hbx20.2.2)
  rw [ht20] at hbx20 ⊢
  have HX20 := Lib.hid hbx20.1
  have HP20 := Lib.hid hbx20.2.1
  clear hW20 ht20 hbx20 c0 c1 c2 c3 c4 c5 cf q0 q1 q2 q3 q4 qf HB20 HR20 HH20
  have HF10 := Lib.hid (step HC13.out (step HC16.out (step HB18.out HC20.out)))
  have HF8 := Lib.hid (step HB10.out HF10.out)
  have HF13 := Lib.hid (step HC16.out (step HB18.out HC20.out))
  have HF16 := Lib.hid (step HB18.out HC20.out)
  have HFB := Lib.hid (step HB8.out HF8.out)
  have TS := Lib.hid (HX8.out.later HF8.out)
  have TW := Lib.hid (HW8.out.later HF8.out)
  have TT := Lib.hid (HX13.out.later HF13.out)
  have TU := Lib.hid (HX16.out.later HF16.out)
  have TV := Lib.hid HX20.out
  have TQ := Lib.hid (HQ10.out.later HF10.out)
  have TP := Lib.hid (HP13.out.later HF13.out)
  have TZ := Lib.hid (HP16.out.later HF16.out)
  have TO := Lib.hid HP20.out
  have RS := Lib.hid (HY8.out.later HF8.out)
  have RW := Lib.hid (HWS8.out.later HF8.out)
  have RT := Lib.hid (HS13.out.later HF13.out)
  have RU := Lib.hid (HS16.out.later HF16.out)
  have RV := Lib.hid HS20.out
  have RP := Lib.hid (HG13.out.later HF13.out)
  have RZ := Lib.hid (HG16.out.later HF16.out)
  have RO := Lib.hid HG20.out
  try dsimp only at RP RZ RO
  have KR := Lib.hid (fun W (hb : Below W20.heap.size W20 W) => Cm.DevRight _ W (RT.out.later hb) (by rw [HV13.out]; exact HR1.out))
  have KSW := Lib.hid (fun W (hb : Below W20.heap.size W20 W) => Cm.same_states _ _ W (RS.out.later hb) (RW.out.later hb) (HV2.out.trans HWV.out.symm))
  unfold Cm.stVal at KR KSW
  simp only [Cm.StC.sv, Cm.StC.kv, Cm.StC.mv] at KR KSW
  obtain ⟨hz1, hz2, hz3⟩ := HZ.out
  try dsimp only at hz1 hz2 hz3
  subst hz2
  clear HZ KA KB KC KQ HQ10 HQ18 HX8 HW8 HX13 HX16 HX20 HP13 HP16 HP20 HY8 HWS8 HS13 HS16 HS20 HG13 HG16 HG20 HC13 HC16 HC20 HF10 HF8 HF13 HF16 HB18 HB10 HB8
  cases did with
  | true =>
    have hzz := hz3 rfl
    obtain ⟨rfl, rfl, rfl, rfl⟩ : zc = pc ∧ zs = ps ∧ za = pd ∧ zl = pl := by injection hzz with q1 q2 q3 q4; exact ⟨q1, q2, q3, q4⟩
    have KP1 := Lib.hid (Cm.SameReply_any ⟨zc, zs, za, zl⟩ ⟨zc, zs, za, zl⟩ _ _ W20 RP.out RZ.out)
    rw [(Cm.sameP_iff _ _).2 rfl] at KP1
    unfold Cm.repVal at KP1
    dsimp only at KP1
    clear hz3
    have KUT := Lib.hid (fun W (hb : Below W20.heap.size W20 W) => Cm.same_states _ _ W (RU.out.later hb) (RT.out.later hb) (HV16.out.trans (hz1.trans HV13.out.symm)))
    unfold Cm.stVal at KUT
    simp only [Cm.StC.sv, Cm.StC.kv, Cm.StC.mv] at KUT
    obtain ⟨p0, p1, p2, p3⟩ := TP.out
    dsimp only at p0 p1 p2 p3
    obtain ⟨r0, r1, r2, r3⟩ := TZ.out
    dsimp only at r0 r1 r2 r3
    go_wp2_with fail
    refine KP1.out.mono ?_
    rintro e w21' ⟨rfl, hb21⟩
    have HB21 : Hid (Below W20.heap.size W20 w21') := Lib.hid hb21
    clear hb21 p0 p1 p2 p3 r0 r1 r2 r3
    obtain ⟨c0, c1, c2, c3, c4, c5, cf⟩ := TU.out.later HB21.out
    simp only [Cm.StC.sv, Cm.StC.kv, Cm.StC.mv] at c0 c1 c2 c3 c4 c5
    obtain ⟨d0, d1, d2, d3, d4, d5, df⟩ := TT.out.later HB21.out
    simp only [Cm.StC.sv, Cm.StC.kv, Cm.StC.mv] at d0 d1 d2 d3 d4 d5
    go_wp2_with fail
    refine (KUT.out _ HB21.out).mono ?_
    rintro e w22' ⟨rfl, hb22⟩
    have HB22 : Hid (Below W20.heap.size W20 w22') := Lib.hid (step HB21.out hb22)
    clear hb22
    clear c0 c1 c2 c3 c4 c5 cf
    clear d0 d1 d2 d3 d4 d5 df
    obtain ⟨⟨q0, q1, q2, q3, q4⟩, qf⟩ := TQ.out.later HB22.out
    dsimp only at q0 q1 q2 q3 q4
    by_cases hrs : (1 : Int) < rs
    · have hu := HU.out (by first | rfl | trivial) hrs
      obtain ⟨rfl, hu2, rfl⟩ : U1 = X1 ∧ (⟨uc, us, ua, ul⟩ : Cm.ReplyV) = Cm.onlyA 0 ∧ U3 = false := by injection hu with q1 q2; injection q2 with q3 q4; exact ⟨q1, q3, q4⟩
      obtain ⟨rfl, rfl, rfl, rfl⟩ : uc = 0 ∧ us = 0 ∧ ua = 0 ∧ ul = [] := by injection hu2 with q1 q2 q3 q4; exact ⟨q1, q2, q3, q4⟩
      have d1 : decide ((1 : Int) < rs) = true := decide_eq_true hrs
      clear hrs hu hu2
      have KP2 := Lib.hid (Cm.SameReply_any ⟨0, 0, 0, []⟩ ⟨0, 0, 0, []⟩ _ _ _ (RO.out.later HB22.out) (Cm.RdH.nil _))
      rw [(Cm.sameP_iff _ _).2 rfl] at KP2
      unfold Cm.repVal at KP2
      dsimp only at KP2
      have KVT := Lib.hid (fun W (hb : Below W20.heap.size W20 W) => Cm.same_states _ _ W (RV.out.later hb) (RT.out.later hb) (HV20.out.trans HV13.out.symm))
      unfold Cm.stVal at KVT
      simp only [Cm.StC.sv, Cm.StC.kv, Cm.StC.mv] at KVT
      obtain ⟨p0, p1, p2, p3⟩ := TO.out.later HB22.out
      dsimp only at p0 p1 p2 p3
      go_wp2_with fail
      refine KP2.out.mono ?_
      rintro e w23' ⟨rfl, hb23⟩
      have HB23 : Hid (Below W20.heap.size W20 w23') := Lib.hid (step HB22.out hb23)
      clear hb23 p0 p1 p2 p3 q0 q1 q2 q3 q4 qf
      obtain ⟨c0, c1, c2, c3, c4, c5, cf⟩ := TV.out.later HB23.out
      simp only [Cm.StC.sv, Cm.StC.kv, Cm.StC.mv] at c0 c1 c2 c3 c4 c5
      obtain ⟨d0, d1, d2, d3, d4, d5, df⟩ := TT.out.later HB23.out
      simp only [Cm.StC.sv, Cm.StC.kv, Cm.StC.mv] at d0 d1 d2 d3 d4 d5
      go_wp2_with fail
      refine (KVT.out _ HB23.out).mono ?_
      rintro e w24' ⟨rfl, hb24⟩
      have HB24 : Hid (Below W20.heap.size W20 w24') := Lib.hid (step HB23.out hb24)
      clear hb24
      clear c0 c1 c2 c3 c4 c5 cf
      clear d0 d1 d2 d3 d4 d5 df
      obtain ⟨c0, c1, c2, c3, c4, c5, cf⟩ := TT.out.later HB24.out
      simp only [Cm.StC.sv, Cm.StC.kv, Cm.StC.mv] at c0 c1 c2 c3 c4 c5
      go_wp2_with fail
      refine (KR.out _ HB24.out).mono ?_
      rintro e w25' ⟨rfl, hb25⟩
      have HB25 : Hid (Below W20.heap.size W20 w25') := Lib.hid (step HB24.out hb25)
      clear hb25
      clear c0 c1 c2 c3 c4 c5 cf
      obtain ⟨c0, c1, c2, c3, c4, c5, cf⟩ := TS.out.later HB25.out
      simp only [Cm.StC.sv, Cm.StC.kv, Cm.StC.mv] at c0 c1 c2 c3 c4 c5
      obtain ⟨d0, d1, d2, d3, d4, d5, df⟩ := TW.out.later HB25.out
      simp only [Cm.StC.sv, Cm.StC.kv, Cm.StC.mv] at d0 d1 d2 d3 d4 d5
      go_wp2_with fail
      refine (KSW.out _ HB25.out).mono ?_
      rintro e w26' ⟨rfl, hb26⟩
      have HB26 : Hid (Below W20.heap.size W20 w26') := Lib.hid (step HB25.out hb26)
      clear hb26
      go_wp2_with fail
      refine (C0.out _).mono ?_
      rintro e w27' ⟨rfl, hb27⟩
      go_wp2_with fail
      go_ret
      exact ⟨rfl, step HFB.out (step HB26.out hb27)⟩
    · have d1 : decide ((1 : Int) < rs) = false := decide_eq_false hrs
      clear hrs
      obtain ⟨c0, c1, c2, c3, c4, c5, cf⟩ := TT.out.later HB22.out
      simp only [Cm.StC.sv, Cm.StC.kv, Cm.StC.mv] at c0 c1 c2 c3 c4 c5
      go_wp2_with fail
      refine (KR.out _ HB22.out).mono ?_
      rintro e w28' ⟨rfl, hb28⟩
      have HB28 : Hid (Below W20.heap.size W20 w28') := Lib.hid (step HB22.out hb28)
      clear hb28
      clear c0 c1 c2 c3 c4 c5 cf
      obtain ⟨c0, c1, c2, c3, c4, c5, cf⟩ := TS.out.later HB28.out
      simp only [Cm.StC.sv, Cm.StC.kv, Cm.StC.mv] at c0 c1 c2 c3 c4 c5
      obtain ⟨d0, d1, d2, d3, d4, d5, df⟩ := TW.out.later HB28.out
      simp only [Cm.StC.sv, Cm.StC.kv, Cm.StC.mv] at d0 d1 d2 d3 d4 d5
      go_wp2_with fail
      refine (KSW.out _ HB28.out).mono ?_
      rintro e w29' ⟨rfl, hb29⟩
      have HB29 : Hid (Below W20.heap.size W20 w29') := Lib.hid (step HB28.out hb29)
      clear hb29
      go_wp2_with fail
      refine (C0.out _).mono ?_
      rintro e w30' ⟨rfl, hb30⟩
      go_wp2_with fail
      go_ret
      exact ⟨rfl, step HFB.out (step HB29.out hb30)⟩
  | false =>
    have hxs := HN.out rfl
    have KTS := Lib.hid (fun W (hb : Below W20.heap.size W20 W) => Cm.same_states _ _ W (RT.out.later hb) (RS.out.later hb) (HV13.out.trans (hxs.trans HV2.out.symm)))
    unfold Cm.stVal at KTS
    simp only [Cm.StC.sv, Cm.StC.kv, Cm.StC.mv] at KTS
    clear hxs hz3
    obtain ⟨c0, c1, c2, c3, c4, c5, cf⟩ := TT.out
    simp only [Cm.StC.sv, Cm.StC.kv, Cm.StC.mv] at c0 c1 c2 c3 c4 c5
    obtain ⟨d0, d1, d2, d3, d4, d5, df⟩ := TS.out
    simp only [Cm.StC.sv, Cm.StC.kv, Cm.StC.mv] at d0 d1 d2 d3 d4 d5
    go_wp2_with fail
    refine (KTS.out _ (Below.refl _ _)).mono ?_
    rintro e w31' ⟨rfl, hb31⟩
    have HB31 : Hid (Below W20.heap.size W20 w31') := Lib.hid (step (Below.refl _ _) hb31)
    clear hb31
    clear c0 c1 c2 c3 c4 c5 cf
    clear d0 d1 d2 d3 d4 d5 df
    obtain ⟨c0, c1, c2, c3, c4, c5, cf⟩ := TT.out.later HB31.out
    simp only [Cm.StC.sv, Cm.StC.kv, Cm.StC.mv] at c0 c1 c2 c3 c4 c5
    go_wp2_with fail
    refine (KR.out _ HB31.out).mono ?_
    rintro e w32' ⟨rfl, hb32⟩
    have HB32 : Hid (Below W20.heap.size W20 w32') := Lib.hid (step HB31.out hb32)
    clear hb32
    clear c0 c1 c2 c3 c4 c5 cf
    obtain ⟨c0, c1, c2, c3, c4, c5, cf⟩ := TS.out.later HB32.out
    simp only [Cm.StC.sv, Cm.StC.kv, Cm.StC.mv] at c0 c1 c2 c3 c4 c5
    obtain ⟨d0, d1, d2, d3, d4, d5, df⟩ := TW.out.later HB32.out
    simp only [Cm.StC.sv, Cm.StC.kv, Cm.StC.mv] at d0 d1 d2 d3 d4 d5
    go_wp2_with fail
    refine (KSW.out _ HB32.out).mono ?_
    rintro e w33' ⟨rfl, hb33⟩
    have HB33 : Hid (Below W20.heap.size W20 w33') := Lib.hid (step HB32.out hb33)
    clear hb33
    go_wp2_with fail
    refine (C0.out _).mono ?_
    rintro e w34' ⟨rfl, hb34⟩
    go_wp2_with fail
    go_ret
    exact ⟨rfl, step HFB.out (step HB33.out hb34)⟩

/-! ### THE ROW's STEP -/
set_option maxRecDepth 100000 in
theorem lifted (os : Os) (started : os.Started) (H : Type) (enc : TypeId × Value → H) :
    ReturnsInHanded {} Tryz.checked os 5 .any (Rows.autoTwiceSpec.pre6 enc Tryz.prog Tryz.f5 Rows.autoTwiceRow.domain false) (Rows.autoTwiceSpec.post enc Tryz.prog Tryz.f5 false true false false) := by
  refine returnsInHanded_of_change (C := Tryz.checked) own started (by kernel_rfl) Tryz.func5
    (ChangeSpec.witness6 (enc := enc) (C := Tryz.checked) false ⟨#[], #[.slice none 0 0, .agg #[.int .u8 0, .int .u8 0, .int .u8 0, .int .u8 0, .int .u8 0, .int .u8 0]], []⟩ 8 (by kernel_rfl) (by kernel_rfl) (by kernel_rfl) (by kernel_rfl)) ?_
  intro W base args ds gs before hval0 hW hcnd _
  have hval : ∀ (j : Nat) t v, Tryz.f5.params[j]? = some t → args[j]? = some v → Value.okWide Tryz.prog W .any base t v := hval0
  have hW' := hW
  obtain ⟨p, q, hA0, hV, rfl, hfz, hnd⟩ := hW
  have hA : DataW.TrodAll enc Tryz.prog W 0 (fun _ => true) true Tryz.f5.params.toList args.toList ds p := hA0
  rw [Tryz.params5] at hA hval
  obtain ⟨v0, vs0, d0, ds0, p0, q0, hargs, rfl, rfl, h0, r0⟩ := trodAll_cons hA
  obtain ⟨v1, vs1, d1, ds1, p1, q1, rfl, rfl, rfl, h1, r1⟩ := trodAll_cons r0
  obtain ⟨rfl, rfl, rfl⟩ := trodAll_nil r1
  obtain rfl : args = #[v0, v1] := by cases args; simp_all
  obtain ⟨rfl, rfl⟩ := trodVars_none hV
  have k0 := h0
  have lt0 : ∀ x ∈ p0, x.block < W.heap.size := by obtain ⟨m, hm⟩ := k0; exact DataW.trod_lt m _ _ _ hm
  obtain ⟨a0, rfl, w0⟩ := Cm.open_act10 (hval 0 22 v0 rfl rfl) h0
  have k1 := h1
  have lt1 : ∀ x ∈ p1, x.block < W.heap.size := by obtain ⟨m, hm⟩ := k1; exact DataW.trod_lt m _ _ _ hm
  obtain ⟨a1, rfl, w1⟩ := Cm.open_act1 (hval 1 30 v1 rfl rfl) h1
  clear hA0 hval0
  refine (walk a0 a1 W w0 w1).mono fun e W' ⟨he, bel⟩ => ?_
  subst he
  exact ⟨_, rfl, _, _, _, [], _, [], hW', trodAll_mk1 (shut_bool Tryz.underlying4 _), (trodAll_cons_mk (Below.trod laidOut (by kernel_rfl) (of_decide_eq_true (by kernel_rfl)) k0 bel lt0) (trodAll_cons_mk (Below.trod laidOut (by kernel_rfl) (of_decide_eq_true (by kernel_rfl)) k1 bel lt1) trodAll_mk0)), rfl, bel.frame _, fun h => by cases h⟩

theorem over : Rows.autoTwiceRow.holds Tryz.pinned (OpenSpec.ofChange Rows.autoTwiceSpec) :=
  OpenClaim.holds_of_wide 5 Tryz.f5 rfl rfl rfl rfl rfl rfl rfl ⟨rfl, rfl, rfl, rfl, rfl⟩ rfl rfl rfl rfl rfl (by kernel_rfl) Tryz.func5 (by kernel_rfl)
    (of_decide_eq_true (by kernel_rfl)) (by unfold Func.isWrapper; first | (rw [if_pos (by decide +kernel)]; kernel_rfl) | (rw [if_neg (by decide +kernel)]; exact ⟨rfl, rfl⟩))
    (fun os started H enc _ => lifted os started H enc)

/-- THE STATEMENT -/
theorem proved : Rows.AutoTwiceSaid := over
end Go.Proofs.YthpknaieimlmnaaGreat.autoTwice
