/- PROVED: the statement MemoRuns of layer 9: for every input that can be read, the law returns true and leaves its arguments as they were. No condition. -/
import Derived.Test.YtfkpgndbohoogaaRows
import Derived.Test.YtfkpgndbohoogaaP8
import Derived.WalkKit
import Derived.ProofKit
import Derived.OpenShut
import Derived.ShutString
import Derived.ChangeOld
import Derived.Below
import Derived.Deep.Cut
import Derived.Deep.CutBlock
import Derived.Deep.DeepCutAuto
namespace Go.Proofs.Ytfkpgndbohoogaa.memoRuns
open Go.ChangeShapes Go.WideShapes Go.ChangeAt Go.RowKit
open Go.ChangeMaps (open_string shut_string)
open Go.Sort (grow)
set_option linter.unusedVariables false

theorem own : ownKnob Try.prog.godebug = none := by kernel_rfl
theorem laidOut : laidOutB Try.prog = true := by kernel_rfl

/-! ### STEP 1: THE WALK -/
set_option maxRecDepth 100000 in
set_option maxHeartbeats 4000000 in
theorem walk (a0 : List Cm.MemC × Value) (a1 : Int) (a2 : Int) (w : World) (w0 : Cm.anssOkA w a0) (w1 : (Lit.int .i64 a1).wf = true) (w2 : (Lit.int .i64 a2).wf = true) :
    Calls Try.prog 3 #[Cm.anssA a0, .int .i64 a1, .int .i64 a2] w fun e w' => e = .returned (.bool true) ∧ Below w.heap.size w w' := by
  obtain ⟨L, v⟩ := a0
  unfold Cm.anssOkA at w0
  unfold Cm.anssA
  dsimp only at w0 ⊢
  have hm := w0.len
  have C0 := Lib.hid (fun w => Cm.awake9_ok w)
  obtain ⟨a, cap, rfl⟩ := w0.form
  have HA := Lib.hid (fun i hi => Cm.rdm_at w0.row i hi)
  have HH : Hid (∀ i (hi : i < L.length) (W : World), Below w.heap.size w W → Cm.RdH W L[i].hv L[i].m.rep.held) := Lib.hid fun i hi W hb => (w0.held _ (List.getElem_mem hi)).later hb
  clear w0 w1 w2
  obtain ⟨N, hN⟩ : ∃ N, L.length = N := ⟨_, rfl⟩
  have HLL := Lib.hid hN
  rw [hN] at hm ⊢
  clear hN
  by_cases h1 : 40 < N
  · go_enter Try.func3, Try.ntmps3
    go_wp2_with (go_at_call 8; refine (C0.out _).mono ?_; rintro e w1 ⟨rfl, hb1⟩)
    go_ret
    exact ⟨rfl, hb1⟩
  have d40 : decide ((40 : Int) < (N : Int)) = false := by simp; omega
  have h40 : N ≤ 40 := by omega
  clear h1
  go_enter Try.func3, Try.ntmps3
  go_wp2
  go_loopw [7, 8] (fun m i wr => ∃ (k : Nat) (M : List Cm.MemC) (am : Option Addr) (cm : Nat), k ≤ N ∧ i = .int .i64 k ∧ m = .slice am M.length cm ∧ M.length ≤ k ∧ Hid (Cm.Rm (Cm.valsM M)) ∧ Hid (Cm.Few (Cm.valsM M)) ∧ Hid (Cm.RdM wr (.slice am M.length cm) M) ∧ Hid (Below w.heap.size w wr)) (fun _ i _ => N - (intOf i).toNat)
  case atStart => exact ⟨0, [], none, 0, by omega, rfl, rfl, by simp, Lib.hid Cm.Rm.nil, Lib.hid Cm.Few.nil, Lib.hid (Cm.RdM.nil _), Lib.hid (Below.refl _ _)⟩
  case round =>
    obtain ⟨k, M, am, cm, hk, rfl, rfl, hMk, HG, HF, HR, HB⟩ := hrel
    by_cases hlt : k < N
    · have hkl : k < L.length := by rw [HLL.out]; exact hlt
      obtain ⟨b, o, rfl, hc⟩ := HA.out k hkl
      obtain ⟨q0, q1, q2, q3, q4, q5⟩ := hc _ HB.out
      have hh := HH.out k hkl
      have HC := Lib.hid hc
      clear hc HA HH
      generalize L[k] = x at q0 q1 q2 q3 q4 q5 hh HC
      obtain ⟨⟨xc, xs, ⟨xk, xn, xd, xl⟩⟩, xa, xp⟩ := x
      unfold Cm.MemC.hv at q5 hh HC
      dsimp only at q0 q1 q2 q3 q4 q5 hh HC
      have f1 : (0 : Int) ≤ (k : Int) := by omega
      have f2 : (k : Int) < (N : Int) := by omega
      by_cases h2 : 20 < xl.length
      · have d20 : decide ((20 : Int) < (xl.length : Int)) = true := decide_eq_true (by omega)
        clear hh HC
        generalize xl.length = XN at *
        go_wp2_with (go_at_call 8; refine (C0.out _).mono ?_; rintro e w1 ⟨rfl, hb1⟩)
        go_ret
        exact ⟨rfl, step HB.out hb1⟩
      have d20 : decide ((20 : Int) < (xl.length : Int)) = false := decide_eq_false (by omega)
      have KT := fun W (hb : Below wr.heap.size wr W) => Cm.MemKeep_any (.slice am M.length cm) (.slice xa xl.length xp) M ⟨xc, xs, ⟨xk, xn, xd, xl⟩⟩ W (HR.out.later hb) HG.out (by omega) (hh W (step HB.out hb)) (by dsimp only; omega) HF.out.mem
      have KU := fun W (hb : Below wr.heap.size wr W) => Cm.RefKeep_any (.slice am M.length cm) (.slice xa xl.length xp) M ⟨xc, xs, ⟨xk, xn, xd, xl⟩⟩ W (HR.out.later hb) (by omega) (hh W (step HB.out hb)) HG.out
      have HG2 := Lib.hid (HG.out.keep ⟨xc, xs, ⟨xk, xn, xd, xl⟩⟩)
      have HF2 := Lib.hid (HF.out.keep (a := ⟨xc, xs, ⟨xk, xn, xd, xl⟩⟩) (by dsimp only; omega))
      have hl2 := Cm.keep_length (Cm.valsM M) ⟨xc, xs, ⟨xk, xn, xd, xl⟩⟩
      rw [Cm.valsM_length] at hl2
      generalize Cm.keepM (Cm.valsM M) ⟨xc, xs, ⟨xk, xn, xd, xl⟩⟩ = K at KT KU HG2 HF2 hl2
      unfold Cm.ansVal at KT KU
      unfold Cm.GetsK at KT KU
      dsimp only at KT KU
      have KT := Lib.hid KT
      have KU := Lib.hid KU
      have HM2 := Lib.hid hl2
      clear h2 hh HG HF HR hl2
      generalize xl.length = XN at *
      obtain ⟨MN, hMN⟩ : ∃ MN, M.length = MN := ⟨_, rfl⟩
      rw [hMN] at KT KU hMk HM2 ⊢
      clear hMN
      go_upto_region 14 with (first
        | (go_at_call 9; refine (KT.out _ (Below.refl _ _)).mono ?_; rintro e w5 ⟨a5, c5, M5, rfl, hv5, hr5, hb5⟩; obtain ⟨p0, p1, p2, p3, p4, p5⟩ := HC.out _ (step HB.out hb5); have HV5 := Lib.hid hv5; have HR5 := Lib.hid hr5; have HB5 := Lib.hid hb5; clear hv5 hr5 hb5)
        | (go_at_call 10; refine (KU.out _ HB5.out).mono ?_; rintro e w6 ⟨a6, c6, M6, rfl, hv6, hr6, hb6⟩; have HV6 := Lib.hid hv6; have HR6 := Lib.hid hr6; have HR56 := Lib.hid (HR5.out.later hb6); have HB6 := Lib.hid (step HB5.out hb6); clear hv6 hr6 hb6)
        | (go_at_call 11; refine (Cm.same_mems _ _ M5 M6 _ HR56.out HR6.out (HV5.out.trans HV6.out.symm)).mono ?_; rintro e w7 ⟨rfl, hb7⟩; have HR7 := Lib.hid (HR6.out.later hb7); have HB7 := Lib.hid (step HB6.out hb7); have KRR := (Cm.MemRight_any _ M6 _ HR7.out); rw [HV6.out, (Cm.rightM_iff K).2 HG2.out] at KRR; have KRR := Lib.hid KRR; clear hb7)
        | (go_at_call 12; refine KRR.out.mono ?_; rintro e w8 ⟨rfl, hb8⟩; have HR8 := Lib.hid (HR7.out.later hb8); have HB8 := Lib.hid (step HB7.out hb8); clear hb8))
      obtain ⟨p0, p1, -⟩ := HC.out _ (step HB.out HB8.out)
      have k0 := cell_regrown p0
      have k1 := cell_regrown p1
      have D1 := fun d os => Calls.regrown_of (w := w8) (d := d) (os := os) (Cm.MemFresh_any (.slice a6 M6.length c6) M6 xc xs _ (HR8.out.later (below_regrown w8 d os)) (by rw [HV6.out]; exact HG2.out))
      have D2 := fun d os => Calls.regrown_of (w := w8) (d := d) (os := os) (Cm.RefFresh_any (.slice a6 M6.length c6) M6 xc xs _ (HR8.out.later (below_regrown w8 d os)))
      generalize Cm.freshM (Cm.valsM M6) xc xs = fr at D1 D2
      have D1 := Lib.hid D1
      have D2 := Lib.hid D2
      have dfr : (fr != fr) = false := by simp
      clear q0 q1 q2 q3 q4 q5 p0 p1
      obtain ⟨MN6, hMN6⟩ : ∃ MN6, M6.length = MN6 := ⟨_, rfl⟩
      have HMN6 := Lib.hid hMN6
      rw [hMN6] at D1 D2 ⊢
      clear hMN6
      refine wp_region_quiet_below (by kernel_rfl) (by kernel_rfl) ?_
      repeat (go_big_quiet_step (first | exact D1.out _ _ | exact D2.out _ _))
      refine wpQuiet_nil ?_
      intro _ hw'
      obtain ⟨⟨dq, osq⟩, hw''⟩ := hw'
      subst hw''
      have HBF := Lib.hid (step (step HB.out HB8.out) (below_regrown w8 dq osq))
      have HRF := Lib.hid (HR8.out.later (below_regrown w8 dq osq))
      clear D1 D2 KRR
      go_wp2
      go_roundw
      case rel => exact ⟨k + 1, M6, a6, c6, by omega, by go_num, by rw [HMN6.out], by rw [← Cm.valsM_length M6, HV6.out]; have := HM2.out; omega, Lib.hid (by rw [HV6.out]; exact HG2.out), Lib.hid (by rw [HV6.out]; exact HF2.out), HRF, HBF⟩
      case measure => simp [intOf]; omega
    · obtain rfl : k = N := by omega
      have KL := (Cm.MemLast_any (.slice am M.length cm) M a1 wr HR.out HG.out).mono fun e w' h => Cm.GetsM.s h
      have KQ := fun W (hb : Below wr.heap.size wr W) => (Cm.RefLast_any (.slice am M.length cm) M a1 W (HR.out.later hb)).mono fun e w' h => Cm.GetsM.s h
      have KF := Lib.hid (fun W (hb : Below wr.heap.size wr W) => Cm.MemFresh_any (.slice am M.length cm) M a1 a2 W (HR.out.later hb) HG.out)
      have KG := Lib.hid (fun W (hb : Below wr.heap.size wr W) => Cm.RefFresh_any (.slice am M.length cm) M a1 a2 W (HR.out.later hb))
      generalize Cm.freshM (Cm.valsM M) a1 a2 = fr at KF KG
      generalize Cm.lastM (Cm.valsM M) a1 = r at KL KQ
      obtain ⟨⟨yc, ys, ⟨yk, yn, yd, yl⟩⟩, yb⟩ := r
      dsimp only at KL KQ
      have KL := Lib.hid KL
      have KQ := Lib.hid KQ
      clear HG HF HR HA HH
      generalize M.length = MN at *
      obtain ⟨YN, hYN⟩ : ∃ YN, yl.length = YN := ⟨_, rfl⟩
      have HYN := Lib.hid hYN
      rw [hYN] at KL KQ
      clear hYN
      have db : (yb == yb) = true := by simp
      have df : (fr == fr) = true := by simp
      go_upto_region 17 with (go_at_call 15; refine KL.out.mono ?_; rintro e w5 ⟨a5, c5, rfl, hr5, hb5⟩; have HR5 := Lib.hid hr5; have HB5 := Lib.hid hb5; clear hr5 hb5)
      obtain ⟨W6, hW6⟩ : ∃ W6, W6 = w5.alloc (.cells #[.int .i64 yc, .int .i64 ys, .int .i64 yk, .int .i64 yn, .int .i64 yd, .slice a5 YN c5] 35) := ⟨_, rfl⟩
      have HB6 : Hid (Below wr.heap.size wr W6) := Lib.hid (by rw [hW6]; exact stepAlloc HB5.out _)
      have HR6 : Hid (Cm.RdH W6 (.slice a5 YN c5) yl) := Lib.hid (by rw [hW6]; exact HR5.out.later (newAlloc _ _))
      have hx := Cm.box6 (Below.refl _ (w5.alloc (.cells #[.int .i64 yc, .int .i64 ys, .int .i64 yk, .int .i64 yn, .int .i64 yd, .slice a5 YN c5] 35)))
      rw [← hW6] at hx ⊢
      have HX6 : Hid (∀ W, Below W6.heap.size W6 W → W.cell? ⟨w5.heap.size, 0, none⟩ = some (.int .i64 yc) ∧ W.cell? ⟨w5.heap.size, 1, none⟩ = some (.int .i64 ys) ∧ W.cell? ⟨w5.heap.size, 2, none⟩ = some (.int .i64 yk) ∧ W.cell? ⟨w5.heap.size, 3, none⟩ = some (.int .i64 yn) ∧ W.cell? ⟨w5.heap.size, 4, none⟩ = some (.int .i64 yd) ∧ W.cell? ⟨w5.heap.size, 5, none⟩ = some (.slice a5 YN c5)) := Lib.hid fun W hb => ⟨(hb.cell (lt_of_cell hx.1)).trans hx.1, (hb.cell (lt_of_cell hx.2.1)).trans hx.2.1, (hb.cell (lt_of_cell hx.2.2.1)).trans hx.2.2.1, (hb.cell (lt_of_cell hx.2.2.2.1)).trans hx.2.2.2.1, (hb.cell (lt_of_cell hx.2.2.2.2.1)).trans hx.2.2.2.2.1, (hb.cell (lt_of_cell hx.2.2.2.2.2)).trans hx.2.2.2.2.2⟩
      clear hW6 hx HB5 HR5
      go_upto_region 18 with (go_at_call 16; refine (KQ.out _ HB6.out).mono ?_; rintro e w7 ⟨a7, c7, rfl, hr7, hb7⟩; have HR7 := Lib.hid hr7; have HB7 := Lib.hid hb7; clear hr7 hb7)
      obtain ⟨W8, hW8⟩ : ∃ W8, W8 = w7.alloc (.cells #[.int .i64 yc, .int .i64 ys, .int .i64 yk, .int .i64 yn, .int .i64 yd, .slice a7 YN c7] 35) := ⟨_, rfl⟩
      have HB68 : Hid (Below W6.heap.size W6 W8) := Lib.hid (by rw [hW8]; exact stepAlloc HB7.out _)
      have HB8 := Lib.hid (step HB6.out HB68.out)
      have HR8 : Hid (Cm.RdH W8 (.slice a7 YN c7) yl) := Lib.hid (by rw [hW8]; exact HR7.out.later (newAlloc _ _))
      have HR68 := Lib.hid (HR6.out.later HB68.out)
      obtain ⟨z0, z1, z2, z3, z4, z5⟩ := Cm.box6 (Below.refl _ (w7.alloc (.cells #[.int .i64 yc, .int .i64 ys, .int .i64 yk, .int .i64 yn, .int .i64 yd, .slice a7 YN c7] 35)))
      obtain ⟨x0, x1, x2, x3, x4, x5⟩ := HX6.out _ HB68.out
      rw [← hW8] at z0 z1 z2 z3 z4 z5 ⊢
      clear hW8 HB7 HR7 HX6 HR6 HB68
      have hn8 := newAlloc W8 (.cells #[.int .i64 yc, .int .i64 ys, .int .i64 yk, .int .i64 yn, .int .i64 yd, .slice a5 YN c5] 35)
      have t0 := (hn8.cell (lt_of_cell z0)).trans z0
      have t1 := (hn8.cell (lt_of_cell z1)).trans z1
      have t2 := (hn8.cell (lt_of_cell z2)).trans z2
      have t3 := (hn8.cell (lt_of_cell z3)).trans z3
      have t4 := (hn8.cell (lt_of_cell z4)).trans z4
      have t5 := (hn8.cell (lt_of_cell z5)).trans z5
      clear hn8
      have KS : Hid (Calls Try.prog 11 #[.slice (some ⟨W8.heap.size, 0, none⟩) 1 1, .slice (some ⟨W8.heap.size + 1, 0, none⟩) 1 1] ((W8.alloc (.cells #[.int .i64 yc, .int .i64 ys, .int .i64 yk, .int .i64 yn, .int .i64 yd, .slice a5 YN c5] 35)).alloc (.cells #[.int .i64 yc, .int .i64 ys, .int .i64 yk, .int .i64 yn, .int .i64 yd, .slice a7 YN c7] 35)) (Cm.SaysB true ((W8.alloc (.cells #[.int .i64 yc, .int .i64 ys, .int .i64 yk, .int .i64 yn, .int .i64 yd, .slice a5 YN c5] 35)).alloc (.cells #[.int .i64 yc, .int .i64 ys, .int .i64 yk, .int .i64 yn, .int .i64 yd, .slice a7 YN c7] 35)))) := Lib.hid (Cm.same_mems _ _ [(⟨⟨yc, ys, ⟨yk, yn, yd, yl⟩⟩, a5, c5⟩ : Cm.MemC)] [(⟨⟨yc, ys, ⟨yk, yn, yd, yl⟩⟩, a7, c7⟩ : Cm.MemC)] _
        ⟨RdX.one (Cm.alloc_one W8 _ _) (by unfold Cm.cellsM Cm.MemC.hv; dsimp only; rw [HYN.out]), fun x hx => by rw [List.mem_singleton] at hx; subst hx; unfold Cm.MemC.hv; dsimp only; rw [HYN.out]; exact HR68.out.later (step (newAlloc _ _) (newAlloc _ _))⟩
        ⟨RdX.one (Cm.alloc_two W8 _ _) (by unfold Cm.cellsM Cm.MemC.hv; dsimp only; rw [HYN.out]), fun x hx => by rw [List.mem_singleton] at hx; subst hx; unfold Cm.MemC.hv; dsimp only; rw [HYN.out]; exact HR8.out.later (step (newAlloc _ _) (newAlloc _ _))⟩ rfl)
      go_wp2_with (first
        | (go_at_call 11; refine KS.out.mono ?_; rintro e w9 ⟨rfl, hb9⟩; have HB9 := Lib.hid (step (stepAlloc (stepAlloc HB8.out _) _) hb9); clear hb9)
        | (go_at_call 13; refine (KF.out _ HB9.out).mono ?_; rintro e w10 ⟨rfl, hb10⟩; have HB10 := Lib.hid (step HB9.out hb10); clear hb10)
        | (go_at_call 14; refine (KG.out _ HB10.out).mono ?_; rintro e w11 ⟨rfl, hb11⟩; have HB11 := Lib.hid (step HB10.out hb11); clear hb11)
        | (go_at_call 8; refine (C0.out _).mono ?_; rintro e w12 ⟨rfl, hb12⟩))
      go_ret
      exact ⟨rfl, step HB.out (step HB11.out hb12)⟩

/-! ### THE ROW's STEP -/
set_option maxRecDepth 100000 in
theorem lifted (os : Os) (started : os.Started) (H : Type) (enc : TypeId × Value → H) :
    ReturnsInHanded {} Try.checked os 3 .any (Rows.memoRunsSpec.pre6 enc Try.prog Try.f3 Rows.memoRunsRow.domain false) (Rows.memoRunsSpec.post enc Try.prog Try.f3 false true false false) := by
  refine returnsInHanded_of_change (C := Try.checked) own started (by kernel_rfl) Try.func3
    (ChangeSpec.witness6 (enc := enc) (C := Try.checked) false ⟨#[], #[.slice none 0 0, .int .i64 0, .int .i64 0], []⟩ 8 (by kernel_rfl) (by kernel_rfl) (by kernel_rfl) (by kernel_rfl)) ?_
  intro W base args ds gs before hval0 hW hcnd _
  have hval : ∀ (j : Nat) t v, Try.f3.params[j]? = some t → args[j]? = some v → Value.okWide Try.prog W .any base t v := hval0
  have hW' := hW
  obtain ⟨p, q, hA0, hV, rfl, hfz, hnd⟩ := hW
  have hA : DataW.TrodAll enc Try.prog W 0 (fun _ => true) true Try.f3.params.toList args.toList ds p := hA0
  rw [Try.params3] at hA hval
  obtain ⟨v0, vs0, d0, ds0, p0, q0, hargs, rfl, rfl, h0, r0⟩ := trodAll_cons hA
  obtain ⟨v1, vs1, d1, ds1, p1, q1, rfl, rfl, rfl, h1, r1⟩ := trodAll_cons r0
  obtain ⟨v2, vs2, d2, ds2, p2, q2, rfl, rfl, rfl, h2, r2⟩ := trodAll_cons r1
  obtain ⟨rfl, rfl, rfl⟩ := trodAll_nil r2
  obtain rfl : args = #[v0, v1, v2] := by cases args; simp_all
  obtain ⟨rfl, rfl⟩ := trodVars_none hV
  have k0 := h0
  have lt0 : ∀ x ∈ p0, x.block < W.heap.size := by obtain ⟨m, hm⟩ := k0; exact DataW.trod_lt m _ _ _ hm
  obtain ⟨a0, rfl, w0⟩ := Cm.open_anss (hval 0 22 v0 rfl rfl) h0
  obtain ⟨a1, rfl, rfl, rfl, w1⟩ := open_int Try.underlying3 (hval 1 3 v1 rfl rfl) h1
  obtain ⟨a2, rfl, rfl, rfl, w2⟩ := open_int Try.underlying3 (hval 2 3 v2 rfl rfl) h2
  clear hA0 hval0
  refine (walk a0 a1 a2 W w0 w1 w2).mono fun e W' ⟨he, bel⟩ => ?_
  subst he
  exact ⟨_, rfl, _, _, _, [], _, [], hW', trodAll_mk1 (shut_bool Try.underlying4 _), (trodAll_cons_mk (Below.trod laidOut (by kernel_rfl) (of_decide_eq_true (by kernel_rfl)) k0 bel lt0) (trodAll_cons_mk (shut_int Try.underlying3 w1) (trodAll_cons_mk (shut_int Try.underlying3 w2) trodAll_mk0))), rfl, bel.frame _, fun h => by cases h⟩

theorem over : Rows.memoRunsRow.holds Try.pinned (OpenSpec.ofChange Rows.memoRunsSpec) :=
  OpenClaim.holds_of_wide 3 Try.f3 rfl rfl rfl rfl rfl rfl rfl ⟨rfl, rfl, rfl, rfl, rfl⟩ rfl rfl rfl rfl rfl (by kernel_rfl) Try.func3 (by kernel_rfl)
    (of_decide_eq_true (by kernel_rfl)) (by unfold Func.isWrapper; first | (rw [if_pos (by decide +kernel)]; kernel_rfl) | (rw [if_neg (by decide +kernel)]; exact ⟨rfl, rfl⟩))
    (fun os started H enc _ => lifted os started H enc)

/-- THE STATEMENT -/
theorem proved : Rows.MemoRunsSaid := over
end Go.Proofs.Ytfkpgndbohoogaa.memoRuns
