/- PROVED: the statement SessionBack of layer 6: for every input that can be read, the law returns true and leaves its arguments as they were. No condition. -/
import Derived.Test.YtkhcnhfdcbellaaRows
import Derived.Test.YtkhcnhfdcbellaaLaw6B
import Derived.WalkKit
import Derived.ProofKit
import Derived.OpenShut
import Derived.ShutString
import Derived.ChangeOld
import Derived.Below
import Derived.Deep.Cut
import Derived.Deep.CutBlock
import Derived.Deep.DeepCutAuto
namespace Go.Proofs.Ytkhcnhfdcbellaa.sessionBack
open Go.ChangeShapes Go.WideShapes Go.ChangeAt Go.RowKit
open Go.ChangeMaps (open_string shut_string)
open Go.Sort (grow)
set_option linter.unusedVariables false

theorem own : ownKnob Try.prog.godebug = none := by kernel_rfl
theorem laidOut : laidOutB Try.prog = true := by kernel_rfl

/-! ### STEP 1: THE WALK -/
set_option maxRecDepth 100000 in
set_option maxHeartbeats 4000000 in
theorem walk (a0 : Option Addr) (len0 cap0 : Nat) (z0 : List Int) (a1 : Int) (a2 : Int) (w : World) (w0 : IsRow .u8 w a0 len0 cap0 z0) (w1 : (Lit.int .u8 a1).wf = true) (w2 : (Lit.int .u16 a2).wf = true) :
    Calls Try.prog 5 #[.slice a0 len0 cap0, .int .u8 a1, .int .u16 a2] w fun e w' => e = .returned (.bool true) ∧ Below w.heap.size w w' := by
  obtain ⟨hr, hrl⟩ := w0.rd
  generalize bytesOf z0 len0 = NS at hr hrl
  have ha1 : 0 ≤ a1 ∧ a1 ≤ 255 := by have := w1; simp [Lit.wf, IntKind.min, IntKind.max, IntKind.signed, IntKind.bits] at this; omega
  have ha2 : 0 ≤ a2 ∧ a2 ≤ 65535 := by have := w2; simp [Lit.wf, IntKind.min, IntKind.max, IntKind.signed, IntKind.bits] at this; omega
  clear w0 w1 w2
  have C0 := Lib.hid (fun w => Cm.awake6_ok w)
  have CS := Lib.hid ((Cm.Sessions_any _ NS w hr).mono fun e w' h => Cm.MadeF.s h)
  clear hr
  have v1 : IntKind.i64.wrap a1 = a1 := by rw [IntKind.wrap_i64]; omega
  have v2 : IntKind.i64.wrap a2 = a2 := by rw [IntKind.wrap_i64]; omega
  obtain ⟨c, hc⟩ : ∃ c, a1.tmod 8 = c := ⟨_, rfl⟩
  have hcr : 0 ≤ c ∧ c < 8 := by rw [← hc, Int.tmod_eq_emod_of_nonneg (by omega)]; omega
  have v3 : IntKind.i64.wrap c = c := by rw [IntKind.wrap_i64]; omega
  obtain ⟨i0, hi, hz0, hz1, hz2⟩ := info_parts Cm.infoS
  go_enter Try.func5, Try.ntmps5
  go_upto_region 2 with (go_at_call 23; refine CS.out.mono ?_; rintro e w1 ⟨l, la, lp, rfl, hf, hl, hb1⟩)
  clear CS hrl
  have hm := hl.len
  have h5 := ((Cm.rightS_iff l).1 hf.right).1
  have HR := Lib.hid hf.right
  have HL := Lib.hid hl
  have HB1 := Lib.hid hb1
  have BC := Cm.back_cases l hf c a2 hcr ha2
  have hB2 := newAlloc w1 (.cells #[] 34)
  have HL2 := Lib.hid (hl.later hB2)
  go_upto_region 3 with (at_builtin; refine wpList_append_rdx Cm.cellsS_length (by omega) Cm.cellsS_one rfl _ _ 24 rfl w1.heap.size 34 i0 _ 24 Try.underlying24 hi hz0 hz1 hz2 rfl _ 0 [] rfl (own_new w1 _ 3 _ _ rfl (Nat.le_refl _)) _ l rfl (HL2.out) (by unfold maxLen; omega) (by omega) (newAlloc w1 (.cells #[] 34)).size ?_; intro v5 w2 hown2 hgrow2)
  have hb2 : Below w1.heap.size w1 w2 := (newAlloc w1 (.cells #[] 34)).grown hgrow2 (newAlloc w1 (.cells #[] 34)).size (fun k hk => by cases hk; exact Nat.le_refl _)
  have hwas : Cm.RdS w2 v5 l := RdX.own Cm.cellsS_length (by simpa using hown2)
  obtain ⟨wa, wp, rfl⟩ := hwas.form
  have HBW := Lib.hid (step HB1.out hb2)
  have HL3 := Lib.hid (HL.out.later hb2)
  have HWA := Lib.hid hwas
  have FN := Lib.hid (Cm.SesFind_any _ l c w2 HL3.out)
  have KO := Lib.hid (fun (w' : World) (hb : Below w2.heap.size w2 w') => (Cm.SesOpen_any _ l c 9999 a2 w' (HL3.out.later hb)).mono fun e w' h => Cm.GetsS.s h)
  have KR := Lib.hid (fun (w' : World) (hb : Below w2.heap.size w2 w') => Cm.SesRight_any _ l w' (HL3.out.later hb))
  rw [HR.out] at KR
  have hsame : Cm.sameL l l = true := (Cm.sameL_iff _ _).2 rfl
  have KS := Lib.hid (fun (w' : World) (hb : Below w2.heap.size w2 w') => Cm.SameSes_any _ _ l l w' (HL3.out.later hb) (HWA.out.later hb))
  rw [hsame] at KS
  have HF := Lib.hid hf
  clear hB2 HL2 hown2 hgrow2 hb2 hwas hf hl hb1 HB1 HL hsame HWA
  rcases BC with ⟨hfd, ho, hrn, hrr, K, hk1, hk2, hk3⟩ | ⟨hfd, h55, ho⟩ | ⟨hfd, h55, M, ho, hmr, hmc, hmf⟩
  · rw [ho] at KO
    have KN := Lib.hid (fun (w' : World) (hb : Below w2.heap.size w2 w') => (Cm.SesRenew_any _ l c a2 w' (HL3.out.later hb) HR.out).mono fun e w' h => Cm.GetsS.s h)
    have KC := Lib.hid (fun (w' : World) (hb : Below w2.heap.size w2 w') => (Cm.SesClose_any _ l c w' (HL3.out.later hb) HR.out).mono fun e w' h => Cm.GetsS.s h)
    rw [hrn] at KN
    rw [hk1] at KC
    have KA := Lib.hid (fun v (w' : World) (h : Cm.RdS w' v (l.map (Cm.renewE c a2))) => Cm.SesRight_any v _ w' h)
    have KB := Lib.hid (fun v (w' : World) (h : Cm.RdS w' v K) => Cm.SesRight_any v _ w' h)
    rw [hrr] at KA
    rw [hk3] at KB
    have HN : Hid (∀ i (hi : i < l.length) (hi2 : i < (l.map (Cm.renewE c a2)).length), (l.map (Cm.renewE c a2))[i]'hi2 = Cm.renewE c a2 (l[i]'hi)) := Lib.hid (fun i hi hi2 => List.getElem_map _)
    have hNL : (l.map (Cm.renewE c a2)).length = l.length := List.length_map _
    have HNL := Lib.hid hNL
    unfold Cm.GetsSS at KO KN KC
    dsimp only at KO KN KC
    rw [hNL] at KN
    simp only [List.length_nil] at KO
    generalize l.map (Cm.renewE c a2) = N at KN KA HN HNL
    clear hrn hk1 hrr hk3 ho hNL
    obtain ⟨L, hL⟩ : ∃ L, l.length = L := ⟨_, rfl⟩
    have HLL := Lib.hid hL
    rw [hL] at hm h5 KR KS KO KN KC FN hk2 HL3 ⊢
    clear hL
    generalize Cm.findS l c = fr at FN hfd
    obtain ⟨⟨fc, fn, ft⟩, fb⟩ := fr
    dsimp only at hfd
    subst hfd
    unfold Cm.Found Cm.sesVal at FN
    dsimp only at FN
    have v4 : IntKind.i64.wrap ((L : Int) - 1) = (K.length : Int) := by rw [IntKind.wrap_i64]; omega
    clear hk2
    go_upto_region 15 with (first
      | (go_at_call 16; refine FN.out.mono ?_; rintro e w3 ⟨rfl, hb3⟩; have HB3 := Lib.hid (stepAlloc hb3 (.cells #[.int .i64 fc, .int .i64 fn, .int .i64 ft] 34)); clear hb3)
      | (go_at_call 9; refine (KO.out _ HB3.out).mono ?_; rintro e w4 ⟨oa, op, rfl, -, hb4⟩; have HB4 := Lib.hid (step HB3.out hb4); clear hb4)
      | (go_at_call 11; refine (KN.out _ HB4.out).mono ?_; rintro e w5 ⟨na, np, rfl, hn5, hb5⟩; have HB5 := Lib.hid (step HB4.out hb5); have HN5 := Lib.hid hn5; clear hb5 hn5)
      | (go_at_call 13; refine (KC.out _ HB5.out).mono ?_; rintro e w6 ⟨ka, kp, rfl, hk6, hb6⟩; have HB6 := Lib.hid (step HB5.out hb6); have HN6 := Lib.hid (HN5.out.later hb6); have HK6 := Lib.hid hk6; clear hb6 hk6))
    go_wp2_with fail
    refine (KA.out _ _ HN6.out).mono ?_
    rintro e w7 ⟨rfl, hb7⟩
    go_wp2_with fail
    refine (KB.out _ _ (HK6.out.later hb7)).mono ?_
    rintro e w8 ⟨rfl, hb8⟩
    have HB8 := Lib.hid (step HB6.out (step hb7 hb8))
    have HN8 := Lib.hid (HN6.out.later (step hb7 hb8))
    have HL8 := Lib.hid (HL3.out.later HB8.out)
    clear hb7 hb8
    go_wp2
    have HA := Lib.hid (fun i hi => Cm.rds_at HL8.out i hi)
    have HB := Lib.hid (fun i hi => Cm.rds_at HN8.out i hi)
    go_loopw [18] (fun i wr => ∃ k : Nat, k ≤ L ∧ i = .int .i64 (k : Int) ∧ Hid (Below w8.heap.size w8 wr)) (fun i _ => L - (intOf i).toNat)
    case atStart => exact ⟨0, by omega, rfl, Lib.hid (Below.refl _ _)⟩
    case round =>
      obtain ⟨k, hk, rfl, HBR⟩ := hrel
      by_cases hlt : k < L
      · have hkl : k < l.length := by rw [HLL.out]; exact hlt
        have hkn : k < N.length := by rw [HNL.out, HLL.out]; exact hlt
        obtain ⟨b, o, rfl, hc2⟩ := HA.out k hkl
        obtain ⟨q0, q1, q2⟩ := hc2 _ HBR.out
        obtain ⟨b', o', rfl, hc3⟩ := HB.out k hkn
        obtain ⟨p0, p1, p2⟩ := hc3 _ HBR.out
        rw [HN.out k hkl hkn] at p0 p1 p2
        clear hc2 hc3 HA HB HN8 HL8 HN HNL HLL C0 KR KS KA KB KN KC KO FN HF HR
        generalize l[k] = g at q0 q1 q2 p0 p1 p2
        obtain ⟨gc, gn, gr⟩ := g
        unfold Cm.renewE at p0 p1 p2
        dsimp only at q0 q1 q2 p0 p1 p2
        have g1 : (0 : Int) ≤ (k : Int) := by omega
        have g2 : (k : Int) < (L : Int) := by omega
        by_cases e1 : gc = c
        · have d1 : (gc == c) = true := by simpa using e1
          have d2 : (gc != c) = false := by simp [e1]
          rw [if_pos e1] at p0 p1 p2
          dsimp only at p0 p1 p2
          clear e1
          by_cases e2 : gr < a2
          · have d3 : decide (gr < a2) = true := decide_eq_true e2
            have d4 : (a2 != gr) = true := by simp; omega
            rw [if_pos e2] at p2
            go_upto_region 20 with fail
            simp only [List.append_eq, List.cons_append, List.nil_append]
            go_quiet (fail)
            go_wp2
            go_roundw
            case rel => exact ⟨k + 1, by omega, by go_num, Lib.hid (Cm.below_drewN6 HBR.out nq)⟩
            case measure => simp [intOf]; omega
          · have d3 : decide (gr < a2) = false := decide_eq_false e2
            rw [if_neg e2] at p2
            go_upto_region 20 with fail
            simp only [List.append_eq, List.cons_append, List.nil_append]
            go_quiet (fail)
            go_wp2
            go_roundw
            case rel => exact ⟨k + 1, by omega, by go_num, Lib.hid (Cm.below_drewN6 HBR.out nq)⟩
            case measure => simp [intOf]; omega
        · have d1 : (gc == c) = false := by simpa using e1
          have d2 : (gc != c) = true := by simpa using e1
          rw [if_neg e1] at p0 p1 p2
          dsimp only at p0 p1 p2
          clear e1
          by_cases e2 : gr < a2
          · have d3 : decide (gr < a2) = true := decide_eq_true e2
            have d4 : (gr != a2) = true := by simp; omega
            go_upto_region 20 with fail
            simp only [List.append_eq, List.cons_append, List.nil_append]
            go_quiet (fail)
            go_wp2
            go_roundw
            case rel => exact ⟨k + 1, by omega, by go_num, Lib.hid (Cm.below_drewN6 HBR.out nq)⟩
            case measure => simp [intOf]; omega
          · have d3 : decide (gr < a2) = false := decide_eq_false e2
            go_upto_region 20 with fail
            simp only [List.append_eq, List.cons_append, List.nil_append]
            go_quiet (fail)
            go_wp2
            go_roundw
            case rel => exact ⟨k + 1, by omega, by go_num, Lib.hid (Cm.below_drewN6 HBR.out nq)⟩
            case measure => simp [intOf]; omega
      · obtain rfl : k = L := by omega
        clear HA HB HN8 HL8 HN HNL HLL
        have HB8 := Lib.hid (step HB8.out HBR.out)
        go_wp2_with fail
        refine (KR.out _ HB8.out).mono ?_
        rintro e w9 ⟨rfl, hb9⟩
        go_wp2_with fail
        refine (KS.out _ (step HB8.out hb9)).mono ?_
        rintro e w10 ⟨rfl, hb10⟩
        have HB10 := Lib.hid (step (step HB8.out hb9) hb10)
        clear hb9 hb10
        go_wp2_with (go_at_call 8; refine (C0.out _).mono ?_; rintro e w22 ⟨rfl, hb22⟩)
        go_ret
        exact ⟨rfl, step (step HBW.out HB10.out) hb22⟩
  · rw [ho] at KO
    unfold Cm.GetsSS at KO
    obtain ⟨L, hL⟩ : ∃ L, l.length = L := ⟨_, rfl⟩
    rw [hL] at hm h5 KR KS KO FN h55 ⊢
    subst h55
    generalize Cm.findS l c = fr at FN hfd
    obtain ⟨⟨fc, fn, ft⟩, fb⟩ := fr
    dsimp only at hfd
    subst hfd
    unfold Cm.Found Cm.sesVal at FN
    dsimp only at FN KO
    simp only [List.length_nil] at KO
    go_upto_region 5 with (go_at_call 16; refine FN.out.mono ?_; rintro e w3 ⟨rfl, hb3⟩; have HB3 := Lib.hid (stepAlloc hb3 (.cells #[.int .i64 fc, .int .i64 fn, .int .i64 ft] 34)); clear hb3)
    go_upto_region 10 with (go_at_call 9; refine (KO.out _ HB3.out).mono ?_; rintro e w4 ⟨oa, op, rfl, -, hb4⟩; have HB4 := Lib.hid (step HB3.out hb4); clear hb4)
    go_upto_region 25 with fail
    go_wp2_with (first
      | (go_at_call 18; refine (KR.out _ HB4.out).mono ?_; rintro e w20 ⟨rfl, hb20⟩; have HB20 := Lib.hid (step HB4.out hb20); clear hb20)
      | (go_at_call 15; refine (KS.out _ HB20.out).mono ?_; rintro e w21 ⟨rfl, hb21⟩; have HB21 := Lib.hid (step HB20.out hb21); clear hb21)
      | (go_at_call 8; refine (C0.out _).mono ?_; rintro e w22 ⟨rfl, hb22⟩))
    go_ret
    exact ⟨rfl, step (step HBW.out HB21.out) hb22⟩
  · rw [ho] at KO
    unfold Cm.GetsSS at KO
    dsimp only at KO
    have KC := Lib.hid (fun v (w' : World) (h : Cm.RdS w' v M) => (Cm.SesClose_any _ M c w' h hmr).mono fun e w' h => Cm.GetsS.s h)
    rw [hmc] at KC
    have KF := Lib.hid (fun v (w' : World) (h : Cm.RdS w' v M) => Cm.SesFind_any _ M c w' h)
    rw [hmf] at KF
    have KM := Lib.hid (fun v (w' : World) (h : Cm.RdS w' v M) => Cm.SesRight_any _ M w' h)
    rw [hmr] at KM
    have hsame : Cm.sameL l l = true := (Cm.sameL_iff _ _).2 rfl
    have KT := Lib.hid (fun u (w' : World) (h : Cm.RdS w' u l) (hb : Below w2.heap.size w2 w') => Cm.SameSes_any u _ l l w' h (HL3.out.later hb))
    rw [hsame] at KT
    obtain ⟨L, hL⟩ : ∃ L, l.length = L := ⟨_, rfl⟩
    unfold Cm.GetsSS at KC
    dsimp only at KC
    have z5 : ((L : Int) == 5) = false := by simp; omega
    rw [hL] at hm h5 KR KS KC KT FN KO h55 ⊢
    clear hL
    generalize Cm.findS l c = fr at FN hfd
    obtain ⟨⟨fc, fn, ft⟩, fb⟩ := fr
    dsimp only at hfd
    subst hfd
    unfold Cm.Found Cm.sesVal at FN KF
    dsimp only at FN KF
    clear hmr hmc hmf ho hsame
    go_upto_region 6 with (first
      | (go_at_call 16; refine FN.out.mono ?_; rintro e w3 ⟨rfl, hb3⟩; have HB3 := Lib.hid (stepAlloc hb3 (.cells #[.int .i64 fc, .int .i64 fn, .int .i64 ft] 34)); clear hb3)
      | (go_at_call 9; refine (KO.out _ HB3.out).mono ?_; rintro e w4 ⟨oa, op, rfl, ho4, hb4⟩; have HB4 := Lib.hid (step HB3.out hb4); have HO4 := Lib.hid ho4; clear hb4 ho4))
    go_upto_region 7 with (go_at_call 13; refine (KC.out _ _ HO4.out).mono ?_; rintro e w5 ⟨ca, cp, rfl, hc5, hb5⟩; have HB5 := Lib.hid (step HB4.out hb5); have HO5 := Lib.hid (HO4.out.later hb5); have HC5 := Lib.hid hc5; clear hb5 hc5)
    go_wp2_with fail
    refine (KF.out _ _ HO5.out).mono ?_
    rintro e w6 ⟨rfl, hb6⟩
    have hq := stepAlloc hb6 (.cells #[.int .i64 c, .int .i64 9999, .int .i64 a2] 34)
    have HB6 := Lib.hid (step HB5.out hq)
    have HO6 := Lib.hid (HO5.out.later hq)
    have HC6 := Lib.hid (HC5.out.later hq)
    obtain ⟨y0, y1, y2⟩ := Cm.tri_cells (Cm.alloc_at6 w6 (.cells #[.int .i64 c, .int .i64 9999, .int .i64 a2] 34))
    clear hb6 hq z5
    go_wp2_with fail
    refine (KM.out _ _ HO6.out).mono ?_
    rintro e w7 ⟨rfl, hb7⟩
    go_wp2_with fail
    refine (KT.out _ _ (HC6.out.later hb7) (step HB6.out hb7)).mono ?_
    rintro e w8 ⟨rfl, hb8⟩
    have HB8 := Lib.hid (step (step HB6.out hb7) hb8)
    clear hb7 hb8 y0 y1 y2
    go_wp2_with fail
    refine (KR.out _ HB8.out).mono ?_
    rintro e w9 ⟨rfl, hb9⟩
    go_wp2_with fail
    refine (KS.out _ (step HB8.out hb9)).mono ?_
    rintro e w10 ⟨rfl, hb10⟩
    have HB10 := Lib.hid (step (step HB8.out hb9) hb10)
    clear hb9 hb10
    go_wp2_with (go_at_call 8; refine (C0.out _).mono ?_; rintro e w22 ⟨rfl, hb22⟩)
    go_ret
    exact ⟨rfl, step (step HBW.out HB10.out) hb22⟩

/-! ### THE ROW's STEP -/
set_option maxRecDepth 100000 in
theorem lifted (os : Os) (started : os.Started) (H : Type) (enc : TypeId × Value → H) :
    ReturnsInHanded {} Try.checked os 5 .any (Rows.sessionBackSpec.pre6 enc Try.prog Try.f5 Rows.sessionBackRow.domain false) (Rows.sessionBackSpec.post enc Try.prog Try.f5 false true false false) := by
  refine returnsInHanded_of_change (C := Try.checked) own started (by kernel_rfl) Try.func5
    (ChangeSpec.witness6 (enc := enc) (C := Try.checked) false ⟨#[], #[.slice none 0 0, .int .u8 0, .int .u16 0], []⟩ 8 (by kernel_rfl) (by kernel_rfl) (by kernel_rfl) (by kernel_rfl)) ?_
  intro W base args ds gs before hval0 hW hcnd _
  have hval : ∀ (j : Nat) t v, Try.f5.params[j]? = some t → args[j]? = some v → Value.okWide Try.prog W .any base t v := hval0
  have hW' := hW
  obtain ⟨p, q, hA0, hV, rfl, hfz, hnd⟩ := hW
  have hA : DataW.TrodAll enc Try.prog W 0 (fun _ => true) true Try.f5.params.toList args.toList ds p := hA0
  rw [Try.params5] at hA hval
  obtain ⟨v0, vs0, d0, ds0, p0, q0, hargs, rfl, rfl, h0, r0⟩ := trodAll_cons hA
  obtain ⟨v1, vs1, d1, ds1, p1, q1, rfl, rfl, rfl, h1, r1⟩ := trodAll_cons r0
  obtain ⟨v2, vs2, d2, ds2, p2, q2, rfl, rfl, rfl, h2, r2⟩ := trodAll_cons r1
  obtain ⟨rfl, rfl, rfl⟩ := trodAll_nil r2
  obtain rfl : args = #[v0, v1, v2] := by cases args; simp_all
  obtain ⟨rfl, rfl⟩ := trodVars_none hV
  obtain ⟨a0, len0, cap0, rfl⟩ := okWide_slice Try.underlying42 (hval 0 42 v0 rfl rfl)
  have k0 := h0
  have lt0 : ∀ x ∈ p0, x.block < W.heap.size := by obtain ⟨m, hm⟩ := k0; exact DataW.trod_lt m _ _ _ hm
  obtain ⟨z0, w0⟩ : ∃ zs, IsRow .u8 W a0 len0 cap0 zs := by
    obtain ⟨fuel, hf⟩ := h0
    rcases open_ints Try.underlying42 Try.underlying5 (by kernel_rfl) hf with ⟨hcs, _⟩ | ⟨x, l, c, zs, hcs, _, hl, hm, hz, _, hcell, hwz⟩
    · simp [Value.cells] at hcs
      obtain ⟨rfl, rfl, rfl⟩ := hcs
      exact ⟨[], .inl ⟨rfl, rfl, rfl, rfl⟩⟩
    · simp [Value.cells] at hcs
      obtain ⟨rfl, rfl, rfl⟩ := hcs
      exact ⟨zs, .inr ⟨_, rfl, hl, hm, by simpa using hz, hcell, hwz⟩⟩
  obtain ⟨a1, rfl, rfl, rfl, w1⟩ := open_int Try.underlying5 (hval 1 5 v1 rfl rfl) h1
  obtain ⟨a2, rfl, rfl, rfl, w2⟩ := open_int Try.underlying43 (hval 2 43 v2 rfl rfl) h2
  clear hA0 hval0
  refine (walk a0 len0 cap0 z0 a1 a2 W w0 w1 w2).mono fun e W' ⟨he, bel⟩ => ?_
  subst he
  exact ⟨_, rfl, _, _, _, [], _, [], hW', trodAll_mk1 (shut_bool Try.underlying4 _), (trodAll_cons_mk (Below.trod laidOut (by kernel_rfl) (of_decide_eq_true (by kernel_rfl)) k0 bel lt0) (trodAll_cons_mk (shut_int Try.underlying5 w1) (trodAll_cons_mk (shut_int Try.underlying43 w2) trodAll_mk0))), rfl, bel.frame _, fun h => by cases h⟩

theorem over : Rows.sessionBackRow.holds Try.pinned (OpenSpec.ofChange Rows.sessionBackSpec) :=
  OpenClaim.holds_of_wide 5 Try.f5 rfl rfl rfl rfl rfl rfl rfl ⟨rfl, rfl, rfl, rfl, rfl⟩ rfl rfl rfl rfl rfl (by kernel_rfl) Try.func5 (by kernel_rfl)
    (of_decide_eq_true (by kernel_rfl)) (by unfold Func.isWrapper; first | (rw [if_pos (by decide +kernel)]; kernel_rfl) | (rw [if_neg (by decide +kernel)]; exact ⟨rfl, rfl⟩))
    (fun os started H enc _ => lifted os started H enc)

/-- THE STATEMENT -/
theorem proved : Rows.SessionBackSaid := over
end Go.Proofs.Ytkhcnhfdcbellaa.sessionBack
