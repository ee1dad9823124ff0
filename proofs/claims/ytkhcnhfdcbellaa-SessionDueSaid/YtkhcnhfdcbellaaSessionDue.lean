/- PROVED: the statement SessionDue of layer 6: for every input that can be read, the law returns true and leaves its arguments as they were. No condition. -/
import Derived.Test.YtkhcnhfdcbellaaRows
import Derived.Test.YtkhcnhfdcbellaaLaw6
import Derived.WalkKit
import Derived.ProofKit
import Derived.OpenShut
import Derived.ShutString
import Derived.ChangeOld
import Derived.Below
import Derived.Deep.Cut
import Derived.Deep.CutBlock
import Derived.Deep.DeepCutAuto
namespace Go.Proofs.Ytkhcnhfdcbellaa.sessionDue
open Go.ChangeShapes Go.WideShapes Go.ChangeAt Go.RowKit
open Go.ChangeMaps (open_string shut_string)
open Go.Sort (grow)
set_option linter.unusedVariables false

theorem own : ownKnob Try.prog.godebug = none := by kernel_rfl
theorem laidOut : laidOutB Try.prog = true := by kernel_rfl

/-! ### STEP 1: THE WALK -/
set_option maxRecDepth 100000 in
set_option maxHeartbeats 4000000 in
theorem walk (a0 : Option Addr) (len0 cap0 : Nat) (z0 : List Int) (a1 : Int) (a2 : Int) (a3 : Int) (a4 : Int) (w : World) (w0 : IsRow .u8 w a0 len0 cap0 z0) (w1 : (Lit.int .u16 a1).wf = true) (w2 : (Lit.int .u8 a2).wf = true) (w3 : (Lit.int .u8 a3).wf = true) (w4 : (Lit.int .u8 a4).wf = true) :
    Calls Try.prog 6 #[.slice a0 len0 cap0, .int .u16 a1, .int .u8 a2, .int .u8 a3, .int .u8 a4] w fun e w' => e = .returned (.bool true) ∧ Below w.heap.size w w' := by
  obtain ⟨hr, hrl⟩ := w0.rd
  generalize bytesOf z0 len0 = NS at hr hrl
  have ha1 : 0 ≤ a1 ∧ a1 ≤ 65535 := by have := w1; simp [Lit.wf, IntKind.min, IntKind.max, IntKind.signed, IntKind.bits] at this; omega
  have ha2 : 0 ≤ a2 ∧ a2 ≤ 255 := by have := w2; simp [Lit.wf, IntKind.min, IntKind.max, IntKind.signed, IntKind.bits] at this; omega
  have ha3 : 0 ≤ a3 ∧ a3 ≤ 255 := by have := w3; simp [Lit.wf, IntKind.min, IntKind.max, IntKind.signed, IntKind.bits] at this; omega
  have ha4 : 0 ≤ a4 ∧ a4 ≤ 255 := by have := w4; simp [Lit.wf, IntKind.min, IntKind.max, IntKind.signed, IntKind.bits] at this; omega
  clear w0 w1 w2 w3 w4
  have C0 := Lib.hid (fun w => Cm.awake6_ok w)
  have CS := Lib.hid ((Cm.Sessions_any _ NS w hr).mono fun e w' h => Cm.MadeF.s h)
  clear hr
  have v1 : IntKind.i64.wrap a1 = a1 := by rw [IntKind.wrap_i64]; omega
  have v2 : IntKind.i64.wrap a2 = a2 := by rw [IntKind.wrap_i64]; omega
  have v3 : IntKind.i64.wrap a3 = a3 := by rw [IntKind.wrap_i64]; omega
  have v4 : IntKind.i64.wrap a4 = a4 := by rw [IntKind.wrap_i64]; omega
  obtain ⟨D, hD⟩ : ∃ D, 1 + a2 = D := ⟨_, rfl⟩
  have v5 : IntKind.i64.wrap (1 + a2) = D := by rw [IntKind.wrap_i64]; omega
  have hD1 : 1 ≤ D ∧ D ≤ 256 := by omega
  clear ha2 hD
  go_enter Try.func6, Try.ntmps6
  go_upto_region 3 with (go_at_call 23; refine CS.out.mono ?_; rintro e w1 ⟨l, la, lp, rfl, hf, hl, hb1⟩)
  clear CS hrl
  have hm := hl.len
  have HR := Lib.hid hf.right
  have HF := Lib.hid hf
  have h5 := ((Cm.rightS_iff l).1 hf.right).1
  have HL := Lib.hid hl
  have HB1 := Lib.hid hb1
  have ht1 : Cm.highF a1 0 = true := by unfold Cm.highF; simp; omega
  have ht2 : Cm.highF (a1 + a3) 0 = true := by unfold Cm.highF; simp; omega
  have hd1 : Cm.highF D 0 = true := by unfold Cm.highF; simp; omega
  have hDN : Cm.highF (-1) 0 = false := by decide +kernel
  have KD := Lib.hid (fun t d (w' : World) (hb : Below w1.heap.size w1 w') => (Cm.SesDue_any _ l t d w' (hl.later hb) (by omega) (Cm.right_ren hf.right)).mono fun e w' h => Cm.GetsN.s h)
  have E1 := Lib.hid (fun i (hi : i < l.length) => Cm.due_has hf.right ht1 hd1 (List.getElem_mem hi))
  have E2 := Lib.hid (fun i (hi : i < l.length) => Cm.due_has hf.right ht2 hd1 (List.getElem_mem hi))
  have EL := Cm.due_length l a1 D
  have N1 := Lib.hid (KD.out (-1) D)
  rw [Cm.due_none l (-1) D (by rw [hDN]; rfl)] at N1
  have N2 := Lib.hid (KD.out a1 (-1))
  rw [Cm.due_none l a1 (-1) (by rw [hDN, Bool.and_false])] at N2
  have K1 := Lib.hid (KD.out a1 D)
  have K2 := Lib.hid (KD.out (a1 + a3) D)
  generalize Cm.dueS l a1 D = U at E1 EL K1
  generalize Cm.dueS l (a1 + a3) D = V at E2 K2
  have hdl : U.length ≤ l.length := EL
  have HOK := Lib.hid (fun i (hi : i < l.length) => hf.ok l[i] (List.getElem_mem hi))
  clear hf hl hb1 EL ht2 KD
  obtain ⟨L, hL⟩ : ∃ L, l.length = L := ⟨_, rfl⟩
  have HLL := Lib.hid hL
  rw [hL] at hm h5 HL hdl K1 K2 N1 N2 ⊢
  clear hL
  have v6 : IntKind.i64.wrap (a1 + a3) = a1 + a3 := by rw [IntKind.wrap_i64]; omega
  have v7 : IntKind.i64.wrap (a1 + D) = a1 + D := by rw [IntKind.wrap_i64]; omega
  have v8 : IntKind.i64.wrap (a1 + D - 1) = a1 + D - 1 := by rw [IntKind.wrap_i64]; omega
  unfold Cm.GetsNS at K1 K2 N1 N2
  go_wp2_with fail
  refine (K1.out _ (Below.refl _ _)).mono ?_
  rintro e w2 ⟨ua, up, rfl, hu2, hb2⟩
  go_wp2_with fail
  refine (K2.out _ hb2).mono ?_
  rintro e w3 ⟨va, vp, rfl, hv3, hb3⟩
  have HU := Lib.hid (hu2.later hb3)
  have HV := Lib.hid hv3
  have HB3 := Lib.hid (step hb2 hb3)
  have HL3 := Lib.hid (HL.out.later HB3.out)
  have HA := Lib.hid (fun i hi => Cm.rds_at HL3.out i hi)
  clear hu2 hv3 hb2 hb3 K1 K2
  go_wp2
  go_loop [16] (fun i => ∃ k : Nat, k ≤ L ∧ i = .int .i64 (k : Int)) (fun i => L - (intOf i).toNat)
  case atStart => exact ⟨0, by omega, rfl⟩
  case round =>
    obtain ⟨k, hk, rfl⟩ := hrel
    by_cases hlt : k < L
    · have hkl : k < l.length := by rw [HLL.out]; exact hlt
      obtain ⟨b, o, rfl, hc⟩ := HA.out k hkl
      obtain ⟨q0, q1, q2⟩ := hc _ (Below.refl _ _)
      have o1 := HOK.out k hkl
      have I1 := Lib.hid (fun x => Cm.In_any _ U x w3 HU.out)
      have I2 := Lib.hid (fun x => Cm.In_any _ V x w3 HV.out)
      have f1 := E1.out k hkl
      have f2 := E2.out k hkl
      clear hc HA HL3 HL N1 N2 HR HF E1 E2 HOK C0
      generalize l[k] = g at q0 q1 q2 o1 f1 f2
      obtain ⟨gc, gn, gr⟩ := g
      dsimp only at q0 q1 q2 o1 f1 f2
      have g1 : (0 : Int) ≤ (k : Int) := by omega
      have g2 : (k : Int) < (L : Int) := by omega
      have v9 : IntKind.i64.wrap (a1 - gr) = a1 - gr := by rw [IntKind.wrap_i64]; omega
      by_cases e1 : D ≤ a1 - gr
      · have d1 : decide (D ≤ a1 - gr) = true := decide_eq_true e1
        have J1 := Lib.hid (I1.out gc)
        have J2 := Lib.hid (I2.out gc)
        rw [f1, d1] at J1
        rw [f2, decide_eq_true (by omega)] at J2
        clear I1 I2 f1 f2 e1 o1
        go_wp2_with fail
        refine J1.out.mono ?_
        rintro e w4 ⟨rfl, rfl⟩
        go_wp2_with fail
        refine J2.out.mono ?_
        rintro e w4 ⟨rfl, rfl⟩
        go_wp2
        go_round
        case rel => exact ⟨k + 1, by omega, by go_num⟩
        case measure => simp [intOf]; omega
      · have d1 : decide (D ≤ a1 - gr) = false := decide_eq_false e1
        have J1 := Lib.hid (I1.out gc)
        rw [f1, d1] at J1
        clear I1 I2 f1 f2 e1 o1
        go_wp2_with fail
        refine J1.out.mono ?_
        rintro e w4 ⟨rfl, rfl⟩
        go_wp2
        go_round
        case rel => exact ⟨k + 1, by omega, by go_num⟩
        case measure => simp [intOf]; omega
    · obtain rfl : k = L := by omega
      clear E1 E2 HA HU HV HOK
      obtain ⟨c, hc⟩ : ∃ c, a4.tmod 8 = c := ⟨_, rfl⟩
      have hcr : 0 ≤ c ∧ c < 8 := by rw [← hc, Int.tmod_eq_emod_of_nonneg (by omega)]; omega
      have v10 : IntKind.i64.wrap c = c := by rw [IntKind.wrap_i64]; omega
      have KR := Lib.hid ((Cm.SesRenew_any _ l c a1 w3 HL3.out HR.out).mono fun e w' h => Cm.GetsS.s h)
      have RC := Cm.renew_has l c a1 ht1 (fun s hs => (HF.out.ok s hs).2.2)
      have RR := Lib.hid (Cm.renewS_right l c a1 HR.out)
      generalize Cm.renewS l c a1 = RN at KR RC RR
      obtain ⟨R, rc⟩ := RN
      unfold Cm.GetsSS at KR
      dsimp only at KR RC RR
      have HBW := Lib.hid (step HB1.out HB3.out)
      clear HF hcr ha4
      rcases RC with hrc | ⟨rfl, s, hs, hsc, hs1, hs2⟩
      · have d1 : (rc == 0) = false := by simpa using hrc
        clear RR hrc
        go_wp2_with (go_at_call 11; refine KR.out.mono ?_; rintro e w4 ⟨ra, rp, rfl, -, hb4⟩; have HB4 := Lib.hid hb4; clear hb4)
        refine (N1.out _ (step HB3.out HB4.out)).mono ?_
        rintro e w5 ⟨na, np, rfl, -, hb5⟩
        go_wp2_with fail
        refine (N2.out _ (step (step HB3.out HB4.out) hb5)).mono ?_
        rintro e w6 ⟨na2, np2, rfl, -, hb6⟩
        go_wp2_with (go_at_call 8; refine (C0.out _).mono ?_; rintro e w7 ⟨rfl, hb7⟩)
        go_ret
        exact ⟨rfl, step (step (step (step HBW.out HB4.out) hb5) hb6) hb7⟩
      have hRR := RR.out rfl
      have hR5 := ((Cm.rightS_iff R).1 hRR).1
      have KM := Lib.hid (fun t (v : Value) (w' : World) (h : Cm.RdS w' v R) => (Cm.SesDue_any v R t D w' h (by omega) (Cm.right_ren hRR)).mono fun e w' h => Cm.GetsN.s h)
      have F1 : Hid ((Cm.dueS R (a1 + D - 1) D).any (fun y => decide (y = c)) = false) := Lib.hid (by
        rw [← hsc, Cm.due_has hRR (by unfold Cm.highF; simp; omega) hd1 hs]
        exact decide_eq_false (by omega))
      have K1 := Lib.hid (KM.out (a1 + D - 1))
      generalize Cm.dueS R (a1 + D - 1) D = U1 at F1 K1
      by_cases e1 : 255 ≤ a1
      · have d1 : decide (255 ≤ a1) = true := decide_eq_true e1
        have F2 : Hid ((Cm.dueS R (a1 + D) D).any (fun y => decide (y = c)) = true) := Lib.hid (by
          rw [← hsc, Cm.due_has hRR (by unfold Cm.highF; simp; omega) hd1 hs]
          exact decide_eq_true (by have := hs2 e1; omega))
        have K2 := Lib.hid (KM.out (a1 + D))
        generalize Cm.dueS R (a1 + D) D = U2 at F2 K2
        clear KM e1 hs hs1 hs2 hsc RR hRR hR5
        unfold Cm.GetsNS at K1 K2
        go_wp2_with (go_at_call 11; refine KR.out.mono ?_; rintro e w4 ⟨ra, rp, rfl, hr4, hb4⟩; have HB4 := Lib.hid hb4; have HR4 := Lib.hid hr4; clear hb4 hr4)
        refine (K1.out _ _ HR4.out).mono ?_
        rintro e w5 ⟨na, np, rfl, hn5, hb5⟩
        have I1 := Cm.In_any _ U1 c w5 hn5
        rw [F1.out] at I1
        have II1 := Lib.hid I1
        clear I1 hn5
        go_wp2_with fail
        refine II1.out.mono ?_
        rintro e w6 ⟨rfl, rfl⟩
        go_wp2_with fail
        refine (K2.out _ _ (HR4.out.later hb5)).mono ?_
        rintro e w7 ⟨na2, np2, rfl, hn7, hb7⟩
        have I2 := Cm.In_any _ U2 c w7 hn7
        rw [F2.out] at I2
        have II2 := Lib.hid I2
        clear I2 hn7
        go_wp2_with fail
        refine II2.out.mono ?_
        rintro e w8 ⟨rfl, rfl⟩
        have HB7 := Lib.hid (step (step HB4.out hb5) hb7)
        clear hb5 hb7
        go_wp2_with fail
        refine (N1.out _ (step HB3.out HB7.out)).mono ?_
        rintro e w9 ⟨na, np, rfl, -, hb9⟩
        go_wp2_with fail
        refine (N2.out _ (step (step HB3.out HB7.out) hb9)).mono ?_
        rintro e w10 ⟨na2, np2, rfl, -, hb10⟩
        go_wp2_with (go_at_call 8; refine (C0.out _).mono ?_; rintro e w11 ⟨rfl, hb11⟩)
        go_ret
        exact ⟨rfl, step (step (step (step HBW.out HB7.out) hb9) hb10) hb11⟩
      · have d1 : decide (255 ≤ a1) = false := decide_eq_false e1
        clear KM e1 hs hs1 hs2 hsc RR hRR hR5
        unfold Cm.GetsNS at K1
        go_wp2_with (go_at_call 11; refine KR.out.mono ?_; rintro e w4 ⟨ra, rp, rfl, hr4, hb4⟩; have HB4 := Lib.hid hb4; have HR4 := Lib.hid hr4; clear hb4 hr4)
        refine (K1.out _ _ HR4.out).mono ?_
        rintro e w5 ⟨na, np, rfl, hn5, hb5⟩
        have I1 := Cm.In_any _ U1 c w5 hn5
        rw [F1.out] at I1
        have II1 := Lib.hid I1
        clear I1 hn5
        go_wp2_with fail
        refine II1.out.mono ?_
        rintro e w6 ⟨rfl, rfl⟩
        have HB7 := Lib.hid (step HB4.out hb5)
        clear hb5
        go_wp2_with fail
        refine (N1.out _ (step HB3.out HB7.out)).mono ?_
        rintro e w9 ⟨na, np, rfl, -, hb9⟩
        go_wp2_with fail
        refine (N2.out _ (step (step HB3.out HB7.out) hb9)).mono ?_
        rintro e w10 ⟨na2, np2, rfl, -, hb10⟩
        go_wp2_with (go_at_call 8; refine (C0.out _).mono ?_; rintro e w11 ⟨rfl, hb11⟩)
        go_ret
        exact ⟨rfl, step (step (step (step HBW.out HB7.out) hb9) hb10) hb11⟩

/-! ### THE ROW's STEP -/
set_option maxRecDepth 100000 in
theorem lifted (os : Os) (started : os.Started) (H : Type) (enc : TypeId × Value → H) :
    ReturnsInHanded {} Try.checked os 6 .any (Rows.sessionDueSpec.pre6 enc Try.prog Try.f6 Rows.sessionDueRow.domain false) (Rows.sessionDueSpec.post enc Try.prog Try.f6 false true false false) := by
  refine returnsInHanded_of_change (C := Try.checked) own started (by kernel_rfl) Try.func6
    (ChangeSpec.witness6 (enc := enc) (C := Try.checked) false ⟨#[], #[.slice none 0 0, .int .u16 0, .int .u8 0, .int .u8 0, .int .u8 0], []⟩ 8 (by kernel_rfl) (by kernel_rfl) (by kernel_rfl) (by kernel_rfl)) ?_
  intro W base args ds gs before hval0 hW hcnd _
  have hval : ∀ (j : Nat) t v, Try.f6.params[j]? = some t → args[j]? = some v → Value.okWide Try.prog W .any base t v := hval0
  have hW' := hW
  obtain ⟨p, q, hA0, hV, rfl, hfz, hnd⟩ := hW
  have hA : DataW.TrodAll enc Try.prog W 0 (fun _ => true) true Try.f6.params.toList args.toList ds p := hA0
  rw [Try.params6] at hA hval
  obtain ⟨v0, vs0, d0, ds0, p0, q0, hargs, rfl, rfl, h0, r0⟩ := trodAll_cons hA
  obtain ⟨v1, vs1, d1, ds1, p1, q1, rfl, rfl, rfl, h1, r1⟩ := trodAll_cons r0
  obtain ⟨v2, vs2, d2, ds2, p2, q2, rfl, rfl, rfl, h2, r2⟩ := trodAll_cons r1
  obtain ⟨v3, vs3, d3, ds3, p3, q3, rfl, rfl, rfl, h3, r3⟩ := trodAll_cons r2
  obtain ⟨v4, vs4, d4, ds4, p4, q4, rfl, rfl, rfl, h4, r4⟩ := trodAll_cons r3
  obtain ⟨rfl, rfl, rfl⟩ := trodAll_nil r4
  obtain rfl : args = #[v0, v1, v2, v3, v4] := by cases args; simp_all
  obtain ⟨rfl, rfl⟩ := trodVars_none hV
  obtain ⟨a0, len0, cap0, rfl⟩ := okWide_slice Try.underlying42 (hval 0 42 v0 rfl rfl)
  have k0 := h0
  have lt0 : ∀ x ∈ p0, x.block < W.heap.size := by obtain ⟨m, hm⟩ := k0; exact DataW.trod_lt m _ _ _ hm
  obtain ⟨z0, w0⟩ : ∃ zs, IsRow .u8 W a0 len0 cap0 zs := by
    obtain ⟨fuel, hf⟩ := h0
    rcases open_ints Try.underlying42 Try.underlying5 (by kernel_rfl) hf with ⟨hcs, _⟩ | ⟨x, l, c, zs, hcs, _, hl, hm, hz, _, hcell, hwz⟩
    · simp [Value.cells] at hcs
      obtain ⟨rfl, rfl, rfl⟩ := hcs
      exact ⟨[], .inl ⟨rfl, rfl, rfl, rfl⟩⟩
    · simp [Value.cells] at hcs
      obtain ⟨rfl, rfl, rfl⟩ := hcs
      exact ⟨zs, .inr ⟨_, rfl, hl, hm, by simpa using hz, hcell, hwz⟩⟩
  obtain ⟨a1, rfl, rfl, rfl, w1⟩ := open_int Try.underlying43 (hval 1 43 v1 rfl rfl) h1
  obtain ⟨a2, rfl, rfl, rfl, w2⟩ := open_int Try.underlying5 (hval 2 5 v2 rfl rfl) h2
  obtain ⟨a3, rfl, rfl, rfl, w3⟩ := open_int Try.underlying5 (hval 3 5 v3 rfl rfl) h3
  obtain ⟨a4, rfl, rfl, rfl, w4⟩ := open_int Try.underlying5 (hval 4 5 v4 rfl rfl) h4
  clear hA0 hval0
  refine (walk a0 len0 cap0 z0 a1 a2 a3 a4 W w0 w1 w2 w3 w4).mono fun e W' ⟨he, bel⟩ => ?_
  subst he
  exact ⟨_, rfl, _, _, _, [], _, [], hW', trodAll_mk1 (shut_bool Try.underlying4 _), (trodAll_cons_mk (Below.trod laidOut (by kernel_rfl) (of_decide_eq_true (by kernel_rfl)) k0 bel lt0) (trodAll_cons_mk (shut_int Try.underlying43 w1) (trodAll_cons_mk (shut_int Try.underlying5 w2) (trodAll_cons_mk (shut_int Try.underlying5 w3) (trodAll_cons_mk (shut_int Try.underlying5 w4) trodAll_mk0))))), rfl, bel.frame _, fun h => by cases h⟩

theorem over : Rows.sessionDueRow.holds Try.pinned (OpenSpec.ofChange Rows.sessionDueSpec) :=
  OpenClaim.holds_of_wide 6 Try.f6 rfl rfl rfl rfl rfl rfl rfl ⟨rfl, rfl, rfl, rfl, rfl⟩ rfl rfl rfl rfl rfl (by kernel_rfl) Try.func6 (by kernel_rfl)
    (of_decide_eq_true (by kernel_rfl)) (by unfold Func.isWrapper; first | (rw [if_pos (by decide +kernel)]; kernel_rfl) | (rw [if_neg (by decide +kernel)]; exact ⟨rfl, rfl⟩))
    (fun os started H enc _ => lifted os started H enc)

/-- THE STATEMENT -/
theorem proved : Rows.SessionDueSaid := over
end Go.Proofs.Ytkhcnhfdcbellaa.sessionDue
