/- PROVED: the statement SessionRefuses of layer 6: for every input that can be read, the law returns true and leaves its arguments as they were. No condition. -/
import Derived.Test.YtkhcnhfdcbellaaRows
import Derived.Test.YtkhcnhfdcbellaaLaw6
import Derived.WalkKit
import Derived.ProofKit
import Derived.OpenShut
import Derived.ShutString
import Derived.ChangeOld
import Derived.Below
import Derived.Deep.Cut
import Derived.Deep.CutBlock
import Derived.Deep.DeepCutAuto
namespace Go.Proofs.Ytkhcnhfdcbellaa.sessionRefuses
open Go.ChangeShapes Go.WideShapes Go.ChangeAt Go.RowKit
open Go.ChangeMaps (open_string shut_string)
open Go.Sort (grow)
set_option linter.unusedVariables false

theorem own : ownKnob Try.prog.godebug = none := by kernel_rfl
theorem laidOut : laidOutB Try.prog = true := by kernel_rfl

/-! ### STEP 1: THE WALK -/
set_option maxRecDepth 100000 in
set_option maxHeartbeats 4000000 in
theorem walk (a0 : Option Addr) (len0 cap0 : Nat) (z0 : List Int) (a1 : Int) (a2 : Int) (a3 : Int) (w : World) (w0 : IsRow .u8 w a0 len0 cap0 z0) (w1 : (Lit.int .i64 a1).wf = true) (w2 : (Lit.int .i64 a2).wf = true) (w3 : (Lit.int .i64 a3).wf = true) :
    Calls Try.prog 7 #[.slice a0 len0 cap0, .int .i64 a1, .int .i64 a2, .int .i64 a3] w fun e w' => e = .returned (.bool true) ∧ Below w.heap.size w w' := by
  obtain ⟨hr, hrl⟩ := w0.rd
  generalize bytesOf z0 len0 = NS at hr hrl
  clear w0 w1 w2 w3
  have C0 := Lib.hid (fun w => Cm.awake6_ok w)
  have CS := Lib.hid ((Cm.Sessions_any _ NS w hr).mono fun e w' h => Cm.MadeF.s h)
  clear hr
  go_enter Try.func7, Try.ntmps7
  go_upto_region 2 with (go_at_call 23; refine CS.out.mono ?_; rintro e w1 ⟨l, la, lp, rfl, hf, hl, hb1⟩)
  have hm := hl.len
  have HR := Lib.hid hf.right
  have h5 := ((Cm.rightS_iff l).1 hf.right).1
  have HL := Lib.hid hl
  have HB1 := Lib.hid hb1
  have K1 := Lib.hid (fun (w' : World) (hb : Below w1.heap.size w1 w') => (Cm.SesOpen_any _ l a1 a2 a3 w' (hl.later hb)).mono fun e w' h => Cm.GetsS.s h)
  have K2 := Lib.hid (fun (w' : World) (hb : Below w1.heap.size w1 w') => (Cm.SesRenew_any _ l a1 a3 w' (hl.later hb) HR.out).mono fun e w' h => Cm.GetsS.s h)
  have HO1 := Lib.hid (Cm.open_bad l a1 a2 a3)
  have HO2 := Lib.hid (Cm.open_good l a1 a2 a3)
  have HN1 := Lib.hid (Cm.renew_code l a1 a3)
  have HT := Lib.hid (Cm.taken_take l a1 a2)
  clear hf hl hb1 CS
  unfold Cm.GetsSS at K1 K2
  generalize Cm.openS l a1 a2 a3 = RR at K1 HO1 HO2
  generalize Cm.renewS l a1 a3 = RN at K2 HN1
  obtain ⟨R, rc⟩ := RR
  obtain ⟨N, nc⟩ := RN
  dsimp only at K1 K2 HO2 HN1
  obtain ⟨L, hL⟩ : ∃ L, l.length = L := ⟨_, rfl⟩
  have HLL := Lib.hid hL
  rw [hL] at hm h5 HL K1 K2 HO2 ⊢
  clear hL
  obtain ⟨RL, hRL⟩ : ∃ RL, R.length = RL := ⟨_, rfl⟩
  have HRL := Lib.hid hRL
  rw [hRL] at K1 HO2
  clear hRL
  go_wp2_with (first
    | (go_at_call 9; refine (K1.out _ (Below.refl _ _)).mono ?_; rintro e w2 ⟨x2, y2, rfl, -, hb2⟩; have HB2 := Lib.hid hb2; clear hb2)
    | (go_at_call 11; refine (K2.out _ HB2.out).mono ?_; rintro e w3 ⟨x3, y3, rfl, -, hb3⟩; have HB3 := Lib.hid (step HB2.out hb3); have HL3 := Lib.hid (HL.out.later HB3.out); clear hb3))
  have HA := Lib.hid (fun i hi => Cm.rds_at HL3.out i hi)
  clear HL K1 K2
  go_loop [14, 15] (fun p i => ∃ (k : Nat) (P : Bool), k ≤ L ∧ i = .int .i64 (k : Int) ∧ p = .bool P ∧ Hid (Cm.takenS (l.take k) a1 a2 = P)) (fun _ i => L - (intOf i).toNat)
  case atStart => exact ⟨0, false, by omega, rfl, rfl, Lib.hid rfl⟩
  case round =>
    obtain ⟨k, P, hk, rfl, rfl, HP⟩ := hrel
    by_cases hlt : k < L
    · have hkl : k < l.length := by rw [HLL.out]; exact hlt
      obtain ⟨b, o, rfl, hc⟩ := HA.out k hkl
      obtain ⟨q0, q1, q2⟩ := hc _ (Below.refl _ _)
      clear hc
      have ht := HT.out k hkl
      rw [HP.out] at ht
      generalize l[k] = g at q0 q1 q2 ht
      obtain ⟨gc, gn, gr⟩ := g
      dsimp only at q0 q1 q2 ht
      have f1 : (0 : Int) ≤ (k : Int) := by omega
      have f2 : (k : Int) < (L : Int) := by omega
      cases P
      case true =>
        have H := Lib.hid ht
        clear ht
        go_wp2
        go_round
        case rel => exact ⟨k + 1, true, by omega, by go_num, rfl, Lib.hid (by rw [H.out]; rfl)⟩
        case measure => simp [intOf]; omega
      case false =>
        by_cases e1 : gn = a2
        · have d1 : (gn == a2) = true := by simpa using e1
          by_cases e2 : gc = a1
          · have d2 : (gc != a1) = false := by simp [e2]
            have H : Hid (Cm.takenS (l.take (k + 1)) a1 a2 = false) := Lib.hid (by rw [ht]; simp [e2])
            clear ht e1 e2
            go_wp2
            go_round
            case rel => exact ⟨k + 1, false, by omega, by go_num, rfl, H⟩
            case measure => simp [intOf]; omega
          · have d2 : (gc != a1) = true := by simpa using e2
            have H : Hid (Cm.takenS (l.take (k + 1)) a1 a2 = true) := Lib.hid (by rw [ht]; simp [e1, e2])
            clear ht e1 e2
            go_wp2
            go_round
            case rel => exact ⟨k + 1, true, by omega, by go_num, rfl, H⟩
            case measure => simp [intOf]; omega
        · have d1 : (gn == a2) = false := by simpa using e1
          have H : Hid (Cm.takenS (l.take (k + 1)) a1 a2 = false) := Lib.hid (by rw [ht]; simp [e1])
          clear ht e1
          go_wp2
          go_round
          case rel => exact ⟨k + 1, false, by omega, by go_num, rfl, H⟩
          case measure => simp [intOf]; omega
    · obtain rfl : k = L := by omega
      have hp := HP.out
      rw [← HLL.out, List.take_length] at hp
      have HP := Lib.hid hp
      clear hp HT HA HL3
      have HBW := Lib.hid (step HB1.out HB3.out)
      have hw1 : IntKind.i64.wrap ((k : Int) + 1) = (k : Int) + 1 := by rw [IntKind.wrap_i64]; omega
      have z1 : ((0 : Int) == (k : Int) + 1) = false := by simp; omega
      by_cases hbad : (Cm.clientF a1 && Cm.highF a2 1 && Cm.highF a3 0) = false ∨ P = true
      · have hR := HO1.out (hbad.imp id (fun q => by rw [HP.out]; exact q))
        have hrc : rc = 1 := by injection hR
        have hR0 : RL = 0 := by rw [← HRL.out]; injection hR with q _; rw [q]; rfl
        subst hrc
        subst hR0
        clear HO1 HO2 hR
        by_cases c1 : a1 < 0
        · by_cases t1 : a3 < 0
          · obtain rfl : nc = 1 := HN1.out.1 (by unfold Cm.highF; simp; omega)
            clear HN1 hbad
            go_wp2_with (go_at_call 8; refine (C0.out _).mono ?_; rintro e w4 ⟨rfl, hb4⟩)
            go_ret
            exact ⟨rfl, step HBW.out hb4⟩
          by_cases t2 : 2305843009213693952 < a3
          · obtain rfl : nc = 1 := HN1.out.1 (by unfold Cm.highF; simp; omega)
            clear HN1 hbad
            go_wp2_with (go_at_call 8; refine (C0.out _).mono ?_; rintro e w4 ⟨rfl, hb4⟩)
            go_ret
            exact ⟨rfl, step HBW.out hb4⟩
          have hnc := HN1.out.2 (by unfold Cm.highF; simp; omega)
          have d2 : (nc == 1) = false := by simpa using hnc
          clear HN1 hnc hbad
          go_wp2_with (go_at_call 8; refine (C0.out _).mono ?_; rintro e w4 ⟨rfl, hb4⟩)
          go_ret
          exact ⟨rfl, step HBW.out hb4⟩
        by_cases c2 : 7 < a1
        · by_cases t1 : a3 < 0
          · obtain rfl : nc = 1 := HN1.out.1 (by unfold Cm.highF; simp; omega)
            clear HN1 hbad
            go_wp2_with (go_at_call 8; refine (C0.out _).mono ?_; rintro e w4 ⟨rfl, hb4⟩)
            go_ret
            exact ⟨rfl, step HBW.out hb4⟩
          by_cases t2 : 2305843009213693952 < a3
          · obtain rfl : nc = 1 := HN1.out.1 (by unfold Cm.highF; simp; omega)
            clear HN1 hbad
            go_wp2_with (go_at_call 8; refine (C0.out _).mono ?_; rintro e w4 ⟨rfl, hb4⟩)
            go_ret
            exact ⟨rfl, step HBW.out hb4⟩
          have hnc := HN1.out.2 (by unfold Cm.highF; simp; omega)
          have d2 : (nc == 1) = false := by simpa using hnc
          clear HN1 hnc hbad
          go_wp2_with (go_at_call 8; refine (C0.out _).mono ?_; rintro e w4 ⟨rfl, hb4⟩)
          go_ret
          exact ⟨rfl, step HBW.out hb4⟩
        by_cases c3 : a2 < 1
        · by_cases t1 : a3 < 0
          · obtain rfl : nc = 1 := HN1.out.1 (by unfold Cm.highF; simp; omega)
            clear HN1 hbad
            go_wp2_with (go_at_call 8; refine (C0.out _).mono ?_; rintro e w4 ⟨rfl, hb4⟩)
            go_ret
            exact ⟨rfl, step HBW.out hb4⟩
          by_cases t2 : 2305843009213693952 < a3
          · obtain rfl : nc = 1 := HN1.out.1 (by unfold Cm.highF; simp; omega)
            clear HN1 hbad
            go_wp2_with (go_at_call 8; refine (C0.out _).mono ?_; rintro e w4 ⟨rfl, hb4⟩)
            go_ret
            exact ⟨rfl, step HBW.out hb4⟩
          have hnc := HN1.out.2 (by unfold Cm.highF; simp; omega)
          have d2 : (nc == 1) = false := by simpa using hnc
          clear HN1 hnc hbad
          go_wp2_with (go_at_call 8; refine (C0.out _).mono ?_; rintro e w4 ⟨rfl, hb4⟩)
          go_ret
          exact ⟨rfl, step HBW.out hb4⟩
        by_cases c4 : 2305843009213693952 < a2
        · by_cases t1 : a3 < 0
          · obtain rfl : nc = 1 := HN1.out.1 (by unfold Cm.highF; simp; omega)
            clear HN1 hbad
            go_wp2_with (go_at_call 8; refine (C0.out _).mono ?_; rintro e w4 ⟨rfl, hb4⟩)
            go_ret
            exact ⟨rfl, step HBW.out hb4⟩
          by_cases t2 : 2305843009213693952 < a3
          · obtain rfl : nc = 1 := HN1.out.1 (by unfold Cm.highF; simp; omega)
            clear HN1 hbad
            go_wp2_with (go_at_call 8; refine (C0.out _).mono ?_; rintro e w4 ⟨rfl, hb4⟩)
            go_ret
            exact ⟨rfl, step HBW.out hb4⟩
          have hnc := HN1.out.2 (by unfold Cm.highF; simp; omega)
          have d2 : (nc == 1) = false := by simpa using hnc
          clear HN1 hnc hbad
          go_wp2_with (go_at_call 8; refine (C0.out _).mono ?_; rintro e w4 ⟨rfl, hb4⟩)
          go_ret
          exact ⟨rfl, step HBW.out hb4⟩
        by_cases c5 : a3 < 0
        · obtain rfl : nc = 1 := HN1.out.1 (by unfold Cm.highF; simp; omega)
          clear HN1 hbad
          have k1 : decide (a1 < 0) = false := by simp; omega
          have k2 : decide (7 < a1) = false := by simp; omega
          have k3 : decide (a2 < 1) = false := by simp; omega
          have k4 : decide (2305843009213693952 < a2) = false := by simp; omega
          have k5 : decide (a3 < 0) = true := by simp; omega
          have k6 : decide (2305843009213693952 < a3) = false := by simp; omega
          clear c1 c2 c3 c4 c5
          go_wp2_with (go_at_call 8; refine (C0.out _).mono ?_; rintro e w4 ⟨rfl, hb4⟩)
          go_ret
          exact ⟨rfl, step HBW.out hb4⟩
        by_cases c6 : 2305843009213693952 < a3
        · obtain rfl : nc = 1 := HN1.out.1 (by unfold Cm.highF; simp; omega)
          clear HN1 hbad
          have k1 : decide (a1 < 0) = false := by simp; omega
          have k2 : decide (7 < a1) = false := by simp; omega
          have k3 : decide (a2 < 1) = false := by simp; omega
          have k4 : decide (2305843009213693952 < a2) = false := by simp; omega
          have k5 : decide (a3 < 0) = false := by simp; omega
          have k6 : decide (2305843009213693952 < a3) = true := by simp; omega
          clear c1 c2 c3 c4 c5 c6
          go_wp2_with (go_at_call 8; refine (C0.out _).mono ?_; rintro e w4 ⟨rfl, hb4⟩)
          go_ret
          exact ⟨rfl, step HBW.out hb4⟩
        have hPt : P = true := by
          rcases hbad with q | q
          · have e1 : Cm.clientF a1 = true := by unfold Cm.clientF; simp; omega
            have e2 : Cm.highF a2 1 = true := by unfold Cm.highF; simp; omega
            have e3 : Cm.highF a3 0 = true := by unfold Cm.highF; simp; omega
            rw [e1, e2, e3] at q
            cases q
          · exact q
        subst hPt
        have hnc := HN1.out.2 (by unfold Cm.highF; simp; omega)
        have d2 : (nc == 1) = false := by simpa using hnc
        clear HN1 hnc hbad
        go_wp2_with (go_at_call 8; refine (C0.out _).mono ?_; rintro e w4 ⟨rfl, hb4⟩)
        go_ret
        exact ⟨rfl, step HBW.out hb4⟩
      · have hb1 : (Cm.clientF a1 && Cm.highF a2 1 && Cm.highF a3 0) = true := by cases q : (Cm.clientF a1 && Cm.highF a2 1 && Cm.highF a3 0) <;> simp_all
        have hb2 : P = false := by cases P <;> simp_all
        subst hb2
        obtain ⟨g1, g2⟩ := HO2.out hb1 HP.out
        have ha : (0 ≤ a1 ∧ a1 < 8) ∧ (1 ≤ a2 ∧ a2 ≤ 2305843009213693952) ∧ (0 ≤ a3 ∧ a3 ≤ 2305843009213693952) := by unfold Cm.clientF Cm.highF at hb1; simp at hb1; omega
        have hnc := HN1.out.2 (by unfold Cm.highF; simp; omega)
        have d1 : (rc == 1) = false := by simpa using g1
        have d2 : (nc == 1) = false := by simpa using hnc
        obtain ⟨⟨b1, b2⟩, ⟨b3, b4⟩, ⟨b5, b6⟩⟩ := ha
        clear hbad HO1 HO2 hb1 HN1 g1 hnc
        rcases g2 with ⟨rfl, rfl⟩ | ⟨g2, rfl⟩
        · clear d1
          have k1 : decide (a1 < 0) = false := by simp; omega
          have k2 : decide (7 < a1) = false := by simp; omega
          have k3 : decide (a2 < 1) = false := by simp; omega
          have k4 : decide (2305843009213693952 < a2) = false := by simp; omega
          have k5 : decide (a3 < 0) = false := by simp; omega
          have k6 : decide (2305843009213693952 < a3) = false := by simp; omega
          clear b1 b2 b3 b4 b5 b6
          go_wp2_with (go_at_call 8; refine (C0.out _).mono ?_; rintro e w4 ⟨rfl, hb4⟩)
          go_ret
          exact ⟨rfl, step HBW.out hb4⟩
        · have d3 : (rc == 0) = false := by simpa using g2
          clear g2
          have k1 : decide (a1 < 0) = false := by simp; omega
          have k2 : decide (7 < a1) = false := by simp; omega
          have k3 : decide (a2 < 1) = false := by simp; omega
          have k4 : decide (2305843009213693952 < a2) = false := by simp; omega
          have k5 : decide (a3 < 0) = false := by simp; omega
          have k6 : decide (2305843009213693952 < a3) = false := by simp; omega
          clear b1 b2 b3 b4 b5 b6
          go_wp2_with (go_at_call 8; refine (C0.out _).mono ?_; rintro e w4 ⟨rfl, hb4⟩)
          go_ret
          exact ⟨rfl, step HBW.out hb4⟩

/-! ### THE ROW's STEP -/
set_option maxRecDepth 100000 in
theorem lifted (os : Os) (started : os.Started) (H : Type) (enc : TypeId × Value → H) :
    ReturnsInHanded {} Try.checked os 7 .any (Rows.sessionRefusesSpec.pre6 enc Try.prog Try.f7 Rows.sessionRefusesRow.domain false) (Rows.sessionRefusesSpec.post enc Try.prog Try.f7 false true false false) := by
  refine returnsInHanded_of_change (C := Try.checked) own started (by kernel_rfl) Try.func7
    (ChangeSpec.witness6 (enc := enc) (C := Try.checked) false ⟨#[], #[.slice none 0 0, .int .i64 0, .int .i64 0, .int .i64 0], []⟩ 8 (by kernel_rfl) (by kernel_rfl) (by kernel_rfl) (by kernel_rfl)) ?_
  intro W base args ds gs before hval0 hW hcnd _
  have hval : ∀ (j : Nat) t v, Try.f7.params[j]? = some t → args[j]? = some v → Value.okWide Try.prog W .any base t v := hval0
  have hW' := hW
  obtain ⟨p, q, hA0, hV, rfl, hfz, hnd⟩ := hW
  have hA : DataW.TrodAll enc Try.prog W 0 (fun _ => true) true Try.f7.params.toList args.toList ds p := hA0
  rw [Try.params7] at hA hval
  obtain ⟨v0, vs0, d0, ds0, p0, q0, hargs, rfl, rfl, h0, r0⟩ := trodAll_cons hA
  obtain ⟨v1, vs1, d1, ds1, p1, q1, rfl, rfl, rfl, h1, r1⟩ := trodAll_cons r0
  obtain ⟨v2, vs2, d2, ds2, p2, q2, rfl, rfl, rfl, h2, r2⟩ := trodAll_cons r1
  obtain ⟨v3, vs3, d3, ds3, p3, q3, rfl, rfl, rfl, h3, r3⟩ := trodAll_cons r2
  obtain ⟨rfl, rfl, rfl⟩ := trodAll_nil r3
  obtain rfl : args = #[v0, v1, v2, v3] := by cases args; simp_all
  obtain ⟨rfl, rfl⟩ := trodVars_none hV
  obtain ⟨a0, len0, cap0, rfl⟩ := okWide_slice Try.underlying42 (hval 0 42 v0 rfl rfl)
  have k0 := h0
  have lt0 : ∀ x ∈ p0, x.block < W.heap.size := by obtain ⟨m, hm⟩ := k0; exact DataW.trod_lt m _ _ _ hm
  obtain ⟨z0, w0⟩ : ∃ zs, IsRow .u8 W a0 len0 cap0 zs := by
    obtain ⟨fuel, hf⟩ := h0
    rcases open_ints Try.underlying42 Try.underlying5 (by kernel_rfl) hf with ⟨hcs, _⟩ | ⟨x, l, c, zs, hcs, _, hl, hm, hz, _, hcell, hwz⟩
    · simp [Value.cells] at hcs
      obtain ⟨rfl, rfl, rfl⟩ := hcs
      exact ⟨[], .inl ⟨rfl, rfl, rfl, rfl⟩⟩
    · simp [Value.cells] at hcs
      obtain ⟨rfl, rfl, rfl⟩ := hcs
      exact ⟨zs, .inr ⟨_, rfl, hl, hm, by simpa using hz, hcell, hwz⟩⟩
  obtain ⟨a1, rfl, rfl, rfl, w1⟩ := open_int Try.underlying3 (hval 1 3 v1 rfl rfl) h1
  obtain ⟨a2, rfl, rfl, rfl, w2⟩ := open_int Try.underlying3 (hval 2 3 v2 rfl rfl) h2
  obtain ⟨a3, rfl, rfl, rfl, w3⟩ := open_int Try.underlying3 (hval 3 3 v3 rfl rfl) h3
  clear hA0 hval0
  refine (walk a0 len0 cap0 z0 a1 a2 a3 W w0 w1 w2 w3).mono fun e W' ⟨he, bel⟩ => ?_
  subst he
  exact ⟨_, rfl, _, _, _, [], _, [], hW', trodAll_mk1 (shut_bool Try.underlying4 _), (trodAll_cons_mk (Below.trod laidOut (by kernel_rfl) (of_decide_eq_true (by kernel_rfl)) k0 bel lt0) (trodAll_cons_mk (shut_int Try.underlying3 w1) (trodAll_cons_mk (shut_int Try.underlying3 w2) (trodAll_cons_mk (shut_int Try.underlying3 w3) trodAll_mk0)))), rfl, bel.frame _, fun h => by cases h⟩

theorem over : Rows.sessionRefusesRow.holds Try.pinned (OpenSpec.ofChange Rows.sessionRefusesSpec) :=
  OpenClaim.holds_of_wide 7 Try.f7 rfl rfl rfl rfl rfl rfl rfl ⟨rfl, rfl, rfl, rfl, rfl⟩ rfl rfl rfl rfl rfl (by kernel_rfl) Try.func7 (by kernel_rfl)
    (of_decide_eq_true (by kernel_rfl)) (by unfold Func.isWrapper; first | (rw [if_pos (by decide +kernel)]; kernel_rfl) | (rw [if_neg (by decide +kernel)]; exact ⟨rfl, rfl⟩))
    (fun os started H enc _ => lifted os started H enc)

/-- THE STATEMENT -/
theorem proved : Rows.SessionRefusesSaid := over
end Go.Proofs.Ytkhcnhfdcbellaa.sessionRefuses
