/- PROVED: the statement LineFair of layer 7: for every input that can be read, the law returns true and leaves its arguments as they were. No condition. -/
import Derived.Test.YtgpiaibklokhmaaRows
import Derived.Test.YtgpiaibklokhmaaLaw7B
import Derived.WalkKit
import Derived.ProofKit
import Derived.OpenShut
import Derived.ShutString
import Derived.ChangeOld
import Derived.Below
import Derived.Deep.Cut
import Derived.Deep.CutBlock
import Derived.Deep.DeepCutAuto
namespace Go.Proofs.Ytgpiaibklokhmaa.lineFair
open Go.ChangeShapes Go.WideShapes Go.ChangeAt Go.RowKit
open Go.ChangeMaps (open_string shut_string)
open Go.Sort (grow)
set_option linter.unusedVariables false

theorem own : ownKnob Try.prog.godebug = none := by kernel_rfl
theorem laidOut : laidOutB Try.prog = true := by kernel_rfl

/-! ### STEP 1: THE WALK -/
set_option maxRecDepth 100000 in
set_option maxHeartbeats 4000000 in
theorem walk (a0 : Option Addr) (len0 cap0 : Nat) (z0 : List Int) (a1 : Int) (w : World) (w0 : IsRow .u8 w a0 len0 cap0 z0) (w1 : (Lit.int .u8 a1).wf = true) :
    Calls Try.prog 5 #[.slice a0 len0 cap0, .int .u8 a1] w fun e w' => e = .returned (.bool true) ∧ Below w.heap.size w w' := by
  obtain ⟨hr, hrl⟩ := w0.rd
  generalize bytesOf z0 len0 = NS at hr hrl
  have ha1 : 0 ≤ a1 ∧ a1 ≤ 255 := by have := w1; simp [Lit.wf, IntKind.min, IntKind.max, IntKind.signed, IntKind.bits] at this; omega
  clear w0 w1
  have C0 := Lib.hid (fun w => Cm.awake7_ok w)
  have hlen := Cm.Rd.len_le hr
  unfold maxLen at hlen
  obtain ⟨ar, lr, cr, hv, hl, hc, hm, hn, hx⟩ := hr.ex
  cases hv
  have HI : Hid (∀ i, i < len0 → ∃ b o, a0 = some ⟨b, o, none⟩ ∧ ∀ w', Below w.heap.size w w' → w'.cell? ⟨b, o + i, none⟩ = some (.int .u8 ((NS.getD i 0).toNat : Int))) := Lib.hid fun i hi' => by
    match a0, hn, hx with
    | none, hn, _ => have := (hn rfl).1; omega
    | some ⟨b, o, sp⟩, _, hx =>
      obtain ⟨hs, hi⟩ := hx _ rfl (by omega)
      simp only at hs hi
      subst hs
      exact ⟨b, o, rfl, fun w' hb => by rw [hb.cell (p := ⟨b, o + i, none⟩) (lt_of_cell (hi i hi'))]; exact hi i hi'⟩
  clear hr hn hx
  obtain ⟨i0, hi, hz0, hz1, hz2⟩ := info_parts Cm.infoN
  rw [hrl] at hlen
  clear hrl hl
  have v1 : IntKind.i64.wrap a1 = a1 := by rw [IntKind.wrap_i64]; omega
  obtain ⟨g, hg⟩ : ∃ g, a1.tmod 8 = g := ⟨_, rfl⟩
  have hgr : 0 ≤ g ∧ g < 8 := by rw [← hg, Int.tmod_eq_emod_of_nonneg (by omega)]; omega
  have v2 : IntKind.i64.wrap g = g := by rw [IntKind.wrap_i64]; omega
  clear hgr ha1
  go_enter Try.func5, Try.ntmps5
  go_wp2
  go_loopw [5, 6, 7] (fun s m i wr => ∃ (I : Nat) (M : List Int) (ma : Option Addr) (mp : Nat), I ≤ len0 ∧ i = .int .i64 (I : Int) ∧ s = .slice ma M.length mp ∧ Hid (wr.ownsRow w.heap.size 3 1 (.slice ma M.length mp) M.length (flatX Cm.cellsI M)) ∧ Hid (Cm.rightL M = true) ∧ Hid (wr.ownsRow w.heap.size 3 1 m M.length (flatX Cm.cellsI M)) ∧ Hid (Rw.Apart m (.slice ma M.length mp)) ∧ Hid (Below w.heap.size w wr)) (fun _ _ i _ => len0 - (intOf i).toNat)
  case atStart => exact ⟨0, [], none, 0, by omega, rfl, rfl, Lib.hid (World.ownsRow_nil _ _ _ _), Lib.hid Cm.nil_right, Lib.hid (World.ownsRow_nil _ _ _ _), Lib.hid (Rw.Apart.nil _), Lib.hid (Below.refl _ _)⟩
  case round =>
    obtain ⟨I, M, ma, mp, hIN, rfl, rfl, HL, HR, HO, HAPT, HB⟩ := hrel
    obtain ⟨ua, uc, rfl⟩ := Rw.own_form HO.out
    have HC := Lib.hid (RdX.own Cm.cellsI_length HO.out)
    have HM := Lib.hid (RdX.own Cm.cellsI_length HL.out)
    have hM3 := ((Cm.rightL_iff M).1 HR.out).1
    by_cases hgo : I < len0 ∧ I < 20
    · obtain ⟨g1, g3⟩ := hgo
      obtain ⟨b, o, rfl, hcell⟩ := HI.out I g1
      have q0 := hcell wr HB.out
      have tx : (NS.getD I 0).toNat < 256 := UInt8.toNat_lt _
      clear hcell HI
      generalize (NS.getD I 0).toNat = X at q0 tx
      have d1 : decide (I < len0) = true := decide_eq_true g1
      have d3 : decide (I < 20) = true := decide_eq_true g3
      have v4 : IntKind.i64.wrap (X : Int) = (X : Int) := by rw [IntKind.wrap_i64]; omega
      obtain ⟨c, hcc⟩ : ∃ c, (X : Int).tmod 8 = c := ⟨_, rfl⟩
      have hcr : 0 ≤ c ∧ c < 8 := by rw [← hcc, Int.tmod_eq_emod_of_nonneg (by omega)]; omega
      have v5 : IntKind.i64.wrap c = c := by rw [IntKind.wrap_i64]; omega
      have hcl : Cm.clientF c = true := by unfold Cm.clientF; simp; omega
      have K1 := Lib.hid (Cm.LineJoin_any _ M c wr HM.out)
      have J := Cm.join_three M c HR.out hcl
      have HP := Lib.hid (fun h3 q => Cm.line_push M c HR.out h3 hcl q)
      clear hcl hcr
      unfold Cm.GetsJ at K1
      obtain ⟨K, hK⟩ : ∃ K, M.length = K := ⟨_, rfl⟩
      have HKK := Lib.hid hK
      rcases J with ⟨hj, h3, hh⟩ | ⟨hj, h3⟩ | ⟨hj, hh⟩
      · rw [hj] at K1
        dsimp only at K1
        have HPP := Lib.hid (HP.out h3 hh)
        have hap : (M ++ [c]).length = K + 1 := by rw [List.length_append, hK]; rfl
        rw [hap, hK] at K1
        rw [hK] at h3 HL HM hM3 HO HC HAPT ⊢
        have HAP := Lib.hid hap
        have v6 : IntKind.i64.wrap ((K : Int) + 1) = (K : Int) + 1 := by rw [IntKind.wrap_i64]; omega
        clear hap hK hj hh HP
        go_wp2_with (first
          | (go_at_call 9; refine K1.out.mono ?_; rintro e w1 ⟨x1, rfl, ho1, hb1⟩; obtain ⟨xa, xp, rfl⟩ := Rw.own_form ho1; have HX1 := Lib.hid (own_lowerX ho1 HB.out.size); have HB1 := Lib.hid (step HB.out hb1); have HO1 : Hid (w1.ownsRow w.heap.size 3 1 (.slice ua K uc) M.length (flatX Cm.cellsI M)) := Lib.hid (by rw [HKK.out]; exact Cm.own_later7 HO.out hb1); have HA1 : Hid (Rw.Apart (.slice ua K uc) (.slice xa (K + 1) xp)) := Lib.hid (fun gg hu hx => by have := (Rw.own_lt ho1 gg hx).1; have := (Rw.own_lt HO.out gg hu).2; omega); clear ho1 hb1)
          | (at_builtin; (refine Cm.wpList_append_one_at Cm.cellsI_length (by omega) rfl (.tmp 59) (.tmp 61) 23 rfl 3 i0 _ 8 Try.underlying23 hi hz0 hz1 hz2 rfl #[.int .i64 c] c rfl (Cm.cellsI_one _) M w.heap.size _ rfl rfl HO1.out (by rw [HKK.out]; unfold maxLen; omega) (by rw [HKK.out]; omega) HB1.out.size ?_); intro v5 w5 ho5 hg5 hat5; have HO5 := Lib.hid ho5; have HX5 := Lib.hid (Rw.own_other (Rw.own_alloc HX1.out _) hg5 HA1.out); have HA5 := Lib.hid (Rw.apart_grown (Rw.own_alloc HX1.out _) HA1.out hat5); have HB5 := Lib.hid (Rw.below_grown (HB1.out.alloc HB1.out.size _) (Rw.own_alloc HO1.out _) hg5 (Nat.le_refl _) (Nat.le_trans HB1.out.size (newAlloc w1 (.cells #[.int .i64 c] 3)).size)); clear ho5 hg5 hat5))
        go_roundw
        case rel => exact ⟨I + 1, M ++ [c], xa, xp, by omega, by go_num, by rw [HAP.out], by rw [HAP.out]; exact HX5, HPP, HO5, by rw [HAP.out]; exact HA5, HB5⟩
        case measure => simp [intOf]; omega
      · rw [hj] at K1
        dsimp only at K1
        rw [hK] at h3 HL HM hM3 HO HC HAPT K1 ⊢
        subst h3
        clear hK hj HP
        go_wp2_with (go_at_call 9; refine K1.out.mono ?_; rintro e w1 ⟨x1, rfl, -, hb1⟩; have HL1 := Lib.hid (Cm.own_later7 HL.out hb1); have HO1 := Lib.hid (Cm.own_later7 HO.out hb1); have HB1 := Lib.hid (step HB.out hb1); clear hb1)
        go_roundw
        case rel => exact ⟨I + 1, M, ma, mp, by omega, by go_num, by rw [HKK.out], by rw [HKK.out]; exact HL1, HR, by rw [HKK.out]; exact HO1, by rw [HKK.out]; exact HAPT, HB1⟩
        case measure => simp [intOf]; omega
      · rw [hj] at K1
        dsimp only at K1
        rw [hK] at HL HM hM3 HO HC HAPT K1 ⊢
        clear hK hj HP
        go_wp2_with (first
          | (go_at_call 9; refine K1.out.mono ?_; rintro e w1 ⟨x1, rfl, -, hb1⟩; have HL1 := Lib.hid (Cm.own_later7 HL.out hb1); have HO1 := Lib.hid (Cm.own_later7 HO.out hb1); have HB1 := Lib.hid (step HB.out hb1); have hin := Cm.In_has _ M c w1 (HC.out.later hb1); rw [hh] at hin; have HIN := Lib.hid hin; clear hb1 hin)
          | (go_at_call 20; refine HIN.out.mono ?_; rintro e w3 ⟨rfl, rfl⟩))
        go_roundw
        case rel => exact ⟨I + 1, M, ma, mp, by omega, by go_num, by rw [HKK.out], by rw [HKK.out]; exact HL1, HR, by rw [HKK.out]; exact HO1, by rw [HKK.out]; exact HAPT, HB1⟩
        case measure => simp [intOf]; omega
    · have hcs : ¬ I < len0 ∨ (I < len0 ∧ ¬ I < 20) := by omega
      clear hgo HI HAPT
      rcases hcs with c1 | ⟨c1, c2⟩
      all_goals
        obtain ⟨K, hK⟩ : ∃ K, M.length = K := ⟨_, rfl⟩
        have HKK := Lib.hid hK
        have KL := Lib.hid ((Cm.LineLeave_any _ M g wr HM.out (by omega)).mono fun e w' h => Cm.GetsL.s h)
        unfold Cm.GetsLS Cm.leaveL at KL
        dsimp only at KL
        rw [hK] at KL HL HM hM3 HO HC ⊢
        generalize Cm.hasL M g = hb at KL
        clear hK
        go_wp2_with (go_at_call 12; refine KL.out.mono ?_; rintro e w2 ⟨la, lp, rfl, hr2, hb2⟩; have HR2 := Lib.hid hr2; have HB2 := Lib.hid (step HB.out hb2); have HC2 := Lib.hid (HC.out.later hb2); clear hr2 hb2)
        have HAC := Lib.hid (fun i hi => Cm.rdi_at HC2.out i hi)
        go_loopw [5, 13] (fun s i wk => ∃ (k : Nat) (P : List Int) (la : Option Addr) (lp : Nat), k ≤ K ∧ i = .int .i64 (k : Int) ∧ s = .slice la P.length lp ∧ Hid (Cm.withoutL (M.drop k) [g] = P) ∧ Hid (Cm.RdI wk (.slice la P.length lp) P) ∧ Hid (Below w2.heap.size w2 wk)) (fun _ i _ => K - (intOf i).toNat)
        case atStart => exact ⟨0, Cm.withoutL M [g], la, lp, by omega, rfl, rfl, Lib.hid rfl, HR2, Lib.hid (Below.refl _ _)⟩
        case round =>
          obtain ⟨k, P, la, lp, hk, rfl, rfl, HP, HRP, HBK⟩ := hrel
          have hPl : P.length ≤ 1000 := by
            rw [← HP.out]
            unfold Cm.withoutL
            have q1 := List.length_filter_le (fun x => !Cm.hasL [g] x) (M.drop k)
            have q2 := HKK.out
            rw [List.length_drop] at q1
            omega
          by_cases hlt : k < K
          · have hkl : k < M.length := by rw [HKK.out]; exact hlt
            obtain ⟨b, o, rfl, hc3⟩ := HAC.out k hkl
            have q0 := hc3 _ HBK.out
            have HW1 := Lib.hid (Cm.without_hit M g k hkl)
            have HW2 := Lib.hid (Cm.without_pass M g k hkl)
            clear hc3 HAC HC2 HC HO
            generalize M[k] = x at q0 HW1 HW2
            have g1 : (0 : Int) ≤ (k : Int) := by omega
            have g2 : (k : Int) < (K : Int) := by omega
            by_cases hx : x = g
            · have d5 : (x == g) = true := by simpa using hx
              have HW := Lib.hid (HW1.out hx)
              clear hx HW1 HW2
              go_wp2
              go_roundw
              case rel => exact ⟨k + 1, P, la, lp, by omega, by go_num, rfl, Lib.hid (by rw [← HW.out, HP.out]), HRP, HBK⟩
              case measure => simp [intOf]; omega
            · have d5 : (x == g) = false := by simpa using hx
              have hw := HW2.out hx
              rw [HP.out] at hw
              subst hw
              have KX := Lib.hid ((Cm.LineNext_any _ _ _ HRP.out hPl).mono fun e w' h => Cm.GetsX.s h)
              unfold Cm.GetsXS Cm.nextL at KX
              dsimp only at KX
              clear hx HW1 HW2 hPl
              generalize hP' : Cm.withoutL (M.drop (k + 1)) [g] = P' at KX ⊢
              have HP' := Lib.hid hP'
              clear hP'
              go_wp2_with (go_at_call 15; refine KX.out.mono ?_; rintro e w7 ⟨na, np, rfl, hn7, hb7⟩; have HN7 := Lib.hid hn7; have HB7 := Lib.hid (step HBK.out hb7); have q7 := (hb7.cell (lt_of_cell q0)).trans q0; clear hn7 hb7)
              go_roundw
              case rel => exact ⟨k + 1, P', na, np, by omega, by go_num, rfl, HP', HN7, HB7⟩
              case measure => simp [intOf]; omega
          · obtain rfl : k = K := by omega
            have hw := HP.out
            rw [← HKK.out, List.drop_length] at hw
            subst hw
            have KX := Lib.hid ((Cm.LineNext_any _ _ _ HRP.out hPl).mono fun e w' h => Cm.GetsX.s h)
            unfold Cm.GetsXS Cm.withoutL at KX
            simp only [List.filter_nil, Cm.nextL, List.length_nil] at KX
            clear HAC HC2 HC HO hPl HP
            unfold Cm.withoutL
            simp only [List.filter_nil, List.length_nil]
            go_wp2_with (first
              | (go_at_call 15; refine KX.out.mono ?_; rintro e w7 ⟨na, np, rfl, -, hb7⟩; have HB7 := Lib.hid (step HBK.out hb7); clear hb7)
              | (go_at_call 8; refine (C0.out _).mono ?_; rintro e w8 ⟨rfl, hb8⟩))
            go_ret
            exact ⟨rfl, step HB2.out (step HB7.out hb8)⟩

/-! ### THE ROW's STEP -/
set_option maxRecDepth 100000 in
theorem lifted (os : Os) (started : os.Started) (H : Type) (enc : TypeId × Value → H) :
    ReturnsInHanded {} Try.checked os 5 .any (Rows.lineFairSpec.pre6 enc Try.prog Try.f5 Rows.lineFairRow.domain false) (Rows.lineFairSpec.post enc Try.prog Try.f5 false true false false) := by
  refine returnsInHanded_of_change (C := Try.checked) own started (by kernel_rfl) Try.func5
    (ChangeSpec.witness6 (enc := enc) (C := Try.checked) false ⟨#[], #[.slice none 0 0, .int .u8 0], []⟩ 8 (by kernel_rfl) (by kernel_rfl) (by kernel_rfl) (by kernel_rfl)) ?_
  intro W base args ds gs before hval0 hW hcnd _
  have hval : ∀ (j : Nat) t v, Try.f5.params[j]? = some t → args[j]? = some v → Value.okWide Try.prog W .any base t v := hval0
  have hW' := hW
  obtain ⟨p, q, hA0, hV, rfl, hfz, hnd⟩ := hW
  have hA : DataW.TrodAll enc Try.prog W 0 (fun _ => true) true Try.f5.params.toList args.toList ds p := hA0
  rw [Try.params5] at hA hval
  obtain ⟨v0, vs0, d0, ds0, p0, q0, hargs, rfl, rfl, h0, r0⟩ := trodAll_cons hA
  obtain ⟨v1, vs1, d1, ds1, p1, q1, rfl, rfl, rfl, h1, r1⟩ := trodAll_cons r0
  obtain ⟨rfl, rfl, rfl⟩ := trodAll_nil r1
  obtain rfl : args = #[v0, v1] := by cases args; simp_all
  obtain ⟨rfl, rfl⟩ := trodVars_none hV
  obtain ⟨a0, len0, cap0, rfl⟩ := okWide_slice Try.underlying41 (hval 0 41 v0 rfl rfl)
  have k0 := h0
  have lt0 : ∀ x ∈ p0, x.block < W.heap.size := by obtain ⟨m, hm⟩ := k0; exact DataW.trod_lt m _ _ _ hm
  obtain ⟨z0, w0⟩ : ∃ zs, IsRow .u8 W a0 len0 cap0 zs := by
    obtain ⟨fuel, hf⟩ := h0
    rcases open_ints Try.underlying41 Try.underlying5 (by kernel_rfl) hf with ⟨hcs, _⟩ | ⟨x, l, c, zs, hcs, _, hl, hm, hz, _, hcell, hwz⟩
    · simp [Value.cells] at hcs
      obtain ⟨rfl, rfl, rfl⟩ := hcs
      exact ⟨[], .inl ⟨rfl, rfl, rfl, rfl⟩⟩
    · simp [Value.cells] at hcs
      obtain ⟨rfl, rfl, rfl⟩ := hcs
      exact ⟨zs, .inr ⟨_, rfl, hl, hm, by simpa using hz, hcell, hwz⟩⟩
  obtain ⟨a1, rfl, rfl, rfl, w1⟩ := open_int Try.underlying5 (hval 1 5 v1 rfl rfl) h1
  clear hA0 hval0
  refine (walk a0 len0 cap0 z0 a1 W w0 w1).mono fun e W' ⟨he, bel⟩ => ?_
  subst he
  exact ⟨_, rfl, _, _, _, [], _, [], hW', trodAll_mk1 (shut_bool Try.underlying4 _), (trodAll_cons_mk (Below.trod laidOut (by kernel_rfl) (of_decide_eq_true (by kernel_rfl)) k0 bel lt0) (trodAll_cons_mk (shut_int Try.underlying5 w1) trodAll_mk0)), rfl, bel.frame _, fun h => by cases h⟩

theorem over : Rows.lineFairRow.holds Try.pinned (OpenSpec.ofChange Rows.lineFairSpec) :=
  OpenClaim.holds_of_wide 5 Try.f5 rfl rfl rfl rfl rfl rfl rfl ⟨rfl, rfl, rfl, rfl, rfl⟩ rfl rfl rfl rfl rfl (by kernel_rfl) Try.func5 (by kernel_rfl)
    (of_decide_eq_true (by kernel_rfl)) (by unfold Func.isWrapper; first | (rw [if_pos (by decide +kernel)]; kernel_rfl) | (rw [if_neg (by decide +kernel)]; exact ⟨rfl, rfl⟩))
    (fun os started H enc _ => lifted os started H enc)

/-- THE STATEMENT -/
theorem proved : Rows.LineFairSaid := over
end Go.Proofs.Ytgpiaibklokhmaa.lineFair
