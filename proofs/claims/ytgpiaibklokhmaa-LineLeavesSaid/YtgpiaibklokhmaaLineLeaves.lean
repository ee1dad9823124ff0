/- PROVED: the statement LineLeaves of layer 7: for every input that can be read, the law returns true and leaves its arguments as they were. No condition. -/
import Derived.Test.YtgpiaibklokhmaaRows
import Derived.Test.YtgpiaibklokhmaaLaw7C
import Derived.WalkKit
import Derived.ProofKit
import Derived.OpenShut
import Derived.ShutString
import Derived.ChangeOld
import Derived.Below
import Derived.Deep.Cut
import Derived.Deep.CutBlock
import Derived.Deep.DeepCutAuto
namespace Go.Proofs.Ytgpiaibklokhmaa.lineLeaves
open Go.ChangeShapes Go.WideShapes Go.ChangeAt Go.RowKit
open Go.ChangeMaps (open_string shut_string)
open Go.Sort (grow)
set_option linter.unusedVariables false

theorem own : ownKnob Try.prog.godebug = none := by kernel_rfl
theorem laidOut : laidOutB Try.prog = true := by kernel_rfl

/-! ### STEP 1: THE WALK -/
set_option maxRecDepth 100000 in
set_option maxHeartbeats 4000000 in
theorem walk (a0 : Option Addr) (len0 cap0 : Nat) (z0 : List Int) (a1 : Int) (a2 : Option Addr) (len2 cap2 : Nat) (z2 : List Int) (w : World) (w0 : IsRow .u8 w a0 len0 cap0 z0) (w1 : (Lit.int .u8 a1).wf = true) (w2 : IsRow .u8 w a2 len2 cap2 z2) :
    Calls Try.prog 6 #[.slice a0 len0 cap0, .int .u8 a1, .slice a2 len2 cap2] w fun e w' => e = .returned (.bool true) ∧ Below w.heap.size w w' := by
  obtain ⟨hr, -⟩ := w0.rd
  obtain ⟨hr2, hrl2⟩ := w2.rd
  generalize bytesOf z0 len0 = NS at hr
  generalize bytesOf z2 len2 = GS at hr2 hrl2
  have ha1 : 0 ≤ a1 ∧ a1 ≤ 255 := by have := w1; simp [Lit.wf, IntKind.min, IntKind.max, IntKind.signed, IntKind.bits] at this; omega
  clear w0 w1 w2
  have C0 := Lib.hid (fun w => Cm.awake7_ok w)
  have CS := Lib.hid (Cm.Line_any _ NS w hr)
  clear hr
  have hlen := Cm.Rd.len_le hr2
  unfold maxLen at hlen
  obtain ⟨ar, lr, cr, hv, hl, hc, hm, hn, hx⟩ := hr2.ex
  cases hv
  have HI : Hid (∀ i, i < len2 → ∃ b o, a2 = some ⟨b, o, none⟩ ∧ ∀ w', Below w.heap.size w w' → w'.cell? ⟨b, o + i, none⟩ = some (.int .u8 ((GS.getD i 0).toNat : Int))) := Lib.hid fun i hi' => by
    match a2, hn, hx with
    | none, hn, _ => have := (hn rfl).1; omega
    | some ⟨b, o, sp⟩, _, hx =>
      obtain ⟨hs, hi⟩ := hx _ rfl (by omega)
      simp only at hs hi
      subst hs
      exact ⟨b, o, rfl, fun w' hb => by rw [hb.cell (p := ⟨b, o + i, none⟩) (lt_of_cell (hi i hi'))]; exact hi i hi'⟩
  clear hr2 hn hx
  rw [hrl2] at hlen
  clear hrl2 hl
  obtain ⟨i0, hi, hz0, hz1, hz2⟩ := info_parts Cm.infoN
  have v1 : IntKind.i64.wrap a1 = a1 := by rw [IntKind.wrap_i64]; omega
  obtain ⟨c, hcc⟩ : ∃ c, a1.tmod 8 = c := ⟨_, rfl⟩
  have hcr : 0 ≤ c ∧ c < 8 := by rw [← hcc, Int.tmod_eq_emod_of_nonneg (by omega)]; omega
  have v2 : IntKind.i64.wrap c = c := by rw [IntKind.wrap_i64]; omega
  clear hcr ha1
  go_enter Try.func6, Try.ntmps6
  go_upto_region 2 with (go_at_call 21; refine CS.out.mono ?_; rintro e w1 ⟨l, la, lp, rfl, hrt, hl, hb1⟩)
  clear CS
  have hm3 := ((Cm.rightL_iff l).1 hrt).1
  have HB1 := Lib.hid hb1
  have HL2 := Lib.hid (hl.later (newAlloc w1 (.cells #[] 3)))
  go_upto_region 3 with (at_builtin; refine wpList_append_rdx Cm.cellsI_length (by omega) Cm.cellsI_one rfl _ _ 23 rfl w1.heap.size 3 i0 _ 8 Try.underlying23 hi hz0 hz1 hz2 rfl _ 0 [] rfl (own_new w1 _ 1 _ _ rfl (Nat.le_refl _)) _ l rfl (HL2.out) (by unfold maxLen; omega) (by omega) (newAlloc w1 (.cells #[] 3)).size ?_; intro v5 w2 hown2 hgrow2)
  have hb2 : Below w1.heap.size w1 w2 := (newAlloc w1 (.cells #[] 3)).grown hgrow2 (newAlloc w1 (.cells #[] 3)).size (fun k hk => by cases hk; exact Nat.le_refl _)
  have hwas : Cm.RdI w2 v5 l := RdX.own Cm.cellsI_length (by simpa using hown2)
  obtain ⟨wa, wp, rfl⟩ := hwas.form
  have HBW := Lib.hid (step HB1.out hb2)
  have HL := Lib.hid (hl.later hb2)
  have HWA := Lib.hid hwas
  clear HL2 hown2 hgrow2 hb2 hwas hl hb1 HB1
  have K1 := Lib.hid (Cm.LineLeave_any _ l c w2 HL.out (by omega))
  have K2 := Lib.hid (fun w' (hb : Below w2.heap.size w2 w') => Cm.LineAhead_any _ l c w' (HL.out.later hb))
  have K3 := Lib.hid (fun v w' (h : Cm.RdI w' v (Cm.withoutL l [c])) => Cm.LineAhead_any v (Cm.withoutL l [c]) c w' h)
  have hah := Cm.aheadL_has l c
  have hag := Cm.aheadL_has (Cm.withoutL l [c]) c
  rw [Cm.leave_gone] at hag
  have HN1 := Lib.hid (Cm.leave_none l c)
  have HN2 := Lib.hid (Cm.leave_length l c hrt)
  unfold Cm.GetsL Cm.leaveL at K1
  unfold Cm.StandsB at K2 K3
  dsimp only at K1
  rw [hah] at K2
  rw [hag] at K3
  clear hah hag hrt
  have hMl : (Cm.withoutL l [c]).length ≤ 1000 := by
    have := List.length_filter_le (fun x => !Cm.hasL [c] x) l
    unfold Cm.withoutL
    omega
  generalize Cm.withoutL l [c] = MM at K1 K3 HN1 HN2 hMl
  generalize (Cm.aheadL l c).1 = an1 at K2
  generalize (Cm.aheadL MM c).1 = an2 at K3
  generalize Cm.hasL l c = HH at K1 K2 HN1 HN2
  have KA := Lib.hid (fun u g w' (hb : Below w2.heap.size w2 w') (hu : Cm.RdI w' u g) => Cm.LineWithout_any _ u l g w' (HL.out.later hb) hu (by omega))
  obtain ⟨L, hL⟩ : ∃ L, l.length = L := ⟨_, rfl⟩
  have HLL := Lib.hid hL
  obtain ⟨ML, hML⟩ : ∃ ML, MM.length = ML := ⟨_, rfl⟩
  have HML := Lib.hid hML
  rw [hL] at hm3 K1 K2 HN2 HL HWA KA ⊢
  rw [hML] at K1 HN2 hMl
  clear hL hML
  go_upto_region 5 with (go_at_call 12; refine K1.out.mono ?_; rintro e w3 ⟨vm, rfl, ho3, hb3⟩; have HO3 := Lib.hid ho3; have HB3 := Lib.hid hb3; clear ho3 hb3)
  obtain ⟨ma, mp, rfl⟩ := Rw.own_form HO3.out
  go_wp2_with fail
  refine (K2.out _ HB3.out).mono ?_
  rintro e w4 ⟨rfl, hb4⟩
  have HO4 := Lib.hid (Cm.own_later7 HO3.out hb4)
  have HB4 := Lib.hid (step HB3.out hb4)
  clear hb4
  go_wp2_with fail
  refine (K3.out _ _ (RdX.own (l := MM) Cm.cellsI_length (by rw [HML.out]; exact HO4.out))).mono ?_
  rintro e w5 ⟨rfl, hb5⟩
  have HO5 := Lib.hid (Cm.own_later7 HO4.out hb5)
  have HB5 := Lib.hid (step HB4.out hb5)
  clear hb5 K1 K2 K3 HO3 HO4 HB3 HB4
  have HIB := Lib.hid (step HBW.out HB5.out)
  go_wp2
  go_loopw [16, 17] (fun s i wr => ∃ (I : Nat) (G : List Int), I ≤ len2 ∧ I ≤ 20 ∧ Hid (G.length = I) ∧ i = .int .i64 (I : Int) ∧ Hid (wr.ownsRow w5.heap.size 3 1 s G.length (flatX Cm.cellsI G)) ∧ Hid (Below w5.heap.size w5 wr)) (fun _ i _ => len2 - (intOf i).toNat)
  case atStart => exact ⟨0, [], by omega, by omega, Lib.hid rfl, rfl, Lib.hid (World.ownsRow_nil _ _ _ _), Lib.hid (Below.refl _ _)⟩
  case round =>
    obtain ⟨I, G, hI1, hI2, hGI, rfl, HG, HBG⟩ := hrel
    obtain ⟨oa, oc, rfl⟩ := Rw.own_form HG.out
    have hG20 : G.length ≤ 20 := by have := hGI.out; omega
    by_cases hgo : I < len2 ∧ I < 20
    · obtain ⟨g1, g3⟩ := hgo
      obtain ⟨b, o, rfl, hcell⟩ := HI.out I g1
      have q0 := hcell _ (step HIB.out HBG.out)
      have tx : (GS.getD I 0).toNat < 256 := UInt8.toNat_lt _
      clear hcell HI
      generalize (GS.getD I 0).toNat = X at q0 tx
      have d1 : decide (I < len2) = true := decide_eq_true g1
      have d3 : decide (I < 20) = true := decide_eq_true g3
      have v4 : IntKind.i64.wrap (X : Int) = (X : Int) := by rw [IntKind.wrap_i64]; omega
      obtain ⟨y, hy⟩ : ∃ y, (X : Int).tmod 9 = y := ⟨_, rfl⟩
      have hyr : 0 ≤ y ∧ y < 9 := by rw [← hy, Int.tmod_eq_emod_of_nonneg (by omega)]; omega
      have v5 : IntKind.i64.wrap y = y := by rw [IntKind.wrap_i64]; omega
      clear hyr
      go_wp2_with (at_builtin; (refine wpList_append_one Cm.cellsI_length (by omega) rfl (.tmp 59) (.tmp 66) 23 rfl 3 i0 _ 8 Try.underlying23 hi hz0 hz1 hz2 rfl #[.int .i64 y] y rfl (Cm.cellsI_one _) G w5.heap.size w5.heap.size w5 _ rfl rfl HG.out (by unfold maxLen; omega) (by omega) HBG.out.size HBG.out (Nat.le_refl _) ?_); intro v6 w6 ho6 hb6 _; have HO6 := Lib.hid ho6; have HB6 := Lib.hid hb6; clear ho6 hb6)
      go_roundw
      case rel => exact ⟨I + 1, G ++ [y], by omega, by omega, Lib.hid (by simp [hGI.out]), by go_num, HO6, HB6⟩
      case measure => simp [intOf]; omega
    · have HGR := Lib.hid (RdX.own Cm.cellsI_length HG.out)
      have hcs : ¬ I < len2 ∨ (I < len2 ∧ ¬ I < 20) := by omega
      clear hgo HI hG20
      have KW := Lib.hid (KA.out _ G _ (step HB5.out HBG.out) HGR.out)
      have HPL := Lib.hid (Cm.without_place l G)
      have HTK := Lib.hid (Cm.without_take l G)
      have HT0 : Hid (Cm.withoutL (l.take l.length) G = Cm.withoutL l G) := Lib.hid (by rw [List.take_length])
      have HXL : Hid ((Cm.withoutL l G).length ≤ 1000) := Lib.hid (by
        have := List.length_filter_le (fun x => !Cm.hasL G x) l
        unfold Cm.withoutL
        rw [HLL.out] at this
        omega)
      unfold Cm.GetsN at KW
      generalize Cm.withoutL l G = XX at KW HPL HT0 HXL
      obtain ⟨XL, hXL⟩ : ∃ XL, XX.length = XL := ⟨_, rfl⟩
      have HXX := Lib.hid hXL
      rw [hXL] at KW HXL
      clear hXL
      obtain ⟨GL, hGL⟩ : ∃ GL, G.length = GL := ⟨_, rfl⟩
      rw [hGL] at KW HGR ⊢
      clear hGL
      have hXl := HXL.out
      rcases hcs with c1 | ⟨c1, c2⟩
      all_goals
        go_upto_region 13 with (go_at_call 18; refine KW.out.mono ?_; rintro e w7 ⟨vx, rfl, ho7, hb7⟩; have HO7 := Lib.hid ho7; have HB7 := Lib.hid hb7; clear ho7 hb7)
        obtain ⟨xa, xp, rfl⟩ := Rw.own_form HO7.out
        have HB07 := Lib.hid (step (step HB5.out HBG.out) HB7.out)
        have HG7 := Lib.hid (HGR.out.later HB7.out)
        have HX7 := Lib.hid (RdX.own (l := XX) Cm.cellsI_length (by rw [HXX.out]; exact HO7.out))
        have HAL := Lib.hid (fun i hi => Cm.rdi_at (HL.out.later HB07.out) i hi)
        have HAX := Lib.hid (fun i hi => Cm.rdi_at HX7.out i hi)
        have HIN := Lib.hid (fun x w' (hb : Below w7.heap.size w7 w') => Cm.In_has _ G x w' (HG7.out.later hb))
        clear HG7 HX7 HGR KW
        go_wp2
        go_loopw [19, 20] (fun s i wr => ∃ (J k : Nat), k ≤ L ∧ i = .int .i64 (k : Int) ∧ s = .int .i64 (J : Int) ∧ Hid ((Cm.withoutL (l.take k) G).length = J) ∧ Hid (Below w7.heap.size w7 wr)) (fun _ i _ => L - (intOf i).toNat)
        case atStart => exact ⟨0, 0, by omega, rfl, rfl, Lib.hid rfl, Lib.hid (Below.refl _ _)⟩
        case round =>
          obtain ⟨J, k, hk, rfl, rfl, HJ, HBK⟩ := hrel
          by_cases hlt : k < L
          · have hkl : k < l.length := by rw [HLL.out]; exact hlt
            obtain ⟨b, o, rfl, hc3⟩ := HAL.out k hkl
            have q0 := hc3 _ HBK.out
            have hpl : Cm.hasL G l[k] = false → ∃ hj : J < XX.length, XX[J] = l[k] := fun q => by
              have e := HJ.out
              subst e
              exact HPL.out k hkl q
            have htk := HTK.out k hkl
            rw [HJ.out] at htk
            have KI := Lib.hid (HIN.out l[k] _ HBK.out)
            clear hc3 HAL HL HIN HPL HTK
            generalize l[k] = x at q0 hpl htk KI
            have g1 : (0 : Int) ≤ (k : Int) := by omega
            have g2 : (k : Int) < (L : Int) := by omega
            cases n1 : Cm.hasL G x with
            | true =>
              rw [n1] at KI htk
              have H : Hid ((Cm.withoutL (l.take (k + 1)) G).length = J) := Lib.hid (by rw [htk]; simp)
              clear hpl htk n1 HAX
              go_wp2_with (go_at_call 20; refine KI.out.mono ?_; rintro e w8 ⟨rfl, rfl⟩)
              go_roundw
              case rel => exact ⟨J, k + 1, by omega, by go_num, rfl, H, HBK⟩
              case measure => simp [intOf]; omega
            | false =>
              rw [n1] at KI htk
              have H : Hid ((Cm.withoutL (l.take (k + 1)) G).length = J + 1) := Lib.hid (by rw [htk]; simp)
              obtain ⟨hj, hxj⟩ := hpl n1
              obtain ⟨b', o', rfl, hc4⟩ := HAX.out J hj
              have q1 := hc4 _ HBK.out
              rw [hxj] at q1
              have hJX : J < XL := by rw [← HXX.out]; exact hj
              have d6 : decide ((XL : Int) ≤ (J : Int)) = false := by simp; omega
              have g3 : (0 : Int) ≤ (J : Int) := by omega
              have g4 : (J : Int) < (XL : Int) := by omega
              clear hpl htk n1 HAX hc4 hxj hj
              go_upto_region 18 with (go_at_call 20; refine KI.out.mono ?_; rintro e w8 ⟨rfl, rfl⟩)
              go_quiet (fail)
              go_wp2
              go_roundw
              case rel => exact ⟨J + 1, k + 1, by omega, by go_num, by go_num, H, Lib.hid (Cm.below_drewN6 HBK.out nq)⟩
              case measure => simp [intOf]; omega
          · obtain rfl : k = L := by omega
            have hJ : XL = J := by
              have h := HT0.out
              rw [HLL.out] at h
              rw [← HJ.out, h, HXX.out]
            subst hJ
            clear HJ HT0 HAL HAX HIN HPL HTK
            cases HH with
            | true =>
              have hml := HN2.out rfl
              have v6 : IntKind.i64.wrap ((k : Int) - 1) = (ML : Int) := by rw [IntKind.wrap_i64]; omega
              clear hml HN1 HN2
              have HBX := HBK
              have HX0 := Lib.hid (own_lowerX (Cm.own_later7 HO7.out HBX.out) HBG.out.size)
              have HB50 := Lib.hid (step (step HBG.out HB7.out) HBX.out)
              clear HB7 HBG HO7 HBX
              go_wp2
              go_loopw [21] (fun i wr => ∃ (k : Nat) (X : List Int), k ≤ XL ∧ i = .int .i64 (k : Int) ∧ Hid (X.length = XL) ∧ Hid (wr.ownsRow w5.heap.size 3 1 (.slice xa XL xp) XL (flatX Cm.cellsI X)) ∧ Hid (Below w5.heap.size w5 wr)) (fun i _ => XL - (intOf i).toNat)
              case atStart => exact ⟨0, XX, by omega, rfl, HXX, HX0, HB50⟩
              case round =>
                obtain ⟨k3, X, hk3, rfl, HXn, HXo, HBx⟩ := hrel
                by_cases hlt3 : k3 < XL
                · obtain ⟨gx, rfl, hgx⟩ := own_some HXo.out (by omega)
                  obtain ⟨p0, pf⟩ := Cm.ownI_at HXo.out HXn.out k3 (by rw [HXn.out]; exact hlt3)
                  have HS := Lib.hid (Cm.ownI_set HXo.out k3 (by rw [HXn.out]; exact hlt3) 77)
                  have HSn : Hid ((X.set k3 77).length = XL) := Lib.hid (by rw [List.length_set]; exact HXn.out)
                  clear HX0
                  generalize X[k3]'(by rw [HXn.out]; exact hlt3) = xv at p0
                  go_wp2
                  go_roundw
                  case rel => exact ⟨k3 + 1, X.set k3 77, by omega, by go_num, HSn, HS, Lib.hid (HBx.out.setCell hgx _)⟩
                  case measure => simp [intOf]; omega
                · have HM0 := Lib.hid (Cm.own_later7 HO5.out HBx.out)
                  have HB20 := Lib.hid (step HB5.out HBx.out)
                  clear HXo HXn HX0 HBx HB50
                  go_wp2
                  go_loopw [22] (fun i wr => ∃ (k : Nat) (X : List Int), k ≤ ML ∧ i = .int .i64 (k : Int) ∧ Hid (X.length = ML) ∧ Hid (wr.ownsRow w2.heap.size 3 1 (.slice ma ML mp) ML (flatX Cm.cellsI X)) ∧ Hid (Below w2.heap.size w2 wr)) (fun i _ => ML - (intOf i).toNat)
                  case atStart => exact ⟨0, MM, by omega, rfl, HML, HM0, HB20⟩
                  case round =>
                    obtain ⟨k4, X, hk4, rfl, HXn, HXo, HBx⟩ := hrel
                    by_cases hlt4 : k4 < ML
                    · obtain ⟨gx, rfl, hgx⟩ := own_some HXo.out (by omega)
                      obtain ⟨p0, pf⟩ := Cm.ownI_at HXo.out HXn.out k4 (by rw [HXn.out]; exact hlt4)
                      have HS := Lib.hid (Cm.ownI_set HXo.out k4 (by rw [HXn.out]; exact hlt4) 78)
                      have HSn : Hid ((X.set k4 78).length = ML) := Lib.hid (by rw [List.length_set]; exact HXn.out)
                      clear HM0 HO5
                      generalize X[k4]'(by rw [HXn.out]; exact hlt4) = xv at p0
                      go_wp2
                      go_roundw
                      case rel => exact ⟨k4 + 1, X.set k4 78, by omega, by go_num, HSn, HS, Lib.hid (HBx.out.setCell hgx _)⟩
                      case measure => simp [intOf]; omega
                    · have KZ := KA.out _ l _ HBx.out (HL.out.later HBx.out)
                      rw [Cm.without_all] at KZ
                      have KZ := Lib.hid (KZ.mono fun e w' h => Cm.GetsN.s h)
                      unfold Cm.GetsNS at KZ
                      simp only [List.length_nil] at KZ
                      clear HXo HXn HM0 HO5 HB20
                      go_wp2_with fail
                      refine KZ.out.mono ?_
                      rintro e w20 ⟨za, zp, rfl, -, hb20⟩
                      have HB21 := Lib.hid (step HBx.out hb20)
                      clear hb20
                      go_wp2_with fail
                      refine (Cm.same_refl _ _ l _ (HL.out.later HB21.out) (HWA.out.later HB21.out)).mono ?_
                      rintro e w21 ⟨rfl, hb21⟩
                      have HB22 := Lib.hid (step HB21.out hb21)
                      clear hb21
                      go_wp2_with (go_at_call 8; refine (C0.out _).mono ?_; rintro e w22 ⟨rfl, hb22⟩)
                      go_ret
                      exact ⟨rfl, step HBW.out (step HB22.out hb22)⟩
            | false =>
              have hmm := HN1.out rfl
              have HMR : Hid (Cm.RdI w5 (.slice ma ML mp) l) := Lib.hid (by rw [← hmm]; exact RdX.own (l := MM) Cm.cellsI_length (by rw [HML.out]; exact HO5.out))
              clear hmm HN1 HN2
              go_wp2_with fail
              refine (Cm.same_refl _ _ l _ (HMR.out.later (step (step HBG.out HB7.out) HBK.out)) (HL.out.later (step HB07.out HBK.out))).mono ?_
              rintro e w9 ⟨rfl, hb9⟩
              have HBK9 := Lib.hid (step HBK.out hb9)
              clear hb9 HMR
              have HBX := HBK9
              have HX0 := Lib.hid (own_lowerX (Cm.own_later7 HO7.out HBX.out) HBG.out.size)
              have HB50 := Lib.hid (step (step HBG.out HB7.out) HBX.out)
              clear HB7 HBG HO7 HBX
              go_wp2
              go_loopw [21] (fun i wr => ∃ (k : Nat) (X : List Int), k ≤ XL ∧ i = .int .i64 (k : Int) ∧ Hid (X.length = XL) ∧ Hid (wr.ownsRow w5.heap.size 3 1 (.slice xa XL xp) XL (flatX Cm.cellsI X)) ∧ Hid (Below w5.heap.size w5 wr)) (fun i _ => XL - (intOf i).toNat)
              case atStart => exact ⟨0, XX, by omega, rfl, HXX, HX0, HB50⟩
              case round =>
                obtain ⟨k3, X, hk3, rfl, HXn, HXo, HBx⟩ := hrel
                by_cases hlt3 : k3 < XL
                · obtain ⟨gx, rfl, hgx⟩ := own_some HXo.out (by omega)
                  obtain ⟨p0, pf⟩ := Cm.ownI_at HXo.out HXn.out k3 (by rw [HXn.out]; exact hlt3)
                  have HS := Lib.hid (Cm.ownI_set HXo.out k3 (by rw [HXn.out]; exact hlt3) 77)
                  have HSn : Hid ((X.set k3 77).length = XL) := Lib.hid (by rw [List.length_set]; exact HXn.out)
                  clear HX0
                  generalize X[k3]'(by rw [HXn.out]; exact hlt3) = xv at p0
                  go_wp2
                  go_roundw
                  case rel => exact ⟨k3 + 1, X.set k3 77, by omega, by go_num, HSn, HS, Lib.hid (HBx.out.setCell hgx _)⟩
                  case measure => simp [intOf]; omega
                · have HM0 := Lib.hid (Cm.own_later7 HO5.out HBx.out)
                  have HB20 := Lib.hid (step HB5.out HBx.out)
                  clear HXo HXn HX0 HBx HB50
                  go_wp2
                  go_loopw [22] (fun i wr => ∃ (k : Nat) (X : List Int), k ≤ ML ∧ i = .int .i64 (k : Int) ∧ Hid (X.length = ML) ∧ Hid (wr.ownsRow w2.heap.size 3 1 (.slice ma ML mp) ML (flatX Cm.cellsI X)) ∧ Hid (Below w2.heap.size w2 wr)) (fun i _ => ML - (intOf i).toNat)
                  case atStart => exact ⟨0, MM, by omega, rfl, HML, HM0, HB20⟩
                  case round =>
                    obtain ⟨k4, X, hk4, rfl, HXn, HXo, HBx⟩ := hrel
                    by_cases hlt4 : k4 < ML
                    · obtain ⟨gx, rfl, hgx⟩ := own_some HXo.out (by omega)
                      obtain ⟨p0, pf⟩ := Cm.ownI_at HXo.out HXn.out k4 (by rw [HXn.out]; exact hlt4)
                      have HS := Lib.hid (Cm.ownI_set HXo.out k4 (by rw [HXn.out]; exact hlt4) 78)
                      have HSn : Hid ((X.set k4 78).length = ML) := Lib.hid (by rw [List.length_set]; exact HXn.out)
                      clear HM0 HO5
                      generalize X[k4]'(by rw [HXn.out]; exact hlt4) = xv at p0
                      go_wp2
                      go_roundw
                      case rel => exact ⟨k4 + 1, X.set k4 78, by omega, by go_num, HSn, HS, Lib.hid (HBx.out.setCell hgx _)⟩
                      case measure => simp [intOf]; omega
                    · have KZ := KA.out _ l _ HBx.out (HL.out.later HBx.out)
                      rw [Cm.without_all] at KZ
                      have KZ := Lib.hid (KZ.mono fun e w' h => Cm.GetsN.s h)
                      unfold Cm.GetsNS at KZ
                      simp only [List.length_nil] at KZ
                      clear HXo HXn HM0 HO5 HB20
                      go_wp2_with fail
                      refine KZ.out.mono ?_
                      rintro e w20 ⟨za, zp, rfl, -, hb20⟩
                      have HB21 := Lib.hid (step HBx.out hb20)
                      clear hb20
                      go_wp2_with fail
                      refine (Cm.same_refl _ _ l _ (HL.out.later HB21.out) (HWA.out.later HB21.out)).mono ?_
                      rintro e w21 ⟨rfl, hb21⟩
                      have HB22 := Lib.hid (step HB21.out hb21)
                      clear hb21
                      go_wp2_with (go_at_call 8; refine (C0.out _).mono ?_; rintro e w22 ⟨rfl, hb22⟩)
                      go_ret
                      exact ⟨rfl, step HBW.out (step HB22.out hb22)⟩

/-! ### THE ROW's STEP -/
set_option maxRecDepth 100000 in
theorem lifted (os : Os) (started : os.Started) (H : Type) (enc : TypeId × Value → H) :
    ReturnsInHanded {} Try.checked os 6 .any (Rows.lineLeavesSpec.pre6 enc Try.prog Try.f6 Rows.lineLeavesRow.domain false) (Rows.lineLeavesSpec.post enc Try.prog Try.f6 false true false false) := by
  refine returnsInHanded_of_change (C := Try.checked) own started (by kernel_rfl) Try.func6
    (ChangeSpec.witness6 (enc := enc) (C := Try.checked) false ⟨#[], #[.slice none 0 0, .int .u8 0, .slice none 0 0], []⟩ 8 (by kernel_rfl) (by kernel_rfl) (by kernel_rfl) (by kernel_rfl)) ?_
  intro W base args ds gs before hval0 hW hcnd _
  have hval : ∀ (j : Nat) t v, Try.f6.params[j]? = some t → args[j]? = some v → Value.okWide Try.prog W .any base t v := hval0
  have hW' := hW
  obtain ⟨p, q, hA0, hV, rfl, hfz, hnd⟩ := hW
  have hA : DataW.TrodAll enc Try.prog W 0 (fun _ => true) true Try.f6.params.toList args.toList ds p := hA0
  rw [Try.params6] at hA hval
  obtain ⟨v0, vs0, d0, ds0, p0, q0, hargs, rfl, rfl, h0, r0⟩ := trodAll_cons hA
  obtain ⟨v1, vs1, d1, ds1, p1, q1, rfl, rfl, rfl, h1, r1⟩ := trodAll_cons r0
  obtain ⟨v2, vs2, d2, ds2, p2, q2, rfl, rfl, rfl, h2, r2⟩ := trodAll_cons r1
  obtain ⟨rfl, rfl, rfl⟩ := trodAll_nil r2
  obtain rfl : args = #[v0, v1, v2] := by cases args; simp_all
  obtain ⟨rfl, rfl⟩ := trodVars_none hV
  obtain ⟨a0, len0, cap0, rfl⟩ := okWide_slice Try.underlying41 (hval 0 41 v0 rfl rfl)
  have k0 := h0
  have lt0 : ∀ x ∈ p0, x.block < W.heap.size := by obtain ⟨m, hm⟩ := k0; exact DataW.trod_lt m _ _ _ hm
  obtain ⟨z0, w0⟩ : ∃ zs, IsRow .u8 W a0 len0 cap0 zs := by
    obtain ⟨fuel, hf⟩ := h0
    rcases open_ints Try.underlying41 Try.underlying5 (by kernel_rfl) hf with ⟨hcs, _⟩ | ⟨x, l, c, zs, hcs, _, hl, hm, hz, _, hcell, hwz⟩
    · simp [Value.cells] at hcs
      obtain ⟨rfl, rfl, rfl⟩ := hcs
      exact ⟨[], .inl ⟨rfl, rfl, rfl, rfl⟩⟩
    · simp [Value.cells] at hcs
      obtain ⟨rfl, rfl, rfl⟩ := hcs
      exact ⟨zs, .inr ⟨_, rfl, hl, hm, by simpa using hz, hcell, hwz⟩⟩
  obtain ⟨a1, rfl, rfl, rfl, w1⟩ := open_int Try.underlying5 (hval 1 5 v1 rfl rfl) h1
  obtain ⟨a2, len2, cap2, rfl⟩ := okWide_slice Try.underlying41 (hval 2 41 v2 rfl rfl)
  have k2 := h2
  have lt2 : ∀ x ∈ p2, x.block < W.heap.size := by obtain ⟨m, hm⟩ := k2; exact DataW.trod_lt m _ _ _ hm
  obtain ⟨z2, w2⟩ : ∃ zs, IsRow .u8 W a2 len2 cap2 zs := by
    obtain ⟨fuel, hf⟩ := h2
    rcases open_ints Try.underlying41 Try.underlying5 (by kernel_rfl) hf with ⟨hcs, _⟩ | ⟨x, l, c, zs, hcs, _, hl, hm, hz, _, hcell, hwz⟩
    · simp [Value.cells] at hcs
      obtain ⟨rfl, rfl, rfl⟩ := hcs
      exact ⟨[], .inl ⟨rfl, rfl, rfl, rfl⟩⟩
    · simp [Value.cells] at hcs
      obtain ⟨rfl, rfl, rfl⟩ := hcs
      exact ⟨zs, .inr ⟨_, rfl, hl, hm, by simpa using hz, hcell, hwz⟩⟩
  clear hA0 hval0
  refine (walk a0 len0 cap0 z0 a1 a2 len2 cap2 z2 W w0 w1 w2).mono fun e W' ⟨he, bel⟩ => ?_
  subst he
  exact ⟨_, rfl, _, _, _, [], _, [], hW', trodAll_mk1 (shut_bool Try.underlying4 _), (trodAll_cons_mk (Below.trod laidOut (by kernel_rfl) (of_decide_eq_true (by kernel_rfl)) k0 bel lt0) (trodAll_cons_mk (shut_int Try.underlying5 w1) (trodAll_cons_mk (Below.trod laidOut (by kernel_rfl) (of_decide_eq_true (by kernel_rfl)) k2 bel lt2) trodAll_mk0))), rfl, bel.frame _, fun h => by cases h⟩

theorem over : Rows.lineLeavesRow.holds Try.pinned (OpenSpec.ofChange Rows.lineLeavesSpec) :=
  OpenClaim.holds_of_wide 6 Try.f6 rfl rfl rfl rfl rfl rfl rfl ⟨rfl, rfl, rfl, rfl, rfl⟩ rfl rfl rfl rfl rfl (by kernel_rfl) Try.func6 (by kernel_rfl)
    (of_decide_eq_true (by kernel_rfl)) (by unfold Func.isWrapper; first | (rw [if_pos (by decide +kernel)]; kernel_rfl) | (rw [if_neg (by decide +kernel)]; exact ⟨rfl, rfl⟩))
    (fun os started H enc _ => lifted os started H enc)

/-- THE STATEMENT -/
theorem proved : Rows.LineLeavesSaid := over
end Go.Proofs.Ytgpiaibklokhmaa.lineLeaves
