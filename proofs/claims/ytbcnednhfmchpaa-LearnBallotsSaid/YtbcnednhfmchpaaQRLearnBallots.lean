/- PROVED: the statement LearnBallots of layer 15: for every input that can be read, the law returns true and leaves its arguments as they were. No condition. -/
import Derived.Test.YtbcnednhfmchpaaRows
import Derived.Test.YtbcnednhfmchpaaQ13
import Derived.WalkKit
import Derived.ProofKit
import Derived.OpenShut
import Derived.ShutString
import Derived.ChangeOld
import Derived.Below
import Derived.BigQuiet
import Derived.Lib.QuietBelow
import Derived.SizedLaws
import Derived.Deep.Cut
import Derived.Deep.CutBlock
import Derived.Deep.DeepCutAuto
namespace Go.Proofs.Ytbcnednhfmchpaa.learnBallots
open Go.ChangeShapes Go.WideShapes Go.ChangeAt Go.RowKit
open Go.ChangeMaps (open_string shut_string)
open Go.Sort (grow)
set_option linter.unusedVariables false
set_option maxRecDepth 8000
set_option linter.unusedSimpArgs false

theorem own : ownKnob Try.prog.godebug = none := by kernel_rfl
theorem laidOut : laidOutB Try.prog = true := by kernel_rfl

/-! ### STEP 1: THE WALK -/
set_option maxRecDepth 100000 in
set_option maxHeartbeats 4000000 in
theorem walk (a0 : Int) (a1 : Int) (a2 : Option Addr) (len2 cap2 : Nat) (z2 : List Int) (a3 : Option Addr) (len3 cap3 : Nat) (z3 : List Int) (a4 : Int) (w : World) (w0 : (Lit.int .u8 a0).wf = true) (w1 : (Lit.int .u8 a1).wf = true) (w2 : IsRow .u8 w a2 len2 cap2 z2) (s2 : len2 ≤ 140737488355328) (w3 : IsRow .u8 w a3 len3 cap3 z3) (s3 : len3 ≤ 140737488355328) (w4 : (Lit.int .u8 a4).wf = true) :
    Calls Try.prog 5 #[.int .u8 a0, .int .u8 a1, .slice a2 len2 cap2, .slice a3 len3 cap3, .int .u8 a4] w fun e w' => e = .returned (.bool true) ∧ Below w.heap.size w w' := by
  obtain ⟨hrSA, hrlSA⟩ := w2.rd
  generalize bytesOf z2 len2 = SA at hrSA hrlSA
  obtain ⟨hrSB, hrlSB⟩ := w3.rd
  generalize bytesOf z3 len3 = SB at hrSB hrlSB
  obtain ⟨P, rfl⟩ : ∃ P : Nat, a0 = (P : Int) := Int.eq_ofNat_of_zero_le (by have := w0; simp [Lit.wf, IntKind.min, IntKind.max, IntKind.signed, IntKind.bits] at this; omega)
  have hP : P < 256 := by have := w0; simp [Lit.wf, IntKind.min, IntKind.max, IntKind.signed, IntKind.bits] at this; omega
  obtain ⟨Q, rfl⟩ : ∃ Q : Nat, a1 = (Q : Int) := Int.eq_ofNat_of_zero_le (by have := w1; simp [Lit.wf, IntKind.min, IntKind.max, IntKind.signed, IntKind.bits] at this; omega)
  have hQ : Q < 256 := by have := w1; simp [Lit.wf, IntKind.min, IntKind.max, IntKind.signed, IntKind.bits] at this; omega
  obtain ⟨M, rfl⟩ : ∃ M : Nat, a4 = (M : Int) := Int.eq_ofNat_of_zero_le (by have := w4; simp [Lit.wf, IntKind.min, IntKind.max, IntKind.signed, IntKind.bits] at this; omega)
  have hM : M < 256 := by have := w4; simp [Lit.wf, IntKind.min, IntKind.max, IntKind.signed, IntKind.bits] at this; omega
  obtain ⟨m, hm⟩ : ∃ m, M % 5 = m := ⟨_, rfl⟩
  have hm5 : m < 5 := by omega
  have tm : (M : Int).tmod 5 = (m : Int) := by rw [Int.tmod_eq_emod_of_nonneg (by omega)]; omega
  have e0 : IntKind.i64.wrap (P : Int) = (P : Int) := by rw [IntKind.wrap_i64]; omega
  have e1 : IntKind.i64.wrap (Q : Int) = (Q : Int) := by rw [IntKind.wrap_i64]; omega
  have e2 : IntKind.i64.wrap ((P : Int) + 1) = (P : Int) + 1 := by rw [IntKind.wrap_i64]; omega
  have e3 : IntKind.i64.wrap ((P : Int) + 1 + (Q : Int)) = (P : Int) + 1 + (Q : Int) := by rw [IntKind.wrap_i64]; omega
  have e4 : IntKind.i64.wrap (M : Int) = (M : Int) := by rw [IntKind.wrap_i64]; omega
  have HHP : Hid (Cm.highF (P : Int) 0 = true) := Lib.hid (by simp [Cm.highF]; omega)
  have HHQ : Hid (Cm.highF ((P : Int) + 1 + (Q : Int)) 0 = true) := Lib.hid (by simp [Cm.highF]; omega)
  have CN := Lib.hid (Ln.New_yes 5 w (by rfl))
  obtain ⟨g, hgw⟩ : ∃ g, w.heap.size = g := ⟨_, rfl⟩
  rw [hgw] at CN
  have HGW := Lib.hid hgw
  clear hgw
  have C0 := Lib.hid (fun w => Ln.awake15_ok w)
  have HYSA : Hid (0 < len2 → ∃ b o, a2 = some ⟨b, o, none⟩ ∧ ∀ w' : World, Below w.heap.size w w' → ∀ i, i < len2 → w'.cell? ⟨b, o + i, none⟩ = some (.int .u8 (Cm.bAtB SA i : Int))) := Lib.hid fun h0 => Cm.byte_at hrSA h0
  have HYSB : Hid (0 < len3 → ∃ b o, a3 = some ⟨b, o, none⟩ ∧ ∀ w' : World, Below w.heap.size w w' → ∀ i, i < len3 → w'.cell? ⟨b, o + i, none⟩ = some (.int .u8 (Cm.bAtB SB i : Int))) := Lib.hid fun h0 => Cm.byte_at hrSB h0
  clear w0 w1 w2 w3 w4 hrSA hrSB hrlSA hrlSB hm hP hQ hM
  by_cases hl2 : 2 < len2
  · have d2 : decide ((2 : Int) < (len2 : Int)) = true := by simp; omega
    clear hl2
    go_enter Try.func5, Try.ntmps5
    go_upto_region 3 with (go_at_call 9; refine CN.out.mono ?_; rintro e w1 hnw; obtain ⟨rfl, hw⟩ := hnw; have HA1 : Hid (Ln.HasD w1 g (g + 1) (Ln.newL 5)) := Lib.hid (Ln.HasD.new (by rw [hw]; exact Cm.alloc_atB _ _ _ HGW.out) (by omega) (by rw [hw]; simp [HGW.out])); have HB1 : Hid (Below w.heap.size w w1) := Lib.hid (by rw [hw]; exact newAlloc _ _); have hs1 : Hid (w1.heap.size = g + 1) := Lib.hid (by rw [hw]; simp [HGW.out]); clear hw)
    go_wp2_with (go_at_call 8; refine (C0.out _).mono ?_; rintro e w8 ⟨rfl, hb⟩; have HB8 := Lib.hid (step HB1.out hb); clear hb)
    go_ret
    exact ⟨rfl, HB8.out⟩
  have d2 : decide ((2 : Int) < (len2 : Int)) = false := by simp; omega
  by_cases hl3 : 2 < len3
  · have d3 : decide ((2 : Int) < (len3 : Int)) = true := by simp; omega
    clear hl2 hl3
    go_enter Try.func5, Try.ntmps5
    go_upto_region 3 with (go_at_call 9; refine CN.out.mono ?_; rintro e w1 hnw; obtain ⟨rfl, hw⟩ := hnw; have HA1 : Hid (Ln.HasD w1 g (g + 1) (Ln.newL 5)) := Lib.hid (Ln.HasD.new (by rw [hw]; exact Cm.alloc_atB _ _ _ HGW.out) (by omega) (by rw [hw]; simp [HGW.out])); have HB1 : Hid (Below w.heap.size w w1) := Lib.hid (by rw [hw]; exact newAlloc _ _); have hs1 : Hid (w1.heap.size = g + 1) := Lib.hid (by rw [hw]; simp [HGW.out]); clear hw)
    go_wp2_with (go_at_call 8; refine (C0.out _).mono ?_; rintro e w8 ⟨rfl, hb⟩; have HB8 := Lib.hid (step HB1.out hb); clear hb)
    go_ret
    exact ⟨rfl, HB8.out⟩
  have d3 : decide ((2 : Int) < (len3 : Int)) = false := by simp; omega
  go_enter Try.func5, Try.ntmps5
  go_upto_region 6 with (go_at_call 9; refine CN.out.mono ?_; rintro e w1 hnw; obtain ⟨rfl, hw⟩ := hnw; have HA1 : Hid (Ln.HasD w1 g (g + 1) (Ln.newL 5)) := Lib.hid (Ln.HasD.new (by rw [hw]; exact Cm.alloc_atB _ _ _ HGW.out) (by omega) (by rw [hw]; simp [HGW.out])); have HB1 : Hid (Below w.heap.size w w1) := Lib.hid (by rw [hw]; exact newAlloc _ _); have hs1 : Hid (w1.heap.size = g + 1) := Lib.hid (by rw [hw]; simp [HGW.out]); clear hw)
  go_loopw [14] (fun i wr => ∃ (I : Nat) (st : Ln.LrnV), I ≤ len2 ∧ i = .int .i64 (I : Int) ∧ Hid (Ln.Lst st (P : Int) I) ∧ Hid (Ln.HasD wr g (g + 1) st) ∧ Hid (Below w.heap.size w wr)) (fun i _ => len2 - (intOf i).toNat)
  case atStart => exact ⟨0, Ln.newL 5, by omega, rfl, Lib.hid (Ln.Lst.new _), HA1, HB1⟩
  case round =>
    obtain ⟨I, st, hI, rfl, HLS, HAR, HBR⟩ := hrel
    by_cases hlt : I < len2
    · obtain ⟨b, o, rfl, hby⟩ := HYSA.out (by omega)
      have c0 := hby wr HBR.out I hlt
      have hx := Cm.bAtB_lt SA I
      clear hby
      generalize Cm.bAtB SA I = x at c0 hx
      obtain ⟨p, hp⟩ : ∃ p, x % 5 = p := ⟨_, rfl⟩
      have hp5 : p < 5 := by omega
      have t1 : (x : Int).tmod 5 = (p : Int) := by rw [Int.tmod_eq_emod_of_nonneg (by omega)]; omega
      have t3 : IntKind.i64.wrap (x : Int) = (x : Int) := by rw [IntKind.wrap_i64]; omega
      have i0 : (0 : Int) ≤ (I : Int) := by omega
      have i1 : (I : Int) < (len2 : Int) := by omega
      have HG0 := Lib.hid HLS.out.good
      have HS1 := Lib.hid (HLS.out.more (f := (p : Int)) (q := Ln.bT 1) (by omega) (by omega) (by omega) HHP.out Ln.may_b1)
      have CA := Lib.hid (fun (w' : World) h => Ln.Hear_any g (g + 1) st (p : Int) (P : Int) 3 (Ln.bT 1) (.slice none 0 0) w' h HG0.out (RdX.nil _))
      have hcd : (Ln.hearF st (p : Int) (P : Int) 3 (Ln.bT 1)) = ((Ln.hearF st (p : Int) (P : Int) 3 (Ln.bT 1)).1, 0) := by rw [← HS1.out.1]
      rw [hcd] at CA
      have HN := Lib.hid HS1.out.2
      clear hcd HS1
      generalize (Ln.hearF st (p : Int) (P : Int) 3 (Ln.bT 1)).1 = st' at CA HN
      unfold Cm.batVal Ln.bT at CA
      dsimp only at CA
      clear hp hx
      go_wp2_with (go_at_call 13; refine (CA.out _ HAR.out).mono ?_; rintro e w3 ⟨rfl, ha, hg⟩; have HA3 := Lib.hid ha; have HB3 := Lib.hid (Ln.step_grL HBR.out hg (by rw [HGW.out]; exact Nat.le_refl _) HBR.out.size); clear ha hg; dsimp only)
      go_roundw
      case rel => exact ⟨I + 1, st', by omega, by go_num, HN, HA3, HB3⟩
      case measure => simp [intOf]; omega
    · obtain rfl : len2 = I := by omega
      go_upto_region 11 with fail
      have HL1 := HLS
      have HA2 := HAR
      have HB2 := HBR
      clear HLS HAR HBR
      go_loopw [15] (fun i wr => ∃ (I : Nat) (st : Ln.LrnV), I ≤ len3 ∧ i = .int .i64 (I : Int) ∧ Hid (I = 0 ∧ Ln.Lst st (P : Int) len2 ∨ I ≠ 0 ∧ Ln.Lst st ((P : Int) + 1 + (Q : Int)) I) ∧ Hid (Ln.HasD wr g (g + 1) st) ∧ Hid (Below w.heap.size w wr)) (fun i _ => len3 - (intOf i).toNat)
      case atStart => exact ⟨0, st, by omega, rfl, Lib.hid (.inl ⟨rfl, HL1.out⟩), HA2, HB2⟩
      case round =>
        obtain ⟨I, st, hI, rfl, HLS, HAR, HBR⟩ := hrel
        by_cases hlt : I < len3
        · obtain ⟨b, o, rfl, hby⟩ := HYSB.out (by omega)
          have c0 := hby wr HBR.out I hlt
          have hx := Cm.bAtB_lt SB I
          clear hby
          generalize Cm.bAtB SB I = x at c0 hx
          obtain ⟨p, hp⟩ : ∃ p, x % 5 = p := ⟨_, rfl⟩
          have hp5 : p < 5 := by omega
          have t1 : (x : Int).tmod 5 = (p : Int) := by rw [Int.tmod_eq_emod_of_nonneg (by omega)]; omega
          have t3 : IntKind.i64.wrap (x : Int) = (x : Int) := by rw [IntKind.wrap_i64]; omega
          have i0 : (0 : Int) ≤ (I : Int) := by omega
          have i1 : (I : Int) < (len3 : Int) := by omega
          have HG0 : Hid (Ln.GoodN st) := Lib.hid (HLS.out.elim (fun q => q.2.good) (fun q => q.2.good))
          have HS1 : Hid ((Ln.hearF st (p : Int) ((P : Int) + 1 + (Q : Int)) 3 (Ln.bT 2)).2 = 0 ∧ Ln.Lst (Ln.hearF st (p : Int) ((P : Int) + 1 + (Q : Int)) 3 (Ln.bT 2)).1 ((P : Int) + 1 + (Q : Int)) (I + 1)) := Lib.hid (by
            rcases HLS.out with ⟨q, h⟩ | ⟨q, h⟩
            · have := h.over (f := (p : Int)) (q := Ln.bT 2) (c := (P : Int) + 1 + (Q : Int)) (by omega) (by omega) (by omega) HHQ.out Ln.may_b2 (by omega)
              rw [q]
              exact this
            · exact h.more (f := (p : Int)) (q := Ln.bT 2) (by omega) (by omega) (by omega) HHQ.out Ln.may_b2)
          have CA := Lib.hid (fun (w' : World) h => Ln.Hear_any g (g + 1) st (p : Int) ((P : Int) + 1 + (Q : Int)) 3 (Ln.bT 2) (.slice none 0 0) w' h HG0.out (RdX.nil _))
          have hcd : (Ln.hearF st (p : Int) ((P : Int) + 1 + (Q : Int)) 3 (Ln.bT 2)) = ((Ln.hearF st (p : Int) ((P : Int) + 1 + (Q : Int)) 3 (Ln.bT 2)).1, 0) := by rw [← HS1.out.1]
          rw [hcd] at CA
          have HN := Lib.hid HS1.out.2
          clear hcd HS1
          generalize (Ln.hearF st (p : Int) ((P : Int) + 1 + (Q : Int)) 3 (Ln.bT 2)).1 = st' at CA HN
          unfold Cm.batVal Ln.bT at CA
          dsimp only at CA
          clear hp hx
          go_wp2_with (go_at_call 13; refine (CA.out _ HAR.out).mono ?_; rintro e w3 ⟨rfl, ha, hg⟩; have HA3 := Lib.hid ha; have HB3 := Lib.hid (Ln.step_grL HBR.out hg (by rw [HGW.out]; exact Nat.le_refl _) HBR.out.size); clear ha hg; dsimp only)
          go_roundw
          case rel => exact ⟨I + 1, st', by omega, by go_num, Lib.hid (.inr ⟨by omega, HN.out⟩), HA3, HB3⟩
          case measure => simp [intOf]; omega
        · obtain rfl : I = len3 := by omega
          have hxm := e4
          rcases HLS.out with ⟨q, h⟩ | ⟨q, h⟩
          · obtain rfl : I = 0 := q
            have hch := h.chosen (by omega)
            have hgd := h.good
            have hmo := h.more (f := (m : Int)) (q := Ln.bT 1) (by omega) (by omega) (by omega) HHP.out Ln.may_b1
            obtain ⟨who, hh, hw1, hw2⟩ := hmo.2.heard (by omega)
            have CC := Lib.hid (fun (w' : World) hd => Ln.Chosen_any g (g + 1) st 3 w' hd hgd (by decide))
            rw [hch] at CC
            have CM := Lib.hid (fun (w' : World) hd => Ln.Hear_any g (g + 1) st (m : Int) (P : Int) 3 (Ln.bT 1) (.slice none 0 0) w' hd hgd (RdX.nil _))
            have hcd : (Ln.hearF st (m : Int) (P : Int) 3 (Ln.bT 1)) = ((Ln.hearF st (m : Int) (P : Int) 3 (Ln.bT 1)).1, 0) := by rw [← hmo.1]
            rw [hcd] at CM
            have CH := Lib.hid (fun (w' : World) hd => Ln.Heard_any g (g + 1) (Ln.hearF st (m : Int) (P : Int) 3 (Ln.bT 1)).1 3 w' hd hmo.2.good (by decide))
            rw [hh] at CH
            generalize (Ln.hearF st (m : Int) (P : Int) 3 (Ln.bT 1)).1 = st' at CM CH hmo hh hcd
            unfold Cm.batVal Ln.bT at CM
            dsimp only at CM CH
            clear hch hgd hmo hh hcd h hw1 hw2
            go_upto_region 16 with (go_at_call 16; refine (CC.out _ HAR.out).mono ?_; rintro e w4 ⟨u4, rfl, hr, hb⟩; obtain ⟨u4a, u4c, hv⟩ := hr.form; subst hv; have HA4 := Lib.hid (HAR.out.later hb); have HB4 := Lib.hid (step HBR.out hb); have HRu4 := Lib.hid hr; clear hr hb; unfold Cm.batVal; dsimp only)
            obtain ⟨w5, hw5⟩ : ∃ x, x = w4.alloc (.cells #[.bool Cm.zeroB.fill, .int .i64 Cm.zeroB.view, .int .i64 Cm.zeroB.tv, .int .i64 Cm.zeroB.ts, .int .i64 Cm.zeroB.time, .slice u4a Cm.zeroB.reqs.length u4c] 38) := ⟨_, rfl⟩
            have hb := newAlloc w4 (.cells #[.bool Cm.zeroB.fill, .int .i64 Cm.zeroB.view, .int .i64 Cm.zeroB.tv, .int .i64 Cm.zeroB.ts, .int .i64 Cm.zeroB.time, .slice u4a Cm.zeroB.reqs.length u4c] 38)
            rw [← hw5] at hb ⊢
            have HA5 := Lib.hid (HA4.out.later hb)
            have HB5 := Lib.hid (step HB4.out hb)
            clear hw5 hb
            go_upto_region 17 with (go_at_call 13; refine (CM.out _ HA5.out).mono ?_; rintro e w6 ⟨rfl, ha, hg⟩; have HA6 := Lib.hid ha; have HB6 := Lib.hid (Ln.step_grL HB5.out hg (by rw [HGW.out]; exact Nat.le_refl _) HB5.out.size); clear ha hg; dsimp only)
            go_upto_region 18 with (go_at_call 18; refine (CH.out _ HA6.out).mono ?_; rintro e w7 ⟨u7, rfl, hr, hb⟩; obtain ⟨u7a, u7c, hv⟩ := hr.form; subst hv; have HA7 := Lib.hid (HA6.out.later hb); have HB7 := Lib.hid (step HB6.out hb); have HRu7 := Lib.hid hr; clear hr hb; dsimp only)
            go_wp2_with (go_at_call 8; refine (C0.out _).mono ?_; rintro e w8 ⟨rfl, hb⟩; have HB8 := Lib.hid (step HB7.out hb); clear hb)
            go_ret
            exact ⟨rfl, HB8.out⟩
          · have hI0 : I ≠ 0 := q
            have dz : ((I : Int) == 0) = false := by
              have : (I : Int) ≠ 0 := by omega
              simpa using this
            have hch := h.chosen (by omega)
            have hgd := h.good
            have hmo := h.less (f := (m : Int)) (c := (P : Int)) (q := Ln.bT 1) (by omega) q (by omega) (by omega) HHP.out Ln.may_b1 (by omega)
            obtain ⟨who, hh, hw1, hw2⟩ := h.heard q
            have CC := Lib.hid (fun (w' : World) hd => Ln.Chosen_any g (g + 1) st 3 w' hd hgd (by decide))
            rw [hch] at CC
            have CM := Lib.hid (fun (w' : World) hd => Ln.Hear_any g (g + 1) st (m : Int) (P : Int) 3 (Ln.bT 1) (.slice none 0 0) w' hd hgd (RdX.nil _))
            rw [hmo] at CM
            have CH := Lib.hid (fun (w' : World) hd => Ln.Heard_any g (g + 1) st 3 w' hd hgd (by decide))
            rw [hh] at CH
            unfold Cm.batVal Ln.bT at CM
            dsimp only at CM CH
            have dw1 : decide ((1 : Int) ≤ (who.length : Int)) = true := by simp; omega
            have dw2 : decide ((who.length : Int) ≤ (I : Int)) = true := by simp; omega
            clear hch hgd hmo hh h q
            go_upto_region 16 with (go_at_call 16; refine (CC.out _ HAR.out).mono ?_; rintro e w4 ⟨u4, rfl, hr, hb⟩; obtain ⟨u4a, u4c, hv⟩ := hr.form; subst hv; have HA4 := Lib.hid (HAR.out.later hb); have HB4 := Lib.hid (step HBR.out hb); have HRu4 := Lib.hid hr; clear hr hb; unfold Cm.batVal; dsimp only)
            obtain ⟨w5, hw5⟩ : ∃ x, x = w4.alloc (.cells #[.bool Cm.zeroB.fill, .int .i64 Cm.zeroB.view, .int .i64 Cm.zeroB.tv, .int .i64 Cm.zeroB.ts, .int .i64 Cm.zeroB.time, .slice u4a Cm.zeroB.reqs.length u4c] 38) := ⟨_, rfl⟩
            have hb := newAlloc w4 (.cells #[.bool Cm.zeroB.fill, .int .i64 Cm.zeroB.view, .int .i64 Cm.zeroB.tv, .int .i64 Cm.zeroB.ts, .int .i64 Cm.zeroB.time, .slice u4a Cm.zeroB.reqs.length u4c] 38)
            rw [← hw5] at hb ⊢
            have HA5 := Lib.hid (HA4.out.later hb)
            have HB5 := Lib.hid (step HB4.out hb)
            clear hw5 hb
            go_upto_region 17 with (go_at_call 13; refine (CM.out _ HA5.out).mono ?_; rintro e w6 ⟨rfl, ha, hg⟩; have HA6 := Lib.hid ha; have HB6 := Lib.hid (Ln.step_grL HB5.out hg (by rw [HGW.out]; exact Nat.le_refl _) HB5.out.size); clear ha hg; dsimp only)
            go_upto_region 18 with (go_at_call 18; refine (CH.out _ HA6.out).mono ?_; rintro e w7 ⟨u7, rfl, hr, hb⟩; obtain ⟨u7a, u7c, hv⟩ := hr.form; subst hv; have HA7 := Lib.hid (HA6.out.later hb); have HB7 := Lib.hid (step HB6.out hb); have HRu7 := Lib.hid hr; clear hr hb; dsimp only)
            go_wp2_with (go_at_call 8; refine (C0.out _).mono ?_; rintro e w8 ⟨rfl, hb⟩; have HB8 := Lib.hid (step HB7.out hb); clear hb)
            go_ret
            exact ⟨rfl, HB8.out⟩

/-! ### THE ROW's STEP -/
set_option maxRecDepth 100000 in
theorem lifted (os : Os) (started : os.Started) (H : Type) (enc : TypeId × Value → H) :
    ReturnsInHanded {} Try.checked os 5 .any (Rows.learnBallotsSpec.pre6 enc Try.prog Try.f5 Rows.learnBallotsRow.domain false) (Rows.learnBallotsSpec.post enc Try.prog Try.f5 false true false false) := by
  refine returnsInHanded_of_change_sized (C := Try.checked) own started (by kernel_rfl) Try.func5
    (ChangeSpec.witness6 (enc := enc) (C := Try.checked) false ⟨#[], #[.int .u8 0, .int .u8 0, .slice none 0 0, .slice none 0 0, .int .u8 0], []⟩ 8 (by kernel_rfl) (by kernel_rfl) (by kernel_rfl) (by kernel_rfl)) ?_
  intro W base args ds gs before hval0 hW hcnd hsz _
  have hval : ∀ (j : Nat) t v, Try.f5.params[j]? = some t → args[j]? = some v → Value.okWide Try.prog W .any base t v := hval0
  have hW' := hW
  obtain ⟨p, q, hA0, hV, rfl, hfz, hnd⟩ := hW
  have hA : DataW.TrodAll enc Try.prog W 0 (fun _ => true) true Try.f5.params.toList args.toList ds p := hA0
  rw [Try.params5] at hA hval hsz
  obtain ⟨v0, vs0, d0, ds0, p0, q0, hargs, rfl, rfl, h0, r0⟩ := trodAll_cons hA
  obtain ⟨v1, vs1, d1, ds1, p1, q1, rfl, rfl, rfl, h1, r1⟩ := trodAll_cons r0
  obtain ⟨v2, vs2, d2, ds2, p2, q2, rfl, rfl, rfl, h2, r2⟩ := trodAll_cons r1
  obtain ⟨v3, vs3, d3, ds3, p3, q3, rfl, rfl, rfl, h3, r3⟩ := trodAll_cons r2
  obtain ⟨v4, vs4, d4, ds4, p4, q4, rfl, rfl, rfl, h4, r4⟩ := trodAll_cons r3
  obtain ⟨rfl, rfl, rfl⟩ := trodAll_nil r4
  obtain rfl : args = #[v0, v1, v2, v3, v4] := by cases args; simp_all
  obtain ⟨rfl, rfl⟩ := trodVars_none hV
  obtain ⟨a0, rfl, rfl, rfl, w0⟩ := open_int Try.underlying5 (hval 0 5 v0 rfl rfl) h0
  obtain ⟨a1, rfl, rfl, rfl, w1⟩ := open_int Try.underlying5 (hval 1 5 v1 rfl rfl) h1
  obtain ⟨a2, len2, cap2, rfl⟩ := okWide_slice Try.underlying28 (hval 2 28 v2 rfl rfl)
  have k2 := h2
  have lt2 : ∀ x ∈ p2, x.block < W.heap.size := by obtain ⟨m, hm⟩ := k2; exact DataW.trod_lt m _ _ _ hm
  obtain ⟨z2, w2, s2⟩ : ∃ zs, IsRow .u8 W a2 len2 cap2 zs ∧ len2 ≤ 140737488355328 := by
    obtain ⟨fuel, hf⟩ := h2
    rcases open_ints Try.underlying28 Try.underlying5 (by kernel_rfl) hf with ⟨hcs, _⟩ | ⟨x, l, c, zs, hcs, _, hl, hm, hz, hdd, hcell, hwz⟩
    · simp [Value.cells] at hcs
      obtain ⟨rfl, rfl, rfl⟩ := hcs
      exact ⟨[], .inl ⟨rfl, rfl, rfl, rfl⟩, by omega⟩
    · simp [Value.cells] at hcs
      obtain ⟨rfl, rfl, rfl⟩ := hcs
      have hd' := congrArg Prod.fst hdd
      have hs := sized_slice (j := 2) hsz rfl (show (_ : List (DataW H))[2]? = some (.slice (lits .u8 (zs.take len2)) (lits .u8 (zs.drop len2))) from congrArg some hd') Try.underlying28
      have hb : Try.checked.prog.bytesOf 5 = 1 := by kernel_rfl
      rw [hb] at hs
      have hr := reachBytes_lt
      simp [lits] at hs
      exact ⟨zs, .inr ⟨_, rfl, hl, hm, by simpa using hz, hcell, hwz⟩, by simp at hz; omega⟩
  obtain ⟨a3, len3, cap3, rfl⟩ := okWide_slice Try.underlying28 (hval 3 28 v3 rfl rfl)
  have k3 := h3
  have lt3 : ∀ x ∈ p3, x.block < W.heap.size := by obtain ⟨m, hm⟩ := k3; exact DataW.trod_lt m _ _ _ hm
  obtain ⟨z3, w3, s3⟩ : ∃ zs, IsRow .u8 W a3 len3 cap3 zs ∧ len3 ≤ 140737488355328 := by
    obtain ⟨fuel, hf⟩ := h3
    rcases open_ints Try.underlying28 Try.underlying5 (by kernel_rfl) hf with ⟨hcs, _⟩ | ⟨x, l, c, zs, hcs, _, hl, hm, hz, hdd, hcell, hwz⟩
    · simp [Value.cells] at hcs
      obtain ⟨rfl, rfl, rfl⟩ := hcs
      exact ⟨[], .inl ⟨rfl, rfl, rfl, rfl⟩, by omega⟩
    · simp [Value.cells] at hcs
      obtain ⟨rfl, rfl, rfl⟩ := hcs
      have hd' := congrArg Prod.fst hdd
      have hs := sized_slice (j := 3) hsz rfl (show (_ : List (DataW H))[3]? = some (.slice (lits .u8 (zs.take len3)) (lits .u8 (zs.drop len3))) from congrArg some hd') Try.underlying28
      have hb : Try.checked.prog.bytesOf 5 = 1 := by kernel_rfl
      rw [hb] at hs
      have hr := reachBytes_lt
      simp [lits] at hs
      exact ⟨zs, .inr ⟨_, rfl, hl, hm, by simpa using hz, hcell, hwz⟩, by simp at hz; omega⟩
  obtain ⟨a4, rfl, rfl, rfl, w4⟩ := open_int Try.underlying5 (hval 4 5 v4 rfl rfl) h4
  clear hA0 hval0
  refine (walk a0 a1 a2 len2 cap2 z2 a3 len3 cap3 z3 a4 W w0 w1 w2 s2 w3 s3 w4).mono fun e W' ⟨he, bel⟩ => ?_
  subst he
  exact ⟨_, rfl, _, _, _, [], _, [], hW', trodAll_mk1 (shut_bool Try.underlying4 _), (trodAll_cons_mk (shut_int Try.underlying5 w0) (trodAll_cons_mk (shut_int Try.underlying5 w1) (trodAll_cons_mk (Below.trod laidOut (by kernel_rfl) (of_decide_eq_true (by kernel_rfl)) k2 bel lt2) (trodAll_cons_mk (Below.trod laidOut (by kernel_rfl) (of_decide_eq_true (by kernel_rfl)) k3 bel lt3) (trodAll_cons_mk (shut_int Try.underlying5 w4) trodAll_mk0))))), rfl, bel.frame _, fun h => by cases h⟩

theorem over : Rows.learnBallotsRow.holds Try.pinned (OpenSpec.ofChange Rows.learnBallotsSpec) :=
  OpenClaim.holds_of_wide 5 Try.f5 rfl rfl rfl rfl rfl rfl rfl ⟨rfl, rfl, rfl, rfl, rfl⟩ rfl rfl rfl rfl rfl (by kernel_rfl) Try.func5 (by kernel_rfl)
    (of_decide_eq_true (by kernel_rfl)) (by unfold Func.isWrapper; first | (rw [if_pos (by decide +kernel)]; kernel_rfl) | (rw [if_neg (by decide +kernel)]; exact ⟨rfl, rfl⟩))
    (fun os started H enc _ => lifted os started H enc)

/-- THE STATEMENT -/
theorem proved : Rows.LearnBallotsSaid := over
end Go.Proofs.Ytbcnednhfmchpaa.learnBallots
