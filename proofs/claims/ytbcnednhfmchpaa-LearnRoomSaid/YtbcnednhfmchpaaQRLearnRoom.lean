/- PROVED: the statement LearnRoom of layer 15: for every input that can be read, the law returns true and leaves its arguments as they were. No condition. -/
import Derived.Test.YtbcnednhfmchpaaRows
import Derived.Test.YtbcnednhfmchpaaQ13
import Derived.WalkKit
import Derived.ProofKit
import Derived.OpenShut
import Derived.ShutString
import Derived.ChangeOld
import Derived.Below
import Derived.BigQuiet
import Derived.Lib.QuietBelow
import Derived.SizedLaws
import Derived.Deep.Cut
import Derived.Deep.CutBlock
import Derived.Deep.DeepCutAuto
namespace Go.Proofs.Ytbcnednhfmchpaa.learnRoom
open Go.ChangeShapes Go.WideShapes Go.ChangeAt Go.RowKit
open Go.ChangeMaps (open_string shut_string)
open Go.Sort (grow)
set_option linter.unusedVariables false
set_option maxRecDepth 8000
set_option linter.unusedSimpArgs false

theorem own : ownKnob Try.prog.godebug = none := by kernel_rfl
theorem laidOut : laidOutB Try.prog = true := by kernel_rfl

/-! ### STEP 1: THE WALK -/
set_option maxRecDepth 100000 in
set_option maxHeartbeats 4000000 in
theorem walk (a0 : Int) (a1 : Int) (a2 : Int) (w : World) (w0 : (Lit.int .u16 a0).wf = true) (w1 : (Lit.int .u16 a1).wf = true) (w2 : (Lit.int .i64 a2).wf = true) :
    Calls Try.prog 7 #[.int .u16 a0, .int .u16 a1, .int .i64 a2] w fun e w' => e = .returned (.bool true) ∧ Below w.heap.size w w' := by
  obtain ⟨P, rfl⟩ : ∃ P : Nat, a0 = (P : Int) := Int.eq_ofNat_of_zero_le (by have := w0; simp [Lit.wf, IntKind.min, IntKind.max, IntKind.signed, IntKind.bits] at this; omega)
  have hP : P < 65536 := by have := w0; simp [Lit.wf, IntKind.min, IntKind.max, IntKind.signed, IntKind.bits] at this; omega
  obtain ⟨Q, rfl⟩ : ∃ Q : Nat, a1 = (Q : Int) := Int.eq_ofNat_of_zero_le (by have := w1; simp [Lit.wf, IntKind.min, IntKind.max, IntKind.signed, IntKind.bits] at this; omega)
  have hQ : Q < 65536 := by have := w1; simp [Lit.wf, IntKind.min, IntKind.max, IntKind.signed, IntKind.bits] at this; omega
  have e0 : IntKind.i64.wrap (P : Int) = (P : Int) := by rw [IntKind.wrap_i64]; omega
  have e1 : IntKind.i64.wrap (Q : Int) = (Q : Int) := by rw [IntKind.wrap_i64]; omega
  have e2 : IntKind.i64.wrap (1 + (Q : Int)) = 1 + (Q : Int) := by rw [IntKind.wrap_i64]; omega
  have e3 : IntKind.i64.wrap ((P : Int) + 1) = (P : Int) + 1 := by rw [IntKind.wrap_i64]; omega
  have e4 : IntKind.i64.wrap ((P : Int) - 1) = (P : Int) - 1 := by rw [IntKind.wrap_i64]; omega
  have e5 : IntKind.i64.wrap ((P : Int) + 9) = (P : Int) + 9 := by rw [IntKind.wrap_i64]; omega
  obtain ⟨st1, c1, st2, c2, h1, h2, hd, htr, hg0, hg1, hg2, hc1, hc2⟩ := Ln.room_ok P Q hP hQ a2
  have CN := Lib.hid (Ln.New_yes 3 w (by rfl))
  obtain ⟨g, hgw⟩ : ∃ g, w.heap.size = g := ⟨_, rfl⟩
  rw [hgw] at CN
  have HGW := Lib.hid hgw
  clear hgw
  have C0 := Lib.hid (fun w => Ln.awake15_ok w)
  have CT1 := Lib.hid (fun (w' : World) h => Ln.Trim_any g (g + 1) (Ln.newL 3) (P : Int) w' h (Ln.newL_good 3 (by decide) (by decide)))
  rw [Ln.trim_new 3 P hP] at CT1
  have CA := Lib.hid (fun (w' : World) h => Ln.Hear_any g (g + 1) ⟨3, (P : Int), []⟩ 0 1 (1 + (Q : Int)) Cm.fillB (.slice none 0 0) w' h hg0 (RdX.nil _))
  rw [h1] at CA
  have CB := Lib.hid (fun (w' : World) h => Ln.Hear_any g (g + 1) st1 a2 1 ((P : Int) + 1) Cm.fillB (.slice none 0 0) w' h hg1 (RdX.nil _))
  rw [h2] at CB
  have CT2 := Lib.hid (fun (w' : World) h => Ln.Trim_any g (g + 1) st2 ((P : Int) - 1) w' h hg2)
  rw [htr] at CT2
  have CD := Lib.hid (fun (w' : World) h => Ln.Done_any g (g + 1) st2 w' h)
  rw [hd] at CD
  have CZ := Lib.hid (fun (w' : World) => Ln.Hear_nil 0 1 1 Cm.zeroB (.slice none 0 0) w' (RdX.nil _))
  unfold Cm.batVal Cm.fillB at CA CB
  unfold Cm.batVal Cm.zeroB at CZ
  dsimp only at CA CB CZ
  clear w0 w1 w2 h1 h2 hd htr hg0 hg1 hg2 hP hQ
  have HC2 := Lib.hid hc2
  clear hc2
  rcases hc1 with ⟨dA, rfl⟩ | ⟨dA, dB, rfl⟩ | ⟨dA, dB, rfl⟩
  · go_enter Try.func7, Try.ntmps7
    go_upto_region 5 with (first
      | (go_at_call 9; refine CN.out.mono ?_; rintro e w1 hnw; obtain ⟨rfl, hw⟩ := hnw; have HA1 : Hid (Ln.HasD w1 g (g + 1) (Ln.newL 3)) := Lib.hid (Ln.HasD.new (by rw [hw]; exact Cm.alloc_atB _ _ _ HGW.out) (by omega) (by rw [hw]; simp [HGW.out])); have HB1 : Hid (Below w.heap.size w w1) := Lib.hid (by rw [hw]; exact newAlloc _ _); have hs1 : Hid (w1.heap.size = g + 1) := Lib.hid (by rw [hw]; simp [HGW.out]); clear hw)
      | (go_at_call 11; refine (CT1.out _ HA1.out).mono ?_; rintro e w2 ⟨rfl, ha, hg⟩; have HA2 := Lib.hid ha; have HB2 := Lib.hid (Ln.step_grL HB1.out hg (by rw [HGW.out]; exact Nat.le_refl _) HB1.out.size); clear ha hg))
    go_upto_region 11 with (go_at_call 13; refine (CA.out _ HA2.out).mono ?_; rintro e w3 ⟨rfl, ha, hg⟩; have HA3 := Lib.hid ha; have HB3 := Lib.hid (Ln.step_grL HB2.out hg (by rw [HGW.out]; exact Nat.le_refl _) HB2.out.size); clear ha hg; dsimp only)
    go_upto_region 13 with (first
      | (go_at_call 13; refine (CB.out _ HA3.out).mono ?_; rintro e w4 ⟨rfl, ha, hg⟩; have HA4 := Lib.hid ha; have HB4 := Lib.hid (Ln.step_grL HB3.out hg (by rw [HGW.out]; exact Nat.le_refl _) HB3.out.size); clear ha hg; dsimp only)
      | (go_at_call 11; refine (CT2.out _ HA4.out).mono ?_; rintro e w5 ⟨rfl, ha, hg⟩; have HA5 := Lib.hid ha; have HB5 := Lib.hid (Ln.step_grL HB4.out hg (by rw [HGW.out]; exact Nat.le_refl _) HB4.out.size); clear ha hg))
    go_upto_region 15 with (go_at_call 11; refine (Ln.Trim_nil 4 _).mono ?_; rintro e wz ⟨rfl, hwz⟩; rw [hwz]; clear hwz wz)
    go_upto_region 16 with (go_at_call 16; refine (Ln.Chosen_nil 1 _).mono ?_; rintro e w6 ⟨u6, rfl, hr, hb⟩; obtain ⟨u6a, u6c, hv⟩ := hr.form; subst hv; have HA6 := Lib.hid (HA5.out.later hb); have HB6 := Lib.hid (step HB5.out hb); clear hr hb; unfold Cm.batVal; dsimp only)
    obtain ⟨w7, hw7⟩ : ∃ x, x = w6.alloc (.cells #[.bool Cm.zeroB.fill, .int .i64 Cm.zeroB.view, .int .i64 Cm.zeroB.tv, .int .i64 Cm.zeroB.ts, .int .i64 Cm.zeroB.time, .slice u6a Cm.zeroB.reqs.length u6c] 38) := ⟨_, rfl⟩
    have hb := newAlloc w6 (.cells #[.bool Cm.zeroB.fill, .int .i64 Cm.zeroB.view, .int .i64 Cm.zeroB.tv, .int .i64 Cm.zeroB.ts, .int .i64 Cm.zeroB.time, .slice u6a Cm.zeroB.reqs.length u6c] 38)
    rw [← hw7] at hb ⊢
    have HA7 := Lib.hid (HA6.out.later hb)
    have HB7 := Lib.hid (step HB6.out hb)
    clear hw7 hb
    go_upto_region 17 with (go_at_call 18; refine (Ln.Heard_nil 1 _).mono ?_; rintro e w8 ⟨u8, rfl, hr, hb⟩; obtain ⟨u8a, u8c, hv⟩ := hr.form; subst hv; have HA8 := Lib.hid (HA7.out.later hb); have HB8 := Lib.hid (step HB7.out hb); clear hr hb; dsimp only [List.length_nil])
    rcases HC2.out with ⟨dF, rfl⟩ | ⟨dF, dG, rfl⟩ | ⟨dF, dG, rfl⟩
    · clear HC2
      go_wp2_with (first
        | (go_at_call 22; first | (refine (CD.out _ HA8.out).mono ?_; rintro e wz ⟨rfl, hwz⟩; rw [hwz]; clear hwz wz) | (refine (CD.out _ HA9.out).mono ?_; rintro e wz ⟨rfl, hwz⟩; rw [hwz]; clear hwz wz) | (refine (Ln.Done_nil _).mono ?_; rintro e wz ⟨rfl, hwz⟩; rw [hwz]; clear hwz wz))
        | (go_at_call 13; refine (CZ.out _).mono ?_; rintro e w9 ⟨rfl, hb⟩; have HB9 := Lib.hid (step HB8.out hb); clear hb)
        | (go_at_call 8; refine (C0.out _).mono ?_; rintro e w10 ⟨rfl, hb⟩; have HB10 := Lib.hid (step HB9.out hb); clear hb))
      go_ret
      exact ⟨rfl, HB10.out⟩
    · clear HC2
      go_wp2_with (first
        | (go_at_call 22; first | (refine (CD.out _ HA8.out).mono ?_; rintro e wz ⟨rfl, hwz⟩; rw [hwz]; clear hwz wz) | (refine (CD.out _ HA9.out).mono ?_; rintro e wz ⟨rfl, hwz⟩; rw [hwz]; clear hwz wz) | (refine (Ln.Done_nil _).mono ?_; rintro e wz ⟨rfl, hwz⟩; rw [hwz]; clear hwz wz))
        | (go_at_call 13; refine (CZ.out _).mono ?_; rintro e w9 ⟨rfl, hb⟩; have HB9 := Lib.hid (step HB8.out hb); clear hb)
        | (go_at_call 8; refine (C0.out _).mono ?_; rintro e w10 ⟨rfl, hb⟩; have HB10 := Lib.hid (step HB9.out hb); clear hb))
      go_ret
      exact ⟨rfl, HB10.out⟩
    · clear HC2
      go_wp2_with (first
        | (go_at_call 22; first | (refine (CD.out _ HA8.out).mono ?_; rintro e wz ⟨rfl, hwz⟩; rw [hwz]; clear hwz wz) | (refine (CD.out _ HA9.out).mono ?_; rintro e wz ⟨rfl, hwz⟩; rw [hwz]; clear hwz wz) | (refine (Ln.Done_nil _).mono ?_; rintro e wz ⟨rfl, hwz⟩; rw [hwz]; clear hwz wz))
        | (go_at_call 13; refine (CZ.out _).mono ?_; rintro e w9 ⟨rfl, hb⟩; have HB9 := Lib.hid (step HB8.out hb); clear hb)
        | (go_at_call 8; refine (C0.out _).mono ?_; rintro e w10 ⟨rfl, hb⟩; have HB10 := Lib.hid (step HB9.out hb); clear hb))
      go_ret
      exact ⟨rfl, HB10.out⟩
  · go_enter Try.func7, Try.ntmps7
    go_upto_region 5 with (first
      | (go_at_call 9; refine CN.out.mono ?_; rintro e w1 hnw; obtain ⟨rfl, hw⟩ := hnw; have HA1 : Hid (Ln.HasD w1 g (g + 1) (Ln.newL 3)) := Lib.hid (Ln.HasD.new (by rw [hw]; exact Cm.alloc_atB _ _ _ HGW.out) (by omega) (by rw [hw]; simp [HGW.out])); have HB1 : Hid (Below w.heap.size w w1) := Lib.hid (by rw [hw]; exact newAlloc _ _); have hs1 : Hid (w1.heap.size = g + 1) := Lib.hid (by rw [hw]; simp [HGW.out]); clear hw)
      | (go_at_call 11; refine (CT1.out _ HA1.out).mono ?_; rintro e w2 ⟨rfl, ha, hg⟩; have HA2 := Lib.hid ha; have HB2 := Lib.hid (Ln.step_grL HB1.out hg (by rw [HGW.out]; exact Nat.le_refl _) HB1.out.size); clear ha hg))
    go_upto_region 11 with (go_at_call 13; refine (CA.out _ HA2.out).mono ?_; rintro e w3 ⟨rfl, ha, hg⟩; have HA3 := Lib.hid ha; have HB3 := Lib.hid (Ln.step_grL HB2.out hg (by rw [HGW.out]; exact Nat.le_refl _) HB2.out.size); clear ha hg; dsimp only)
    go_upto_region 13 with (first
      | (go_at_call 13; refine (CB.out _ HA3.out).mono ?_; rintro e w4 ⟨rfl, ha, hg⟩; have HA4 := Lib.hid ha; have HB4 := Lib.hid (Ln.step_grL HB3.out hg (by rw [HGW.out]; exact Nat.le_refl _) HB3.out.size); clear ha hg; dsimp only)
      | (go_at_call 11; refine (CT2.out _ HA4.out).mono ?_; rintro e w5 ⟨rfl, ha, hg⟩; have HA5 := Lib.hid ha; have HB5 := Lib.hid (Ln.step_grL HB4.out hg (by rw [HGW.out]; exact Nat.le_refl _) HB4.out.size); clear ha hg))
    go_upto_region 15 with (go_at_call 11; refine (Ln.Trim_nil 4 _).mono ?_; rintro e wz ⟨rfl, hwz⟩; rw [hwz]; clear hwz wz)
    go_upto_region 16 with (go_at_call 16; refine (Ln.Chosen_nil 1 _).mono ?_; rintro e w6 ⟨u6, rfl, hr, hb⟩; obtain ⟨u6a, u6c, hv⟩ := hr.form; subst hv; have HA6 := Lib.hid (HA5.out.later hb); have HB6 := Lib.hid (step HB5.out hb); clear hr hb; unfold Cm.batVal; dsimp only)
    obtain ⟨w7, hw7⟩ : ∃ x, x = w6.alloc (.cells #[.bool Cm.zeroB.fill, .int .i64 Cm.zeroB.view, .int .i64 Cm.zeroB.tv, .int .i64 Cm.zeroB.ts, .int .i64 Cm.zeroB.time, .slice u6a Cm.zeroB.reqs.length u6c] 38) := ⟨_, rfl⟩
    have hb := newAlloc w6 (.cells #[.bool Cm.zeroB.fill, .int .i64 Cm.zeroB.view, .int .i64 Cm.zeroB.tv, .int .i64 Cm.zeroB.ts, .int .i64 Cm.zeroB.time, .slice u6a Cm.zeroB.reqs.length u6c] 38)
    rw [← hw7] at hb ⊢
    have HA7 := Lib.hid (HA6.out.later hb)
    have HB7 := Lib.hid (step HB6.out hb)
    clear hw7 hb
    go_upto_region 17 with (go_at_call 18; refine (Ln.Heard_nil 1 _).mono ?_; rintro e w8 ⟨u8, rfl, hr, hb⟩; obtain ⟨u8a, u8c, hv⟩ := hr.form; subst hv; have HA8 := Lib.hid (HA7.out.later hb); have HB8 := Lib.hid (step HB7.out hb); clear hr hb; dsimp only [List.length_nil])
    rcases HC2.out with ⟨dF, rfl⟩ | ⟨dF, dG, rfl⟩ | ⟨dF, dG, rfl⟩
    · clear HC2
      go_wp2_with (first
        | (go_at_call 22; first | (refine (CD.out _ HA8.out).mono ?_; rintro e wz ⟨rfl, hwz⟩; rw [hwz]; clear hwz wz) | (refine (CD.out _ HA9.out).mono ?_; rintro e wz ⟨rfl, hwz⟩; rw [hwz]; clear hwz wz) | (refine (Ln.Done_nil _).mono ?_; rintro e wz ⟨rfl, hwz⟩; rw [hwz]; clear hwz wz))
        | (go_at_call 13; refine (CZ.out _).mono ?_; rintro e w9 ⟨rfl, hb⟩; have HB9 := Lib.hid (step HB8.out hb); clear hb)
        | (go_at_call 8; refine (C0.out _).mono ?_; rintro e w10 ⟨rfl, hb⟩; have HB10 := Lib.hid (step HB9.out hb); clear hb))
      go_ret
      exact ⟨rfl, HB10.out⟩
    · clear HC2
      go_wp2_with (first
        | (go_at_call 22; first | (refine (CD.out _ HA8.out).mono ?_; rintro e wz ⟨rfl, hwz⟩; rw [hwz]; clear hwz wz) | (refine (CD.out _ HA9.out).mono ?_; rintro e wz ⟨rfl, hwz⟩; rw [hwz]; clear hwz wz) | (refine (Ln.Done_nil _).mono ?_; rintro e wz ⟨rfl, hwz⟩; rw [hwz]; clear hwz wz))
        | (go_at_call 13; refine (CZ.out _).mono ?_; rintro e w9 ⟨rfl, hb⟩; have HB9 := Lib.hid (step HB8.out hb); clear hb)
        | (go_at_call 8; refine (C0.out _).mono ?_; rintro e w10 ⟨rfl, hb⟩; have HB10 := Lib.hid (step HB9.out hb); clear hb))
      go_ret
      exact ⟨rfl, HB10.out⟩
    · clear HC2
      go_wp2_with (first
        | (go_at_call 22; first | (refine (CD.out _ HA8.out).mono ?_; rintro e wz ⟨rfl, hwz⟩; rw [hwz]; clear hwz wz) | (refine (CD.out _ HA9.out).mono ?_; rintro e wz ⟨rfl, hwz⟩; rw [hwz]; clear hwz wz) | (refine (Ln.Done_nil _).mono ?_; rintro e wz ⟨rfl, hwz⟩; rw [hwz]; clear hwz wz))
        | (go_at_call 13; refine (CZ.out _).mono ?_; rintro e w9 ⟨rfl, hb⟩; have HB9 := Lib.hid (step HB8.out hb); clear hb)
        | (go_at_call 8; refine (C0.out _).mono ?_; rintro e w10 ⟨rfl, hb⟩; have HB10 := Lib.hid (step HB9.out hb); clear hb))
      go_ret
      exact ⟨rfl, HB10.out⟩
  · go_enter Try.func7, Try.ntmps7
    go_upto_region 5 with (first
      | (go_at_call 9; refine CN.out.mono ?_; rintro e w1 hnw; obtain ⟨rfl, hw⟩ := hnw; have HA1 : Hid (Ln.HasD w1 g (g + 1) (Ln.newL 3)) := Lib.hid (Ln.HasD.new (by rw [hw]; exact Cm.alloc_atB _ _ _ HGW.out) (by omega) (by rw [hw]; simp [HGW.out])); have HB1 : Hid (Below w.heap.size w w1) := Lib.hid (by rw [hw]; exact newAlloc _ _); have hs1 : Hid (w1.heap.size = g + 1) := Lib.hid (by rw [hw]; simp [HGW.out]); clear hw)
      | (go_at_call 11; refine (CT1.out _ HA1.out).mono ?_; rintro e w2 ⟨rfl, ha, hg⟩; have HA2 := Lib.hid ha; have HB2 := Lib.hid (Ln.step_grL HB1.out hg (by rw [HGW.out]; exact Nat.le_refl _) HB1.out.size); clear ha hg))
    go_upto_region 11 with (go_at_call 13; refine (CA.out _ HA2.out).mono ?_; rintro e w3 ⟨rfl, ha, hg⟩; have HA3 := Lib.hid ha; have HB3 := Lib.hid (Ln.step_grL HB2.out hg (by rw [HGW.out]; exact Nat.le_refl _) HB2.out.size); clear ha hg; dsimp only)
    go_upto_region 13 with (first
      | (go_at_call 13; refine (CB.out _ HA3.out).mono ?_; rintro e w4 ⟨rfl, ha, hg⟩; have HA4 := Lib.hid ha; have HB4 := Lib.hid (Ln.step_grL HB3.out hg (by rw [HGW.out]; exact Nat.le_refl _) HB3.out.size); clear ha hg; dsimp only)
      | (go_at_call 11; refine (CT2.out _ HA4.out).mono ?_; rintro e w5 ⟨rfl, ha, hg⟩; have HA5 := Lib.hid ha; have HB5 := Lib.hid (Ln.step_grL HB4.out hg (by rw [HGW.out]; exact Nat.le_refl _) HB4.out.size); clear ha hg))
    go_upto_region 15 with (go_at_call 11; refine (Ln.Trim_nil 4 _).mono ?_; rintro e wz ⟨rfl, hwz⟩; rw [hwz]; clear hwz wz)
    go_upto_region 16 with (go_at_call 16; refine (Ln.Chosen_nil 1 _).mono ?_; rintro e w6 ⟨u6, rfl, hr, hb⟩; obtain ⟨u6a, u6c, hv⟩ := hr.form; subst hv; have HA6 := Lib.hid (HA5.out.later hb); have HB6 := Lib.hid (step HB5.out hb); clear hr hb; unfold Cm.batVal; dsimp only)
    obtain ⟨w7, hw7⟩ : ∃ x, x = w6.alloc (.cells #[.bool Cm.zeroB.fill, .int .i64 Cm.zeroB.view, .int .i64 Cm.zeroB.tv, .int .i64 Cm.zeroB.ts, .int .i64 Cm.zeroB.time, .slice u6a Cm.zeroB.reqs.length u6c] 38) := ⟨_, rfl⟩
    have hb := newAlloc w6 (.cells #[.bool Cm.zeroB.fill, .int .i64 Cm.zeroB.view, .int .i64 Cm.zeroB.tv, .int .i64 Cm.zeroB.ts, .int .i64 Cm.zeroB.time, .slice u6a Cm.zeroB.reqs.length u6c] 38)
    rw [← hw7] at hb ⊢
    have HA7 := Lib.hid (HA6.out.later hb)
    have HB7 := Lib.hid (step HB6.out hb)
    clear hw7 hb
    go_upto_region 17 with (go_at_call 18; refine (Ln.Heard_nil 1 _).mono ?_; rintro e w8 ⟨u8, rfl, hr, hb⟩; obtain ⟨u8a, u8c, hv⟩ := hr.form; subst hv; have HA8 := Lib.hid (HA7.out.later hb); have HB8 := Lib.hid (step HB7.out hb); clear hr hb; dsimp only [List.length_nil])
    rcases HC2.out with ⟨dF, rfl⟩ | ⟨dF, dG, rfl⟩ | ⟨dF, dG, rfl⟩
    · clear HC2
      go_wp2_with (first
        | (go_at_call 22; first | (refine (CD.out _ HA8.out).mono ?_; rintro e wz ⟨rfl, hwz⟩; rw [hwz]; clear hwz wz) | (refine (CD.out _ HA9.out).mono ?_; rintro e wz ⟨rfl, hwz⟩; rw [hwz]; clear hwz wz) | (refine (Ln.Done_nil _).mono ?_; rintro e wz ⟨rfl, hwz⟩; rw [hwz]; clear hwz wz))
        | (go_at_call 13; refine (CZ.out _).mono ?_; rintro e w9 ⟨rfl, hb⟩; have HB9 := Lib.hid (step HB8.out hb); clear hb)
        | (go_at_call 8; refine (C0.out _).mono ?_; rintro e w10 ⟨rfl, hb⟩; have HB10 := Lib.hid (step HB9.out hb); clear hb))
      go_ret
      exact ⟨rfl, HB10.out⟩
    · clear HC2
      go_wp2_with (first
        | (go_at_call 22; first | (refine (CD.out _ HA8.out).mono ?_; rintro e wz ⟨rfl, hwz⟩; rw [hwz]; clear hwz wz) | (refine (CD.out _ HA9.out).mono ?_; rintro e wz ⟨rfl, hwz⟩; rw [hwz]; clear hwz wz) | (refine (Ln.Done_nil _).mono ?_; rintro e wz ⟨rfl, hwz⟩; rw [hwz]; clear hwz wz))
        | (go_at_call 13; refine (CZ.out _).mono ?_; rintro e w9 ⟨rfl, hb⟩; have HB9 := Lib.hid (step HB8.out hb); clear hb)
        | (go_at_call 8; refine (C0.out _).mono ?_; rintro e w10 ⟨rfl, hb⟩; have HB10 := Lib.hid (step HB9.out hb); clear hb))
      go_ret
      exact ⟨rfl, HB10.out⟩
    · clear HC2
      go_wp2_with (first
        | (go_at_call 22; first | (refine (CD.out _ HA8.out).mono ?_; rintro e wz ⟨rfl, hwz⟩; rw [hwz]; clear hwz wz) | (refine (CD.out _ HA9.out).mono ?_; rintro e wz ⟨rfl, hwz⟩; rw [hwz]; clear hwz wz) | (refine (Ln.Done_nil _).mono ?_; rintro e wz ⟨rfl, hwz⟩; rw [hwz]; clear hwz wz))
        | (go_at_call 13; refine (CZ.out _).mono ?_; rintro e w9 ⟨rfl, hb⟩; have HB9 := Lib.hid (step HB8.out hb); clear hb)
        | (go_at_call 8; refine (C0.out _).mono ?_; rintro e w10 ⟨rfl, hb⟩; have HB10 := Lib.hid (step HB9.out hb); clear hb))
      go_ret
      exact ⟨rfl, HB10.out⟩

/-! ### THE ROW's STEP -/
set_option maxRecDepth 100000 in
theorem lifted (os : Os) (started : os.Started) (H : Type) (enc : TypeId × Value → H) :
    ReturnsInHanded {} Try.checked os 7 .any (Rows.learnRoomSpec.pre6 enc Try.prog Try.f7 Rows.learnRoomRow.domain false) (Rows.learnRoomSpec.post enc Try.prog Try.f7 false true false false) := by
  refine returnsInHanded_of_change_sized (C := Try.checked) own started (by kernel_rfl) Try.func7
    (ChangeSpec.witness6 (enc := enc) (C := Try.checked) false ⟨#[], #[.int .u16 0, .int .u16 0, .int .i64 0], []⟩ 8 (by kernel_rfl) (by kernel_rfl) (by kernel_rfl) (by kernel_rfl)) ?_
  intro W base args ds gs before hval0 hW hcnd hsz _
  have hval : ∀ (j : Nat) t v, Try.f7.params[j]? = some t → args[j]? = some v → Value.okWide Try.prog W .any base t v := hval0
  have hW' := hW
  obtain ⟨p, q, hA0, hV, rfl, hfz, hnd⟩ := hW
  have hA : DataW.TrodAll enc Try.prog W 0 (fun _ => true) true Try.f7.params.toList args.toList ds p := hA0
  rw [Try.params7] at hA hval hsz
  obtain ⟨v0, vs0, d0, ds0, p0, q0, hargs, rfl, rfl, h0, r0⟩ := trodAll_cons hA
  obtain ⟨v1, vs1, d1, ds1, p1, q1, rfl, rfl, rfl, h1, r1⟩ := trodAll_cons r0
  obtain ⟨v2, vs2, d2, ds2, p2, q2, rfl, rfl, rfl, h2, r2⟩ := trodAll_cons r1
  obtain ⟨rfl, rfl, rfl⟩ := trodAll_nil r2
  obtain rfl : args = #[v0, v1, v2] := by cases args; simp_all
  obtain ⟨rfl, rfl⟩ := trodVars_none hV
  obtain ⟨a0, rfl, rfl, rfl, w0⟩ := open_int Try.underlying52 (hval 0 52 v0 rfl rfl) h0
  obtain ⟨a1, rfl, rfl, rfl, w1⟩ := open_int Try.underlying52 (hval 1 52 v1 rfl rfl) h1
  obtain ⟨a2, rfl, rfl, rfl, w2⟩ := open_int Try.underlying3 (hval 2 3 v2 rfl rfl) h2
  clear hA0 hval0
  refine (walk a0 a1 a2 W w0 w1 w2).mono fun e W' ⟨he, bel⟩ => ?_
  subst he
  exact ⟨_, rfl, _, _, _, [], _, [], hW', trodAll_mk1 (shut_bool Try.underlying4 _), (trodAll_cons_mk (shut_int Try.underlying52 w0) (trodAll_cons_mk (shut_int Try.underlying52 w1) (trodAll_cons_mk (shut_int Try.underlying3 w2) trodAll_mk0))), rfl, bel.frame _, fun h => by cases h⟩

theorem over : Rows.learnRoomRow.holds Try.pinned (OpenSpec.ofChange Rows.learnRoomSpec) :=
  OpenClaim.holds_of_wide 7 Try.f7 rfl rfl rfl rfl rfl rfl rfl ⟨rfl, rfl, rfl, rfl, rfl⟩ rfl rfl rfl rfl rfl (by kernel_rfl) Try.func7 (by kernel_rfl)
    (of_decide_eq_true (by kernel_rfl)) (by unfold Func.isWrapper; first | (rw [if_pos (by decide +kernel)]; kernel_rfl) | (rw [if_neg (by decide +kernel)]; exact ⟨rfl, rfl⟩))
    (fun os started H enc _ => lifted os started H enc)

/-- THE STATEMENT -/
theorem proved : Rows.LearnRoomSaid := over
end Go.Proofs.Ytbcnednhfmchpaa.learnRoom
