/- PROVED: the statement LineFull of layer 7: for every input that can be read, the law returns true and leaves its arguments as they were. No condition. -/
import Derived.Test.YtgpiaibklokhmaaRows
import Derived.Test.YtgpiaibklokhmaaLaw7B
import Derived.WalkKit
import Derived.ProofKit
import Derived.OpenShut
import Derived.ShutString
import Derived.ChangeOld
import Derived.Below
import Derived.Deep.Cut
import Derived.Deep.CutBlock
import Derived.Deep.DeepCutAuto
namespace Go.Proofs.Ytgpiaibklokhmaa.lineFull
open Go.ChangeShapes Go.WideShapes Go.ChangeAt Go.RowKit
open Go.ChangeMaps (open_string shut_string)
open Go.Sort (grow)
set_option linter.unusedVariables false

theorem own : ownKnob Try.prog.godebug = none := by kernel_rfl
theorem laidOut : laidOutB Try.prog = true := by kernel_rfl

/-! ### STEP 1: THE WALK -/
set_option maxRecDepth 100000 in
set_option maxHeartbeats 4000000 in
theorem walk (a0 : Int) (a1 : Int) (w : World) (w0 : (Lit.int .u8 a0).wf = true) (w1 : (Lit.int .i64 a1).wf = true) :
    Calls Try.prog 7 #[.int .u8 a0, .int .i64 a1] w fun e w' => e = .returned (.bool true) ∧ Below w.heap.size w w' := by
  obtain ⟨F, rfl⟩ : ∃ n : Nat, a0 = (n : Int) := Int.eq_ofNat_of_zero_le (by have := w0; simp [Lit.wf, IntKind.min, IntKind.max, IntKind.signed, IntKind.bits] at this; omega)
  have hF : F < 256 := by have := w0; simp [Lit.wf, IntKind.min, IntKind.max, IntKind.signed, IntKind.bits] at this; omega
  obtain ⟨r, hr⟩ : ∃ r, F % 8 = r := ⟨_, rfl⟩
  have hr8 : r < 8 := by omega
  clear w0 w1
  have C0 := Lib.hid (fun w => Cm.awake7_ok w)
  have v1 : IntKind.i64.wrap (F : Int) = (F : Int) := by rw [IntKind.wrap_i64]; omega
  have HRM := Lib.hid (fun i => Cm.full_rem F r i hr)
  clear hr
  go_enter Try.func7, Try.ntmps7
  go_wp2
  go_loopw [5, 6] (fun s i wr => ∃ (I K : Nat) (ma : Option Addr) (mp : Nat), I ≤ 8 ∧ (K = I ∧ I ≤ 3 ∨ K = 3 ∧ 3 ≤ I) ∧ i = .int .i64 (I : Int) ∧ s = .slice ma K mp ∧ Hid (Cm.RdI wr (.slice ma K mp) (Cm.fullL r K)) ∧ Hid (Below w.heap.size w wr)) (fun _ i _ => 8 - (intOf i).toNat)
  case atStart => exact ⟨0, 0, none, 0, by omega, .inl ⟨rfl, by omega⟩, rfl, rfl, Lib.hid (RdX.nil _), Lib.hid (Below.refl _ _)⟩
  case round =>
    obtain ⟨I, K, ma, mp, hI, hK, rfl, rfl, HM, HB⟩ := hrel
    by_cases hlt : I < 8
    · have hc := HRM.out I
      have v2 : IntKind.i64.wrap ((F : Int) + (I : Int)) = (F : Int) + (I : Int) := by rw [IntKind.wrap_i64]; omega
      have v3 : IntKind.i64.wrap (((r + I) % 8 : Nat) : Int) = (((r + I) % 8 : Nat) : Int) := by rw [IntKind.wrap_i64]; omega
      by_cases h3 : I < 3
      · obtain rfl : K = I := by omega
        have K1 := Lib.hid ((Cm.LineJoin_any _ (Cm.fullL r K) (((r + K) % 8 : Nat) : Int) wr HM.out).mono fun e w' h => Cm.GetsJ.s h)
        rw [Cm.full_join_all r hr8 K h3] at K1
        unfold Cm.GetsJS at K1
        dsimp only at K1
        rw [Cm.fullL_length] at K1
        generalize (((r + K) % 8 : Nat) : Int) = c at K1 hc v3
        clear hK
        go_wp2_with (go_at_call 9; refine K1.out.mono ?_; rintro e w1 ⟨x1, y1, rfl, hr1, hb1⟩; have HR1 := Lib.hid hr1; have HB1 := Lib.hid (step HB.out hb1); clear hr1 hb1)
        go_roundw
        case rel => exact ⟨K + 1, K + 1, x1, y1, by omega, .inl ⟨rfl, by omega⟩, by go_num, rfl, HR1, HB1⟩
        case measure => simp [intOf]; omega
      · obtain rfl : K = 3 := by omega
        have K1 := Lib.hid ((Cm.LineJoin_any _ (Cm.fullL r 3) (((r + I) % 8 : Nat) : Int) wr HM.out).mono fun e w' h => Cm.GetsJ.s h)
        rw [Cm.full_more_all r hr8 I hlt (by omega)] at K1
        unfold Cm.GetsJS at K1
        dsimp only at K1
        rw [List.length_nil] at K1
        generalize (((r + I) % 8 : Nat) : Int) = c at K1 hc v3
        clear hK
        go_wp2_with (go_at_call 9; refine K1.out.mono ?_; rintro e w1 ⟨x1, y1, rfl, -, hb1⟩; have HM1 := Lib.hid (HM.out.later hb1); have HB1 := Lib.hid (step HB.out hb1); clear hb1)
        go_roundw
        case rel => exact ⟨I + 1, 3, ma, mp, by omega, .inr ⟨rfl, by omega⟩, by go_num, rfl, HM1, HB1⟩
        case measure => simp [intOf]; omega
    · obtain rfl : K = 3 := by omega
      clear hK hI
      go_wp2
      go_loopw [11] (fun i wk => ∃ k : Nat, k ≤ 3 ∧ i = .int .i64 (k : Int) ∧ Hid (Below wr.heap.size wr wk)) (fun i _ => 3 - (intOf i).toNat)
      case atStart => exact ⟨0, by omega, rfl, Lib.hid (Below.refl _ _)⟩
      case round =>
        obtain ⟨k, hk, rfl, HBK⟩ := hrel
        by_cases hk3 : k < 3
        · have hc := HRM.out k
          have v2 : IntKind.i64.wrap ((F : Int) + (k : Int)) = (F : Int) + (k : Int) := by rw [IntKind.wrap_i64]; omega
          have v3 : IntKind.i64.wrap (((r + k) % 8 : Nat) : Int) = (((r + k) % 8 : Nat) : Int) := by rw [IntKind.wrap_i64]; omega
          have K1 := Lib.hid (Cm.LineAhead_any _ (Cm.fullL r 3) (((r + k) % 8 : Nat) : Int) _ (HM.out.later HBK.out))
          rw [Cm.full_ahead_all r hr8 k hk3] at K1
          unfold Cm.StandsB at K1
          generalize (((r + k) % 8 : Nat) : Int) = c at K1 hc v3
          go_wp2_with (go_at_call 16; refine K1.out.mono ?_; rintro e w1 ⟨rfl, hb1⟩; have HB1 := Lib.hid (step HBK.out hb1); clear hb1)
          go_roundw
          case rel => exact ⟨k + 1, by omega, by go_num, HB1⟩
          case measure => simp [intOf]; omega
        · obtain rfl : k = 3 := by omega
          have HBW := Lib.hid (step HB.out HBK.out)
          have K1 := Lib.hid ((Cm.LineJoin_any _ [] a1 wr (RdX.nil _)).mono fun e w' h => Cm.GetsJ.s h)
          rw [Cm.join_nil] at K1
          clear HRM HM hk hk3
          by_cases hcl : Cm.clientF a1 = true
          · rw [if_pos hcl] at K1
            have hr : 0 ≤ a1 ∧ a1 < 8 := by unfold Cm.clientF at hcl; simpa using hcl
            obtain ⟨q1, q2⟩ := hr
            have d1 : decide (0 ≤ a1) = true := decide_eq_true q1
            have d2 : decide (a1 < 8) = true := decide_eq_true q2
            unfold Cm.GetsJS at K1
            dsimp only at K1
            clear hcl q1 q2
            go_wp2_with (first
              | (go_at_call 9; refine K1.out.mono ?_; rintro e w1 ⟨x1, y1, rfl, -, hb1⟩; have HB1 := Lib.hid (step HBW.out hb1); clear hb1)
              | (go_at_call 8; refine (C0.out _).mono ?_; rintro e w4 ⟨rfl, hb4⟩))
            go_ret
            exact ⟨rfl, step HB1.out hb4⟩
          · rw [if_neg hcl] at K1
            unfold Cm.GetsJS at K1
            dsimp only at K1
            have hr : ¬ (0 ≤ a1 ∧ a1 < 8) := by unfold Cm.clientF at hcl; simpa using hcl
            clear hcl
            by_cases q1 : 0 ≤ a1
            · have q2 : ¬ a1 < 8 := fun q => hr ⟨q1, q⟩
              have d1 : decide (0 ≤ a1) = true := decide_eq_true q1
              have d2 : decide (a1 < 8) = false := decide_eq_false q2
              clear q1 q2 hr
              go_wp2_with (first
                | (go_at_call 9; refine K1.out.mono ?_; rintro e w1 ⟨x1, y1, rfl, -, hb1⟩; have HB1 := Lib.hid (step HBW.out hb1); clear hb1)
                | (go_at_call 8; refine (C0.out _).mono ?_; rintro e w4 ⟨rfl, hb4⟩))
              go_ret
              exact ⟨rfl, step HB1.out hb4⟩
            · have d1 : decide (0 ≤ a1) = false := decide_eq_false q1
              clear q1 hr
              go_wp2_with (first
                | (go_at_call 9; refine K1.out.mono ?_; rintro e w1 ⟨x1, y1, rfl, -, hb1⟩; have HB1 := Lib.hid (step HBW.out hb1); clear hb1)
                | (go_at_call 8; refine (C0.out _).mono ?_; rintro e w4 ⟨rfl, hb4⟩))
              go_ret
              exact ⟨rfl, step HB1.out hb4⟩

/-! ### THE ROW's STEP -/
set_option maxRecDepth 100000 in
theorem lifted (os : Os) (started : os.Started) (H : Type) (enc : TypeId × Value → H) :
    ReturnsInHanded {} Try.checked os 7 .any (Rows.lineFullSpec.pre6 enc Try.prog Try.f7 Rows.lineFullRow.domain false) (Rows.lineFullSpec.post enc Try.prog Try.f7 false true false false) := by
  refine returnsInHanded_of_change (C := Try.checked) own started (by kernel_rfl) Try.func7
    (ChangeSpec.witness6 (enc := enc) (C := Try.checked) false ⟨#[], #[.int .u8 0, .int .i64 0], []⟩ 8 (by kernel_rfl) (by kernel_rfl) (by kernel_rfl) (by kernel_rfl)) ?_
  intro W base args ds gs before hval0 hW hcnd _
  have hval : ∀ (j : Nat) t v, Try.f7.params[j]? = some t → args[j]? = some v → Value.okWide Try.prog W .any base t v := hval0
  have hW' := hW
  obtain ⟨p, q, hA0, hV, rfl, hfz, hnd⟩ := hW
  have hA : DataW.TrodAll enc Try.prog W 0 (fun _ => true) true Try.f7.params.toList args.toList ds p := hA0
  rw [Try.params7] at hA hval
  obtain ⟨v0, vs0, d0, ds0, p0, q0, hargs, rfl, rfl, h0, r0⟩ := trodAll_cons hA
  obtain ⟨v1, vs1, d1, ds1, p1, q1, rfl, rfl, rfl, h1, r1⟩ := trodAll_cons r0
  obtain ⟨rfl, rfl, rfl⟩ := trodAll_nil r1
  obtain rfl : args = #[v0, v1] := by cases args; simp_all
  obtain ⟨rfl, rfl⟩ := trodVars_none hV
  obtain ⟨a0, rfl, rfl, rfl, w0⟩ := open_int Try.underlying5 (hval 0 5 v0 rfl rfl) h0
  obtain ⟨a1, rfl, rfl, rfl, w1⟩ := open_int Try.underlying3 (hval 1 3 v1 rfl rfl) h1
  clear hA0 hval0
  refine (walk a0 a1 W w0 w1).mono fun e W' ⟨he, bel⟩ => ?_
  subst he
  exact ⟨_, rfl, _, _, _, [], _, [], hW', trodAll_mk1 (shut_bool Try.underlying4 _), (trodAll_cons_mk (shut_int Try.underlying5 w0) (trodAll_cons_mk (shut_int Try.underlying3 w1) trodAll_mk0)), rfl, bel.frame _, fun h => by cases h⟩

theorem over : Rows.lineFullRow.holds Try.pinned (OpenSpec.ofChange Rows.lineFullSpec) :=
  OpenClaim.holds_of_wide 7 Try.f7 rfl rfl rfl rfl rfl rfl rfl ⟨rfl, rfl, rfl, rfl, rfl⟩ rfl rfl rfl rfl rfl (by kernel_rfl) Try.func7 (by kernel_rfl)
    (of_decide_eq_true (by kernel_rfl)) (by unfold Func.isWrapper; first | (rw [if_pos (by decide +kernel)]; kernel_rfl) | (rw [if_neg (by decide +kernel)]; exact ⟨rfl, rfl⟩))
    (fun os started H enc _ => lifted os started H enc)

/-- THE STATEMENT -/
theorem proved : Rows.LineFullSaid := over
end Go.Proofs.Ytgpiaibklokhmaa.lineFull
