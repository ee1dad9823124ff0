/- PROVED: the statement ViewQuorums of layer 13: for every input that can be read, the law returns true and leaves its arguments as they were. No condition. -/
import Derived.Test.YtdocoflcelhmbaaRows
import Derived.Test.YtdocoflcelhmbaaVewD
import Derived.WalkKit
import Derived.ProofKit
import Derived.OpenShut
import Derived.ShutString
import Derived.ChangeOld
import Derived.Below
import Derived.BigQuiet
import Derived.Lib.QuietBelow
import Derived.Deep.Cut
import Derived.Deep.CutBlock
import Derived.Deep.DeepCutAuto
namespace Go.Proofs.Ytdocoflcelhmbaa.viewQuorums
open Go.ChangeShapes Go.WideShapes Go.ChangeAt Go.RowKit
open Go.ChangeMaps (open_string shut_string)
open Go.Sort (grow)
set_option linter.unusedVariables false
set_option maxRecDepth 8000
set_option linter.unusedSimpArgs false

theorem own : ownKnob Try.prog.godebug = none := by kernel_rfl
theorem laidOut : laidOutB Try.prog = true := by kernel_rfl

/-! ### STEP 1: THE WALK -/
set_option maxRecDepth 100000 in
set_option maxHeartbeats 4000000 in
theorem walk (a0 : Int) (a1 : Int) (a2 : Int) (w : World) (w0 : (Lit.int .u8 a0).wf = true) (w1 : (Lit.int .u8 a1).wf = true) (w2 : (Lit.int .u8 a2).wf = true) :
    Calls Try.prog 4 #[.int .u8 a0, .int .u8 a1, .int .u8 a2] w fun e w' => e = .returned (.bool true) ∧ Below w.heap.size w w' := by
  obtain ⟨n, rfl⟩ : ∃ n : Nat, a0 = (n : Int) := Int.eq_ofNat_of_zero_le (by have := w0; simp [Lit.wf, IntKind.min, IntKind.max, IntKind.signed, IntKind.bits] at this; omega)
  have hn : n < 256 := by have := w0; simp [Lit.wf, IntKind.min, IntKind.max, IntKind.signed, IntKind.bits] at this; omega
  obtain ⟨a, rfl⟩ : ∃ a : Nat, a1 = (a : Int) := Int.eq_ofNat_of_zero_le (by have := w1; simp [Lit.wf, IntKind.min, IntKind.max, IntKind.signed, IntKind.bits] at this; omega)
  have ha : a < 256 := by have := w1; simp [Lit.wf, IntKind.min, IntKind.max, IntKind.signed, IntKind.bits] at this; omega
  obtain ⟨b, rfl⟩ : ∃ b : Nat, a2 = (b : Int) := Int.eq_ofNat_of_zero_le (by have := w2; simp [Lit.wf, IntKind.min, IntKind.max, IntKind.signed, IntKind.bits] at this; omega)
  have hb : b < 256 := by have := w2; simp [Lit.wf, IntKind.min, IntKind.max, IntKind.signed, IntKind.bits] at this; omega
  clear w0 w1 w2
  obtain ⟨r, hr⟩ : ∃ r, n % 7 = r := ⟨_, rfl⟩
  have r7 : r < 7 := by omega
  have q0 : IntKind.i64.wrap (n : Int) = (n : Int) := by rw [IntKind.wrap_i64]; omega
  have q1 : (n : Int) % 7 = (r : Int) := by omega
  have q2 : (n : Int).tmod 7 = (r : Int) := by rw [Int.tmod_eq_emod_of_nonneg (by omega)]; exact q1
  clear hr
  obtain ⟨k, hk⟩ : ∃ k : Nat, k = 1 + r := ⟨_, rfl⟩
  have q3 : (1 : Int) + (r : Int) = (k : Int) := by omega
  have k1 : 1 ≤ k := by omega
  have k7 : k ≤ 7 := by omega
  clear hk
  obtain ⟨q, hq⟩ : ∃ q : Nat, q = k / 2 + 1 := ⟨_, rfl⟩
  have CQ := Lib.hid (fun w => Vw.Quorum_any (k : Int) w)
  have hqq : Vw.quorumF (k : Int) = (q : Int) := by unfold Vw.quorumF; rw [Vw.someF_iff.2 (by omega), hq]; simp
  rw [hqq] at CQ
  have C0 := Lib.hid (fun w => Vw.awake13_ok w)
  clear hqq
  have HQ := Lib.hid hq
  have hq8 : q ≤ 4 := by omega
  have hq1 : 1 ≤ q := by omega
  clear hq
  go_enter Try.func4, Try.ntmps4
  go_upto_region 3 with (go_at_call 10; refine (CQ.out _).mono ?_; rintro e w' ⟨rfl, rfl⟩)
  clear CQ q0 q1 q2 q3 r7
  go_wp2_with fail
  go_loop [9, 10, 11, 12] (fun x y c i => ∃ (j X Y : Nat) (cb : Bool), j ≤ k ∧ i = .int .i64 (j : Int) ∧ x = .int .i64 (X : Int) ∧ y = .int .i64 (Y : Int) ∧ c = .bool cb ∧ X ≤ j ∧ Y ≤ j ∧ (cb = false → X + Y ≤ j)) (fun x y c i => k - (intOf i).toNat)
  case atStart => exact ⟨0, 0, 0, false, by omega, rfl, rfl, rfl, rfl, by omega, by omega, fun _ => by omega⟩
  case round =>
    obtain ⟨j, X, Y, cb, hj, rfl, rfl, rfl, rfl, hX, hY, hc⟩ := hrel
    by_cases hlt : j < k
    · go_upto_region 9 with fail
      generalize bits BinOp.and IntKind.u8 ((a : Int) / 2 ^ j) 1 = A1
      generalize bits BinOp.and IntKind.u8 ((b : Int) / 2 ^ j) 1 = B1
      have HC := Lib.hid hc
      clear hc
      cases hA : (A1 == 1) <;> cases hB : (B1 == 1) <;> cases cb
      all_goals
        go_wp2
        go_round
        case rel => first
          | exact ⟨j + 1, X, Y, _, by omega, by first | rfl | go_num, rfl, rfl, rfl, by omega, by omega, fun h => by have := HC.out; simp at h this ⊢; try omega⟩
          | exact ⟨j + 1, X, Y + 1, _, by omega, by first | rfl | go_num, rfl, by first | rfl | go_num, rfl, by omega, by omega, fun h => by have := HC.out; simp at h this ⊢; try omega⟩
          | exact ⟨j + 1, X + 1, Y, _, by omega, by first | rfl | go_num, by first | rfl | go_num, rfl, rfl, by omega, by omega, fun h => by have := HC.out; simp at h this ⊢; try omega⟩
          | exact ⟨j + 1, X + 1, Y + 1, _, by omega, by first | rfl | go_num, by first | rfl | go_num, by first | rfl | go_num, rfl, by omega, by omega, fun h => by have := HC.out; simp at h this ⊢; try omega⟩
        case measure => simp [intOf] <;> omega
    · obtain rfl : j = k := by omega
      have hq := HQ.out
      by_cases e1 : X < q
      · have d1 : decide ((X : Int) < (q : Int)) = true := by simp; omega
        have f1 : decide ((j : Int) < 2 * (q : Int)) = true := by simp; omega
        have f2 : decide (2 * ((q : Int) - 1) ≤ (j : Int)) = true := by simp; omega
        clear hq hc HQ
        go_wp2_with (go_at_call 20; refine (C0.out _).mono ?_; rintro e w' ⟨rfl, hb9⟩)
        go_ret
        exact ⟨rfl, hb9⟩
      have d1 : decide ((X : Int) < (q : Int)) = false := by simp; omega
      by_cases e2 : Y < q
      · have d2 : decide ((Y : Int) < (q : Int)) = true := by simp; omega
        have f1 : decide ((j : Int) < 2 * (q : Int)) = true := by simp; omega
        have f2 : decide (2 * ((q : Int) - 1) ≤ (j : Int)) = true := by simp; omega
        clear hq hc HQ
        go_wp2_with (go_at_call 20; refine (C0.out _).mono ?_; rintro e w' ⟨rfl, hb9⟩)
        go_ret
        exact ⟨rfl, hb9⟩
      have d2 : decide ((Y : Int) < (q : Int)) = false := by simp; omega
      cases cb
      · have := hc rfl
        omega
      have f1 : decide ((j : Int) < 2 * (q : Int)) = true := by simp; omega
      have f2 : decide (2 * ((q : Int) - 1) ≤ (j : Int)) = true := by simp; omega
      clear hq hc HQ
      go_wp2_with (go_at_call 20; refine (C0.out _).mono ?_; rintro e w' ⟨rfl, hb9⟩)
      go_ret
      exact ⟨rfl, hb9⟩

/-! ### THE ROW's STEP -/
set_option maxRecDepth 100000 in
theorem lifted (os : Os) (started : os.Started) (H : Type) (enc : TypeId × Value → H) :
    ReturnsInHanded {} Try.checked os 4 .any (Rows.viewQuorumsSpec.pre6 enc Try.prog Try.f4 Rows.viewQuorumsRow.domain false) (Rows.viewQuorumsSpec.post enc Try.prog Try.f4 false true false false) := by
  refine returnsInHanded_of_change (C := Try.checked) own started (by kernel_rfl) Try.func4
    (ChangeSpec.witness6 (enc := enc) (C := Try.checked) false ⟨#[], #[.int .u8 0, .int .u8 0, .int .u8 0], []⟩ 8 (by kernel_rfl) (by kernel_rfl) (by kernel_rfl) (by kernel_rfl)) ?_
  intro W base args ds gs before hval0 hW hcnd _
  have hval : ∀ (j : Nat) t v, Try.f4.params[j]? = some t → args[j]? = some v → Value.okWide Try.prog W .any base t v := hval0
  have hW' := hW
  obtain ⟨p, q, hA0, hV, rfl, hfz, hnd⟩ := hW
  have hA : DataW.TrodAll enc Try.prog W 0 (fun _ => true) true Try.f4.params.toList args.toList ds p := hA0
  rw [Try.params4] at hA hval
  obtain ⟨v0, vs0, d0, ds0, p0, q0, hargs, rfl, rfl, h0, r0⟩ := trodAll_cons hA
  obtain ⟨v1, vs1, d1, ds1, p1, q1, rfl, rfl, rfl, h1, r1⟩ := trodAll_cons r0
  obtain ⟨v2, vs2, d2, ds2, p2, q2, rfl, rfl, rfl, h2, r2⟩ := trodAll_cons r1
  obtain ⟨rfl, rfl, rfl⟩ := trodAll_nil r2
  obtain rfl : args = #[v0, v1, v2] := by cases args; simp_all
  obtain ⟨rfl, rfl⟩ := trodVars_none hV
  obtain ⟨a0, rfl, rfl, rfl, w0⟩ := open_int Try.underlying5 (hval 0 5 v0 rfl rfl) h0
  obtain ⟨a1, rfl, rfl, rfl, w1⟩ := open_int Try.underlying5 (hval 1 5 v1 rfl rfl) h1
  obtain ⟨a2, rfl, rfl, rfl, w2⟩ := open_int Try.underlying5 (hval 2 5 v2 rfl rfl) h2
  clear hA0 hval0
  refine (walk a0 a1 a2 W w0 w1 w2).mono fun e W' ⟨he, bel⟩ => ?_
  subst he
  exact ⟨_, rfl, _, _, _, [], _, [], hW', trodAll_mk1 (shut_bool Try.underlying4 _), (trodAll_cons_mk (shut_int Try.underlying5 w0) (trodAll_cons_mk (shut_int Try.underlying5 w1) (trodAll_cons_mk (shut_int Try.underlying5 w2) trodAll_mk0))), rfl, bel.frame _, fun h => by cases h⟩

theorem over : Rows.viewQuorumsRow.holds Try.pinned (OpenSpec.ofChange Rows.viewQuorumsSpec) :=
  OpenClaim.holds_of_wide 4 Try.f4 rfl rfl rfl rfl rfl rfl rfl ⟨rfl, rfl, rfl, rfl, rfl⟩ rfl rfl rfl rfl rfl (by kernel_rfl) Try.func4 (by kernel_rfl)
    (of_decide_eq_true (by kernel_rfl)) (by unfold Func.isWrapper; first | (rw [if_pos (by decide +kernel)]; kernel_rfl) | (rw [if_neg (by decide +kernel)]; exact ⟨rfl, rfl⟩))
    (fun os started H enc _ => lifted os started H enc)

/-- THE STATEMENT -/
theorem proved : Rows.ViewQuorumsSaid := over
end Go.Proofs.Ytdocoflcelhmbaa.viewQuorums
