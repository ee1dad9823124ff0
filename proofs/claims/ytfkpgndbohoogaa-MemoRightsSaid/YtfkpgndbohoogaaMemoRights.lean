/- PROVED: the statement MemoRights of layer 9: for every input that can be read, the law returns true and leaves its arguments as they were. No condition. -/
import Derived.Test.YtfkpgndbohoogaaRows
import Derived.Test.YtfkpgndbohoogaaP8
import Derived.WalkKit
import Derived.ProofKit
import Derived.OpenShut
import Derived.ShutString
import Derived.ChangeOld
import Derived.Below
import Derived.Deep.Cut
import Derived.Deep.CutBlock
import Derived.Deep.DeepCutAuto
namespace Go.Proofs.Ytfkpgndbohoogaa.memoRights
open Go.ChangeShapes Go.WideShapes Go.ChangeAt Go.RowKit
open Go.ChangeMaps (open_string shut_string)
open Go.Sort (grow)
set_option linter.unusedVariables false

theorem own : ownKnob Try.prog.godebug = none := by kernel_rfl
theorem laidOut : laidOutB Try.prog = true := by kernel_rfl

/-! ### STEP 1: THE WALK -/
set_option maxRecDepth 100000 in
set_option maxHeartbeats 4000000 in
theorem walk (a0 : List Cm.MemC × Value) (w : World) (w0 : Cm.memsOkA w a0) :
    Calls Try.prog 4 #[Cm.memsA a0] w fun e w' => e = .returned (.bool true) ∧ Below w.heap.size w w' := by
  obtain ⟨L, v⟩ := a0
  unfold Cm.memsOkA at w0
  unfold Cm.memsA
  dsimp only at w0 ⊢
  have hm := w0.len
  have C0 := Lib.hid (fun w => Cm.awake9_ok w)
  have KR := Lib.hid (fun W (hb : Below w.heap.size w W) => Cm.MemRight_any v L W (w0.later hb))
  have KQ := Lib.hid (fun W (hb : Below w.heap.size w W) => Cm.RightMemos_any v L W (w0.later hb))
  generalize Cm.rightM (Cm.valsM L) = r at KR KQ
  obtain ⟨a, cap, rfl⟩ := w0.form
  have HA := Lib.hid (fun i hi => Cm.rdm_at w0.row i hi)
  clear w0
  obtain ⟨N, hN⟩ : ∃ N, L.length = N := ⟨_, rfl⟩
  have HLL := Lib.hid hN
  rw [hN] at hm KR KQ ⊢
  clear hN
  by_cases h1 : 30 < N
  · go_enter Try.func4, Try.ntmps4
    go_wp2_with (go_at_call 8; refine (C0.out _).mono ?_; rintro e w1 ⟨rfl, hb1⟩)
    go_ret
    exact ⟨rfl, hb1⟩
  have d30 : decide ((30 : Int) < (N : Int)) = false := by simp; omega
  clear h1
  go_enter Try.func4, Try.ntmps4
  go_wp2
  go_loop [3] (fun i => ∃ k : Nat, k ≤ N ∧ i = .int .i64 k) (fun i => N - (intOf i).toNat)
  case atStart => exact ⟨0, by omega, rfl⟩
  case round =>
    obtain ⟨k, hk, rfl⟩ := hrel
    by_cases hlt : k < N
    · have hkl : k < L.length := by rw [HLL.out]; exact hlt
      obtain ⟨b, o, rfl, hc⟩ := HA.out k hkl
      obtain ⟨-, -, -, -, -, q5⟩ := hc w (Below.refl _ _)
      clear hc HA
      generalize L[k] = x at q5
      obtain ⟨⟨xc, xs, ⟨xk, xn, xd, xl⟩⟩, xa, xp⟩ := x
      unfold Cm.MemC.hv at q5
      dsimp only at q5
      have f1 : (0 : Int) ≤ (k : Int) := by omega
      have f2 : (k : Int) < (N : Int) := by omega
      generalize xl.length = XN at q5
      by_cases h2 : 20 < XN
      · have d20 : decide ((20 : Int) < (XN : Int)) = true := decide_eq_true (by omega)
        go_wp2_with (go_at_call 8; refine (C0.out _).mono ?_; rintro e w1 ⟨rfl, hb1⟩)
        go_ret
        exact ⟨rfl, hb1⟩
      · have d20 : decide ((20 : Int) < (XN : Int)) = false := decide_eq_false (by omega)
        go_wp2
        go_round
        case rel => exact ⟨k + 1, by omega, by go_num⟩
        case measure => simp [intOf]; omega
    · obtain rfl : k = N := by omega
      clear HA
      have dr : (r == r) = true := by simp
      go_wp2_with (first
        | (go_at_call 12; refine (KR.out _ (Below.refl _ _)).mono ?_; rintro e w1 ⟨rfl, hb1⟩)
        | (go_at_call 17; refine (KQ.out _ hb1).mono ?_; rintro e w2 ⟨rfl, hb2⟩)
        | (go_at_call 8; refine (C0.out _).mono ?_; rintro e w3 ⟨rfl, hb3⟩))
      go_ret
      exact ⟨rfl, step hb1 (step hb2 hb3)⟩

/-! ### THE ROW's STEP -/
set_option maxRecDepth 100000 in
theorem lifted (os : Os) (started : os.Started) (H : Type) (enc : TypeId × Value → H) :
    ReturnsInHanded {} Try.checked os 4 .any (Rows.memoRightsSpec.pre6 enc Try.prog Try.f4 Rows.memoRightsRow.domain false) (Rows.memoRightsSpec.post enc Try.prog Try.f4 false true false false) := by
  refine returnsInHanded_of_change (C := Try.checked) own started (by kernel_rfl) Try.func4
    (ChangeSpec.witness6 (enc := enc) (C := Try.checked) false ⟨#[], #[.slice none 0 0], []⟩ 8 (by kernel_rfl) (by kernel_rfl) (by kernel_rfl) (by kernel_rfl)) ?_
  intro W base args ds gs before hval0 hW hcnd _
  have hval : ∀ (j : Nat) t v, Try.f4.params[j]? = some t → args[j]? = some v → Value.okWide Try.prog W .any base t v := hval0
  have hW' := hW
  obtain ⟨p, q, hA0, hV, rfl, hfz, hnd⟩ := hW
  have hA : DataW.TrodAll enc Try.prog W 0 (fun _ => true) true Try.f4.params.toList args.toList ds p := hA0
  rw [Try.params4] at hA hval
  obtain ⟨v0, vs0, d0, ds0, p0, q0, hargs, rfl, rfl, h0, r0⟩ := trodAll_cons hA
  obtain ⟨rfl, rfl, rfl⟩ := trodAll_nil r0
  obtain rfl : args = #[v0] := by cases args; simp_all
  obtain ⟨rfl, rfl⟩ := trodVars_none hV
  have k0 := h0
  have lt0 : ∀ x ∈ p0, x.block < W.heap.size := by obtain ⟨m, hm⟩ := k0; exact DataW.trod_lt m _ _ _ hm
  obtain ⟨a0, rfl, w0⟩ := Cm.open_mems (hval 0 24 v0 rfl rfl) h0
  clear hA0 hval0
  refine (walk a0 W w0).mono fun e W' ⟨he, bel⟩ => ?_
  subst he
  exact ⟨_, rfl, _, _, _, [], _, [], hW', trodAll_mk1 (shut_bool Try.underlying4 _), (trodAll_cons_mk (Below.trod laidOut (by kernel_rfl) (of_decide_eq_true (by kernel_rfl)) k0 bel lt0) trodAll_mk0), rfl, bel.frame _, fun h => by cases h⟩

theorem over : Rows.memoRightsRow.holds Try.pinned (OpenSpec.ofChange Rows.memoRightsSpec) :=
  OpenClaim.holds_of_wide 4 Try.f4 rfl rfl rfl rfl rfl rfl rfl ⟨rfl, rfl, rfl, rfl, rfl⟩ rfl rfl rfl rfl rfl (by kernel_rfl) Try.func4 (by kernel_rfl)
    (of_decide_eq_true (by kernel_rfl)) (by unfold Func.isWrapper; first | (rw [if_pos (by decide +kernel)]; kernel_rfl) | (rw [if_neg (by decide +kernel)]; exact ⟨rfl, rfl⟩))
    (fun os started H enc _ => lifted os started H enc)

/-- THE STATEMENT -/
theorem proved : Rows.MemoRightsSaid := over
end Go.Proofs.Ytfkpgndbohoogaa.memoRights
