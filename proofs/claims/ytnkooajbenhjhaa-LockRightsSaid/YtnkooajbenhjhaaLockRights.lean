/- PROVED: the statement LockRights of layer 8: for every input that can be read, the law returns true and leaves its arguments as they were. No condition. -/
import Derived.Test.YtnkooajbenhjhaaRows
import Derived.Test.YtnkooajbenhjhaaP10
import Derived.WalkKit
import Derived.ProofKit
import Derived.OpenShut
import Derived.ShutString
import Derived.ChangeOld
import Derived.Below
import Derived.Deep.Cut
import Derived.Deep.CutBlock
import Derived.Deep.DeepCutAuto
namespace Go.Proofs.Ytnkooajbenhjhaa.lockRights
open Go.ChangeShapes Go.WideShapes Go.ChangeAt Go.RowKit
open Go.ChangeMaps (open_string shut_string)
open Go.Sort (grow)
set_option linter.unusedVariables false

theorem own : ownKnob Try.prog.godebug = none := by kernel_rfl
theorem laidOut : laidOutB Try.prog = true := by kernel_rfl

/-! ### STEP 1: THE WALK -/
set_option maxRecDepth 100000 in
set_option maxHeartbeats 4000000 in
theorem walk (a0 : List Cm.LockC × Value) (w : World) (w0 : Cm.lockOkA w a0) :
    Calls Try.prog 4 #[Cm.lockA a0] w fun e w' => e = .returned (.bool true) ∧ Below w.heap.size w w' := by
  obtain ⟨L, v⟩ := a0
  unfold Cm.lockOkA at w0
  unfold Cm.lockA
  dsimp only at w0 ⊢
  obtain ⟨w0, wn⟩ := w0
  have hm := w0.len
  have C0 := Lib.hid (fun w => Cm.awake8_ok w)
  have C1 := Lib.hid (fun (w' : World) (hb : Below w.heap.size w w') => Cm.LckRight_any v L w' (w0.later hb) wn)
  have C2 := Lib.hid (fun (w' : World) (hb : Below w.heap.size w w') => Cm.RightLocks_any v L w' (w0.later hb))
  obtain ⟨a, cap, rfl⟩ := w0.form
  have HA := Lib.hid (fun i hi => Cm.rdk_at w0.row i hi)
  have HW := Lib.hid (fun i (hi : i < L.length) => wn L[i] (List.getElem_mem hi))
  have HLN := Lib.hid (fun i (hi : i < L.length) => (w0.line L[i] (List.getElem_mem hi)).len)
  generalize Cm.rightK (Cm.vals L) = b at C1 C2
  obtain ⟨N, hN⟩ : ∃ N, L.length = N := ⟨_, rfl⟩
  rw [hN] at hm C1 C2 ⊢
  clear w0 wn
  by_cases h1 : 20 < N
  · go_enter Try.func4, Try.ntmps4
    go_wp2_with (go_at_call 9; refine (C0.out _).mono ?_; rintro e w1 ⟨rfl, hb1⟩)
    go_ret
    exact ⟨rfl, hb1⟩
  · go_enter Try.func4, Try.ntmps4
    go_wp2
    go_loop [3] (fun i => ∃ k : Nat, k ≤ N ∧ i = .int .i64 k) (fun i => N - (intOf i).toNat)
    case atStart => exact ⟨0, by omega, rfl⟩
    case round =>
      obtain ⟨k, hk, rfl⟩ := hrel
      by_cases hlt : k < N
      · have hkl : k < L.length := by omega
        obtain ⟨p, o, rfl, hc⟩ := HA.out k hkl
        obtain ⟨q0, -, -, q3⟩ := hc w (Below.refl _ _)
        have hw := HW.out k hkl
        have hl := HLN.out k hkl
        clear hc HA HW HLN
        generalize L[k] = x at q0 q3 hw hl
        obtain ⟨xn, xh, xt, xl, xa, xc⟩ := x
        unfold Cm.LockC.lv at q3
        dsimp only at q0 q3 hw hl
        unfold maxLen at hw
        have hsz : (bstr xn).size = xn.length := bstr_size xn
        generalize xl.length = M at *
        generalize bstr xn = s at *
        generalize xn.length = S at *
        have f1 : (0 : Int) ≤ (k : Int) := by omega
        have f2 : (k : Int) < (N : Int) := by omega
        by_cases c1 : 300 < S
        · have d1 : decide ((300 : Int) < (S : Int)) = true := by simp; omega
          go_wp2_with (go_at_call 9; refine (C0.out _).mono ?_; rintro e w1 ⟨rfl, hb1⟩)
          go_ret
          exact ⟨rfl, hb1⟩
        · have d1 : decide ((300 : Int) < (S : Int)) = false := by simp; omega
          by_cases c2 : 40 < M
          · have d2 : decide ((40 : Int) < (M : Int)) = true := by simp; omega
            go_wp2_with (go_at_call 9; refine (C0.out _).mono ?_; rintro e w1 ⟨rfl, hb1⟩)
            go_ret
            exact ⟨rfl, hb1⟩
          · have d2 : decide ((40 : Int) < (M : Int)) = false := by simp; omega
            go_wp2
            go_round
            case rel => exact ⟨k + 1, by omega, by go_num⟩
            case measure => simp [intOf]; omega
      · obtain rfl : k = N := by omega
        go_wp2_with (first
          | (go_at_call 22; refine (C1.out _ (Below.refl _ _)).mono ?_; rintro e w1 ⟨rfl, hb1⟩; have HB1 := Lib.hid hb1; clear hb1)
          | (go_at_call 26; refine (C2.out _ HB1.out).mono ?_; rintro e w2 ⟨rfl, hb2⟩; have HB2 := Lib.hid (step HB1.out hb2); clear hb2)
          | (go_at_call 9; refine (C0.out _).mono ?_; rintro e w3 ⟨rfl, hb3⟩))
        go_ret
        exact ⟨rfl, step HB2.out hb3⟩

/-! ### THE ROW's STEP -/
set_option maxRecDepth 100000 in
theorem lifted (os : Os) (started : os.Started) (H : Type) (enc : TypeId × Value → H) :
    ReturnsInHanded {} Try.checked os 4 .any (Rows.lockRightsSpec.pre6 enc Try.prog Try.f4 Rows.lockRightsRow.domain false) (Rows.lockRightsSpec.post enc Try.prog Try.f4 false true false false) := by
  refine returnsInHanded_of_change (C := Try.checked) own started (by kernel_rfl) Try.func4
    (ChangeSpec.witness6 (enc := enc) (C := Try.checked) false ⟨#[], #[.slice none 0 0], []⟩ 8 (by kernel_rfl) (by kernel_rfl) (by kernel_rfl) (by kernel_rfl)) ?_
  intro W base args ds gs before hval0 hW hcnd _
  have hval : ∀ (j : Nat) t v, Try.f4.params[j]? = some t → args[j]? = some v → Value.okWide Try.prog W .any base t v := hval0
  have hW' := hW
  obtain ⟨p, q, hA0, hV, rfl, hfz, hnd⟩ := hW
  have hA : DataW.TrodAll enc Try.prog W 0 (fun _ => true) true Try.f4.params.toList args.toList ds p := hA0
  rw [Try.params4] at hA hval
  obtain ⟨v0, vs0, d0, ds0, p0, q0, hargs, rfl, rfl, h0, r0⟩ := trodAll_cons hA
  obtain ⟨rfl, rfl, rfl⟩ := trodAll_nil r0
  obtain rfl : args = #[v0] := by cases args; simp_all
  obtain ⟨rfl, rfl⟩ := trodVars_none hV
  have k0 := h0
  have lt0 : ∀ x ∈ p0, x.block < W.heap.size := by obtain ⟨m, hm⟩ := k0; exact DataW.trod_lt m _ _ _ hm
  obtain ⟨a0, rfl, w0⟩ := Cm.open_locks (hval 0 24 v0 rfl rfl) h0
  clear hA0 hval0
  refine (walk a0 W w0).mono fun e W' ⟨he, bel⟩ => ?_
  subst he
  exact ⟨_, rfl, _, _, _, [], _, [], hW', trodAll_mk1 (shut_bool Try.underlying4 _), (trodAll_cons_mk (Below.trod laidOut (by kernel_rfl) (of_decide_eq_true (by kernel_rfl)) k0 bel lt0) trodAll_mk0), rfl, bel.frame _, fun h => by cases h⟩

theorem over : Rows.lockRightsRow.holds Try.pinned (OpenSpec.ofChange Rows.lockRightsSpec) :=
  OpenClaim.holds_of_wide 4 Try.f4 rfl rfl rfl rfl rfl rfl rfl ⟨rfl, rfl, rfl, rfl, rfl⟩ rfl rfl rfl rfl rfl (by kernel_rfl) Try.func4 (by kernel_rfl)
    (of_decide_eq_true (by kernel_rfl)) (by unfold Func.isWrapper; first | (rw [if_pos (by decide +kernel)]; kernel_rfl) | (rw [if_neg (by decide +kernel)]; exact ⟨rfl, rfl⟩))
    (fun os started H enc _ => lifted os started H enc)

/-- THE STATEMENT -/
theorem proved : Rows.LockRightsSaid := over
end Go.Proofs.Ytnkooajbenhjhaa.lockRights
