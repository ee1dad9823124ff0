/- PROVED: the statement RateWithin of layer 2: for every input that can be read, the law returns true and leaves its arguments as they were. No condition. -/
import Derived.Test.YtkfkmkdpogkhhaaRows
import Derived.Test.YtkfkmkdpogkhhaaRateE
import Derived.WalkKit
import Derived.ProofKit
import Derived.OpenShut
import Derived.ShutString
import Derived.ChangeOld
import Derived.Below
namespace Go.Proofs.Ytkfkmkdpogkhhaa.rateWithin
open Go.ChangeShapes Go.WideShapes Go.ChangeAt Go.RowKit
open Go.ChangeMaps (open_string shut_string)
set_option linter.unusedVariables false      -- a walk need not use every 'w<i>' (that an integer argument fits its kind)

theorem own : ownKnob Try.prog.godebug = none := by kernel_rfl

set_option maxHeartbeats 400000 in
theorem walk_big (a0 a1 a2 a3 k x a b : Int) (w : World) (hn : 0 ≤ a0 ∧ a0 ≤ 4294967295) (hd : 0 ≤ a1 ∧ a1 ≤ 4294967295) (hr : 0 ≤ a2 ∧ a2 ≤ 65535) (hm : 0 ≤ a3 ∧ a3 ≤ 65535) (hz : decide (k + 1 = 0) = false) (hk : a0 / 2 = k) (hx2 : a1 / 4 % (k + 1) = x) (ha : a2 % 1001 = a) (hb : a3 % 1001 = b) (hkb : 0 ≤ k ∧ k ≤ 2147483647) (hx : 0 ≤ x ∧ x ≤ k) (hab : 0 ≤ a ∧ a ≤ 1000 ∧ 0 ≤ b ∧ b ≤ 1000) (hbig : 2147483648 < k + x) (u : withinF k (k + x) a = false) :
    Calls Try.prog 7 #[.int .u32 a0, .int .u32 a1, .int .u16 a2, .int .u16 a3] w fun e w' => e = .returned (.bool true) ∧ Below w.heap.size w w' := by
  go_enter Try.func7, Try.ntmps7
  go_wp2_with fail
  go_region
  go_wp2_with fail
  refine (Within_any _ _ _ _).mono ?_
  rintro e w' ⟨rfl, rfl⟩
  rw [u]
  go_wp2_with fail
  refine (awake_ok _).mono ?_
  rintro e w3 ⟨rfl, hb3⟩
  go_wp2_with fail
  go_ret
  exact ⟨rfl, step (Below.refl _ _).drew hb3⟩

set_option maxHeartbeats 400000 in
theorem walk_off (a0 a1 a2 a3 k x a b : Int) (w : World) (hn : 0 ≤ a0 ∧ a0 ≤ 4294967295) (hd : 0 ≤ a1 ∧ a1 ≤ 4294967295) (hr : 0 ≤ a2 ∧ a2 ≤ 65535) (hm : 0 ≤ a3 ∧ a3 ≤ 65535) (hz : decide (k + 1 = 0) = false) (hk : a0 / 2 = k) (hx2 : a1 / 4 % (k + 1) = x) (ha : a2 % 1001 = a) (hb : a3 % 1001 = b) (hkb : 0 ≤ k ∧ k ≤ 2147483647) (hx : 0 ≤ x ∧ x ≤ k) (hab : 0 ≤ a ∧ a ≤ 1000 ∧ 0 ≤ b ∧ b ≤ 1000) (hbig : ¬ 2147483648 < k + x) (ua : withinF k (k + x) a = false) (dn : withinF k (k - x) a = false) (u0 : withinF k (k + x) 0 = decide (x = 0)) (y0 : withinF k k a = true) (n1 : withinF (-1 - k) k a = false) (n2 : withinF k (-1 - k) a = false) (n3 : withinF k k (1001 + a) = false) (n4 : withinF k k (-1 - a) = false) :
    Calls Try.prog 7 #[.int .u32 a0, .int .u32 a1, .int .u16 a2, .int .u16 a3] w fun e w' => e = .returned (.bool true) ∧ Below w.heap.size w w' := by
  go_enter Try.func7, Try.ntmps7
  go_wp2_with fail
  go_region
  go_wp2_with fail
  refine (Within_any _ _ _ _).mono ?_
  rintro e w' ⟨rfl, rfl⟩
  rw [ua]
  go_wp2_with fail
  refine (Within_any _ _ _ _).mono ?_
  rintro e w' ⟨rfl, rfl⟩
  rw [dn]
  dsimp only
  rename_i hK
  refine hK _ _ ?_
  simp only [List.append_eq, List.cons_append, List.nil_append]
  go_wp2_with fail
  refine (Within_any _ _ _ _).mono ?_
  rintro e w' ⟨rfl, rfl⟩
  rw [u0]
  go_wp2_with fail
  refine (Within_any _ _ _ _).mono ?_
  rintro e w' ⟨rfl, rfl⟩
  rw [y0]
  go_wp2_with fail
  refine (Within_any _ _ _ _).mono ?_
  rintro e w' ⟨rfl, rfl⟩
  rw [n1]
  go_wp2_with fail
  refine (Within_any _ _ _ _).mono ?_
  rintro e w' ⟨rfl, rfl⟩
  rw [n2]
  go_wp2_with fail
  refine (Within_any _ _ _ _).mono ?_
  rintro e w' ⟨rfl, rfl⟩
  rw [n3]
  go_wp2_with fail
  refine (Within_any _ _ _ _).mono ?_
  rintro e w' ⟨rfl, rfl⟩
  rw [n4]
  go_wp2_with fail
  refine (awake_ok _).mono ?_
  rintro e w3 ⟨rfl, hb3⟩
  go_wp2_with fail
  go_ret
  exact ⟨rfl, step (Below.refl _ _).drew hb3⟩

set_option maxHeartbeats 400000 in
theorem walk_less (a0 a1 a2 a3 k x a b : Int) (w : World) (hn : 0 ≤ a0 ∧ a0 ≤ 4294967295) (hd : 0 ≤ a1 ∧ a1 ≤ 4294967295) (hr : 0 ≤ a2 ∧ a2 ≤ 65535) (hm : 0 ≤ a3 ∧ a3 ≤ 65535) (hz : decide (k + 1 = 0) = false) (hk : a0 / 2 = k) (hx2 : a1 / 4 % (k + 1) = x) (ha : a2 % 1001 = a) (hb : a3 % 1001 = b) (hkb : 0 ≤ k ∧ k ≤ 2147483647) (hx : 0 ≤ x ∧ x ≤ k) (hab : 0 ≤ a ∧ a ≤ 1000 ∧ 0 ≤ b ∧ b ≤ 1000) (hbig : ¬ 2147483648 < k + x) (hab2 : a < b) (ua : withinF k (k + x) a = true) (dn : withinF k (k - x) a = true) (ub : withinF k (k + x) b = true) (u0 : withinF k (k + x) 0 = decide (x = 0)) (y0 : withinF k k a = true) (n1 : withinF (-1 - k) k a = false) (n2 : withinF k (-1 - k) a = false) (n3 : withinF k k (1001 + a) = false) (n4 : withinF k k (-1 - a) = false) :
    Calls Try.prog 7 #[.int .u32 a0, .int .u32 a1, .int .u16 a2, .int .u16 a3] w fun e w' => e = .returned (.bool true) ∧ Below w.heap.size w w' := by
  go_enter Try.func7, Try.ntmps7
  go_wp2_with fail
  go_region
  go_wp2_with fail
  refine (Within_any _ _ _ _).mono ?_
  rintro e w' ⟨rfl, rfl⟩
  rw [ua]
  go_wp2_with fail
  refine (Within_any _ _ _ _).mono ?_
  rintro e w' ⟨rfl, rfl⟩
  rw [dn]
  dsimp only
  rename_i hK
  refine hK _ _ ?_
  simp only [List.append_eq, List.cons_append, List.nil_append]
  go_wp2_with fail
  refine (Within_any _ _ _ _).mono ?_
  rintro e w' ⟨rfl, rfl⟩
  rw [ub]
  go_wp2_with fail
  refine (Within_any _ _ _ _).mono ?_
  rintro e w' ⟨rfl, rfl⟩
  rw [u0]
  go_wp2_with fail
  refine (Within_any _ _ _ _).mono ?_
  rintro e w' ⟨rfl, rfl⟩
  rw [y0]
  go_wp2_with fail
  refine (Within_any _ _ _ _).mono ?_
  rintro e w' ⟨rfl, rfl⟩
  rw [n1]
  go_wp2_with fail
  refine (Within_any _ _ _ _).mono ?_
  rintro e w' ⟨rfl, rfl⟩
  rw [n2]
  go_wp2_with fail
  refine (Within_any _ _ _ _).mono ?_
  rintro e w' ⟨rfl, rfl⟩
  rw [n3]
  go_wp2_with fail
  refine (Within_any _ _ _ _).mono ?_
  rintro e w' ⟨rfl, rfl⟩
  rw [n4]
  go_wp2_with fail
  refine (awake_ok _).mono ?_
  rintro e w3 ⟨rfl, hb3⟩
  go_wp2_with fail
  go_ret
  exact ⟨rfl, step (Below.refl _ _).drew hb3⟩

set_option maxHeartbeats 400000 in
theorem walk_more (a0 a1 a2 a3 k x a b : Int) (w : World) (hn : 0 ≤ a0 ∧ a0 ≤ 4294967295) (hd : 0 ≤ a1 ∧ a1 ≤ 4294967295) (hr : 0 ≤ a2 ∧ a2 ≤ 65535) (hm : 0 ≤ a3 ∧ a3 ≤ 65535) (hz : decide (k + 1 = 0) = false) (hk : a0 / 2 = k) (hx2 : a1 / 4 % (k + 1) = x) (ha : a2 % 1001 = a) (hb : a3 % 1001 = b) (hkb : 0 ≤ k ∧ k ≤ 2147483647) (hx : 0 ≤ x ∧ x ≤ k) (hab : 0 ≤ a ∧ a ≤ 1000 ∧ 0 ≤ b ∧ b ≤ 1000) (hbig : ¬ 2147483648 < k + x) (hab2 : ¬ a < b) (ua : withinF k (k + x) a = true) (dn : withinF k (k - x) a = true) (u0 : withinF k (k + x) 0 = decide (x = 0)) (y0 : withinF k k a = true) (n1 : withinF (-1 - k) k a = false) (n2 : withinF k (-1 - k) a = false) (n3 : withinF k k (1001 + a) = false) (n4 : withinF k k (-1 - a) = false) :
    Calls Try.prog 7 #[.int .u32 a0, .int .u32 a1, .int .u16 a2, .int .u16 a3] w fun e w' => e = .returned (.bool true) ∧ Below w.heap.size w w' := by
  go_enter Try.func7, Try.ntmps7
  go_wp2_with fail
  go_region
  go_wp2_with fail
  refine (Within_any _ _ _ _).mono ?_
  rintro e w' ⟨rfl, rfl⟩
  rw [ua]
  go_wp2_with fail
  refine (Within_any _ _ _ _).mono ?_
  rintro e w' ⟨rfl, rfl⟩
  rw [dn]
  dsimp only
  rename_i hK
  refine hK _ _ ?_
  simp only [List.append_eq, List.cons_append, List.nil_append]
  go_wp2_with fail
  refine (Within_any _ _ _ _).mono ?_
  rintro e w' ⟨rfl, rfl⟩
  rw [ua]
  go_wp2_with fail
  refine (Within_any _ _ _ _).mono ?_
  rintro e w' ⟨rfl, rfl⟩
  rw [u0]
  go_wp2_with fail
  refine (Within_any _ _ _ _).mono ?_
  rintro e w' ⟨rfl, rfl⟩
  rw [y0]
  go_wp2_with fail
  refine (Within_any _ _ _ _).mono ?_
  rintro e w' ⟨rfl, rfl⟩
  rw [n1]
  go_wp2_with fail
  refine (Within_any _ _ _ _).mono ?_
  rintro e w' ⟨rfl, rfl⟩
  rw [n2]
  go_wp2_with fail
  refine (Within_any _ _ _ _).mono ?_
  rintro e w' ⟨rfl, rfl⟩
  rw [n3]
  go_wp2_with fail
  refine (Within_any _ _ _ _).mono ?_
  rintro e w' ⟨rfl, rfl⟩
  rw [n4]
  go_wp2_with fail
  refine (awake_ok _).mono ?_
  rintro e w3 ⟨rfl, hb3⟩
  go_wp2_with fail
  go_ret
  exact ⟨rfl, step (Below.refl _ _).drew hb3⟩

/-! ### STEP 1: THE WALK: the Go text returns true. 'Below w.heap.size w w'': the world has at most new blocks (Derived/RowKit3.lean). Part the cases AHEAD of 'go_enter' where a test parts the walk; take each callee by a contract of your own. -/
theorem walk (a0 : Int) (a1 : Int) (a2 : Int) (a3 : Int) (w0 : (Lit.int .u32 a0).wf = true) (w1 : (Lit.int .u32 a1).wf = true) (w2 : (Lit.int .u16 a2).wf = true) (w3 : (Lit.int .u16 a3).wf = true) (w : World) :
    Calls Try.prog 7 #[.int .u32 a0, .int .u32 a1, .int .u16 a2, .int .u16 a3] w fun e w' => e = .returned (.bool true) ∧ Below w.heap.size w w' := by
  have hn : 0 ≤ a0 ∧ a0 ≤ 4294967295 := by have := w0; simp [Lit.wf, IntKind.min, IntKind.max, IntKind.signed, IntKind.bits] at this; omega
  have hd : 0 ≤ a1 ∧ a1 ≤ 4294967295 := by have := w1; simp [Lit.wf, IntKind.min, IntKind.max, IntKind.signed, IntKind.bits] at this; omega
  have hr : 0 ≤ a2 ∧ a2 ≤ 65535 := by have := w2; simp [Lit.wf, IntKind.min, IntKind.max, IntKind.signed, IntKind.bits] at this; omega
  have hm : 0 ≤ a3 ∧ a3 ≤ 65535 := by have := w3; simp [Lit.wf, IntKind.min, IntKind.max, IntKind.signed, IntKind.bits] at this; omega
  obtain ⟨k, hk⟩ : ∃ k, a0 / 2 = k := ⟨_, rfl⟩
  obtain ⟨x, hx2⟩ : ∃ x, a1 / 4 % (k + 1) = x := ⟨_, rfl⟩
  obtain ⟨a, ha⟩ : ∃ a, a2 % 1001 = a := ⟨_, rfl⟩
  obtain ⟨b, hb⟩ : ∃ b, a3 % 1001 = b := ⟨_, rfl⟩
  have hkb : 0 ≤ k ∧ k ≤ 2147483647 := by omega
  have hz : decide (k + 1 = 0) = false := by simp; omega
  have hx : 0 ≤ x ∧ x ≤ k := by
    have h1 := Int.emod_nonneg (a1 / 4) (show k + 1 ≠ 0 by omega)
    have h2 := Int.emod_lt_of_pos (a1 / 4) (show 0 < k + 1 by omega)
    omega
  have hab : 0 ≤ a ∧ a ≤ 1000 ∧ 0 ≤ b ∧ b ≤ 1000 := by omega
  have n1 : withinF (-1 - k) k a = false := within_out _ _ _ (by omega)
  have n2 : withinF k (-1 - k) a = false := within_out _ _ _ (by omega)
  have n3 : withinF k k (1001 + a) = false := within_out _ _ _ (by omega)
  have n4 : withinF k k (-1 - a) = false := within_out _ _ _ (by omega)
  have hak : 0 ≤ a * k := Int.mul_nonneg (by omega) (by omega)
  have y0 : withinF k k a = true := by
    unfold withinF
    rw [if_neg (by omega), show max (k - k) (k - k) = 0 by omega]
    simp
    exact hak
  by_cases hbig : 2147483648 < k + x
  · exact walk_big a0 a1 a2 a3 k x a b w hn hd hr hm hz hk hx2 ha hb hkb hx hab hbig (within_out _ _ _ (by omega))
  · have up : ∀ r, 0 ≤ r → r ≤ 1000 → withinF k (k + x) r = decide (1000 * x ≤ r * k) := by
      intro r h0 h1
      unfold withinF
      rw [if_neg (by omega), show max (k + x - k) (k - (k + x)) = x by omega]
    have dn : withinF k (k - x) a = decide (1000 * x ≤ a * k) := by
      unfold withinF
      rw [if_neg (by omega), show max (k - x - k) (k - (k - x)) = x by omega]
    have ua := up a (by omega) (by omega)
    have u0 : withinF k (k + x) 0 = decide (x = 0) := by
      rw [up 0 (by omega) (by omega), decide_eq_decide]
      omega
    by_cases hu : 1000 * x ≤ a * k
    · rw [decide_eq_true hu] at ua dn
      by_cases hab2 : a < b
      · have ub : withinF k (k + x) b = true := by
          rw [up b (by omega) (by omega)]
          have := Int.mul_le_mul_of_nonneg_right (show a ≤ b by omega) hkb.1
          simp
          omega
        exact walk_less a0 a1 a2 a3 k x a b w hn hd hr hm hz hk hx2 ha hb hkb hx hab hbig hab2 ua dn ub u0 y0 n1 n2 n3 n4
      · exact walk_more a0 a1 a2 a3 k x a b w hn hd hr hm hz hk hx2 ha hb hkb hx hab hbig hab2 ua dn u0 y0 n1 n2 n3 n4
    · rw [decide_eq_false hu] at ua dn
      exact walk_off a0 a1 a2 a3 k x a b w hn hd hr hm hz hk hx2 ha hb hkb hx hab hbig ua dn u0 y0 n1 n2 n3 n4

/-! ### THE ROW's STEP: WRITTEN OUT: LEAVE IT -/
set_option maxRecDepth 100000 in
theorem lifted (os : Os) (started : os.Started) (H : Type) (enc : TypeId × Value → H) :
    ReturnsInHanded {} Try.checked os 7 .any (Rows.rateWithinSpec.pre6 enc Try.prog Try.f7 Rows.rateWithinRow.domain false) (Rows.rateWithinSpec.post enc Try.prog Try.f7 false true false false) := by
  refine returnsInHanded_of_change (C := Try.checked) own started (by kernel_rfl) Try.func7
    (ChangeSpec.witness6 (enc := enc) (C := Try.checked) false ⟨#[], #[.int .u32 0, .int .u32 0, .int .u16 0, .int .u16 0], []⟩ 8 (by kernel_rfl) (by kernel_rfl) (by kernel_rfl) (by kernel_rfl)) ?_
  intro W base args ds gs before hval0 hW hcnd _
  have hval : ∀ (j : Nat) t v, Try.f7.params[j]? = some t → args[j]? = some v → Value.okWide Try.prog W .any base t v := hval0
  have hW' := hW
  obtain ⟨p, q, hA0, hV, rfl, hfz, hnd⟩ := hW
  have hA : DataW.TrodAll enc Try.prog W 0 (fun _ => true) true Try.f7.params.toList args.toList ds p := hA0
  rw [Try.params7] at hA hval
  obtain ⟨v0, vs0, d0, ds0, p0, q0, hargs, rfl, rfl, h0, r0⟩ := trodAll_cons hA
  obtain ⟨v1, vs1, d1, ds1, p1, q1, rfl, rfl, rfl, h1, r1⟩ := trodAll_cons r0
  obtain ⟨v2, vs2, d2, ds2, p2, q2, rfl, rfl, rfl, h2, r2⟩ := trodAll_cons r1
  obtain ⟨v3, vs3, d3, ds3, p3, q3, rfl, rfl, rfl, h3, r3⟩ := trodAll_cons r2
  obtain ⟨rfl, rfl, rfl⟩ := trodAll_nil r3
  obtain rfl : args = #[v0, v1, v2, v3] := by cases args; simp_all
  obtain ⟨rfl, rfl⟩ := trodVars_none hV
  obtain ⟨a0, rfl, rfl, rfl, w0⟩ := open_int Try.underlying44 (hval 0 44 v0 rfl rfl) h0
  obtain ⟨a1, rfl, rfl, rfl, w1⟩ := open_int Try.underlying44 (hval 1 44 v1 rfl rfl) h1
  obtain ⟨a2, rfl, rfl, rfl, w2⟩ := open_int Try.underlying37 (hval 2 37 v2 rfl rfl) h2
  obtain ⟨a3, rfl, rfl, rfl, w3⟩ := open_int Try.underlying37 (hval 3 37 v3 rfl rfl) h3
  clear hA0 hval0
  simp only [List.append_nil] at hW'
  refine (walk a0 a1 a2 a3 w0 w1 w2 w3 W).mono fun e W' ⟨he, bel⟩ => ?_
  subst he
  exact ⟨_, rfl, _, _, _, [], _, [], hW', (trodAll_cons_mk (shut_bool Try.underlying4 _) trodAll_mk0), (trodAll_cons_mk (shut_int Try.underlying44 w0) (trodAll_cons_mk (shut_int Try.underlying44 w1) (trodAll_cons_mk (shut_int Try.underlying37 w2) (trodAll_cons_mk (shut_int Try.underlying37 w3) trodAll_mk0)))), rfl, bel.frame _, fun h => by cases h⟩

theorem over : Rows.rateWithinRow.holds Try.pinned (OpenSpec.ofChange Rows.rateWithinSpec) :=
  OpenClaim.holds_of_wide 7 Try.f7 rfl rfl rfl rfl rfl rfl rfl ⟨rfl, rfl, rfl, rfl, rfl⟩ rfl rfl rfl rfl rfl (by kernel_rfl) Try.func7 (by kernel_rfl)
    (of_decide_eq_true (by kernel_rfl)) (by unfold Func.isWrapper; first | (rw [if_pos (by decide +kernel)]; kernel_rfl) | (rw [if_neg (by decide +kernel)]; exact ⟨rfl, rfl⟩))
    (fun os started H enc _ => lifted os started H enc)

/-- THE STATEMENT -/
theorem proved : Rows.RateWithinSaid :=
  over
end Go.Proofs.Ytkfkmkdpogkhhaa.rateWithin
