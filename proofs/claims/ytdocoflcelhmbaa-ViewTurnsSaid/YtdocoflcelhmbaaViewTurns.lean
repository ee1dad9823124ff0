/- PROVED: the statement ViewTurns of layer 13: for every input that can be read, the law returns true and leaves its arguments as they were. No condition. -/
import Derived.Test.YtdocoflcelhmbaaRows
import Derived.Test.YtdocoflcelhmbaaFTurn
import Derived.WalkKit
import Derived.ProofKit
import Derived.OpenShut
import Derived.ShutString
import Derived.ChangeOld
import Derived.Below
import Derived.BigQuiet
import Derived.Lib.QuietBelow
import Derived.Deep.Cut
import Derived.Deep.CutBlock
import Derived.Deep.DeepCutAuto
namespace Go.Proofs.Ytdocoflcelhmbaa.viewTurns
open Go.ChangeShapes Go.WideShapes Go.ChangeAt Go.RowKit
open Go.ChangeMaps (open_string shut_string)
open Go.Sort (grow)
set_option linter.unusedVariables false
set_option maxRecDepth 8000
set_option linter.unusedSimpArgs false

theorem own : ownKnob Try.prog.godebug = none := by kernel_rfl
theorem laidOut : laidOutB Try.prog = true := by kernel_rfl

/-! ### STEP 1: THE WALK -/
set_option maxRecDepth 100000 in
set_option maxHeartbeats 4000000 in
theorem walk (a0 : Int) (a1 : Int) (w : World) (w0 : (Lit.int .u32 a0).wf = true) (w1 : (Lit.int .u8 a1).wf = true) :
    Calls Try.prog 5 #[.int .u32 a0, .int .u8 a1] w fun e w' => e = .returned (.bool true) ∧ Below w.heap.size w w' := by
  obtain ⟨v, rfl⟩ : ∃ v : Nat, a0 = (v : Int) := Int.eq_ofNat_of_zero_le (by have := w0; simp [Lit.wf, IntKind.min, IntKind.max, IntKind.signed, IntKind.bits] at this; omega)
  have hv : v < 4294967296 := by have := w0; simp [Lit.wf, IntKind.min, IntKind.max, IntKind.signed, IntKind.bits] at this; omega
  obtain ⟨n, rfl⟩ : ∃ n : Nat, a1 = (n : Int) := Int.eq_ofNat_of_zero_le (by have := w1; simp [Lit.wf, IntKind.min, IntKind.max, IntKind.signed, IntKind.bits] at this; omega)
  have hn : n < 256 := by have := w1; simp [Lit.wf, IntKind.min, IntKind.max, IntKind.signed, IntKind.bits] at this; omega
  clear w0 w1
  obtain ⟨m, hm⟩ : ∃ m, n % 7 = m := ⟨_, rfl⟩
  have r7 : m < 7 := by omega
  have q0 : IntKind.i64.wrap (n : Int) = (n : Int) := by rw [IntKind.wrap_i64]; omega
  have q1 : (n : Int) % 7 = (m : Int) := by omega
  have q2 : (n : Int).tmod 7 = (m : Int) := by rw [Int.tmod_eq_emod_of_nonneg (by omega)]; exact q1
  clear hm
  obtain ⟨k, hk⟩ : ∃ k : Nat, k = 1 + m := ⟨_, rfl⟩
  have q3 : (1 : Int) + (m : Int) = (k : Int) := by omega
  have k1 : 1 ≤ k := by omega
  have k7 : k < 8 := by omega
  clear hk
  obtain ⟨r, hr⟩ : ∃ r, v % k = r := ⟨_, rfl⟩
  have hrk : r < k := by rw [← hr]; exact Nat.mod_lt _ (by omega)
  have L1 := Lib.hid (fun (i : Nat) (hi : i ≤ k) w => by have := Vw.Leader_any ((v : Int) + (i : Int)) (k : Int) w; rw [Vw.lead_turn v k r i hv k1 k7 hr hi] at this; exact this)
  have L2 := Lib.hid (fun (i : Nat) (hi : i < k) w => by have := Vw.Led_any (v : Int) (k : Int) (((r + i) % k : Nat) : Int) (by have := Nat.mod_lt (r + i) (show 0 < k by omega); omega) w; rw [Vw.led_turn v k r i hv k1 k7 hr hi] at this; exact this)
  have L3 := Lib.hid (fun w => Vw.Leader_any (v : Int) (k : Int) w)
  have L4 := Lib.hid (fun w => Vw.Leader_any (-1 - (v : Int)) (k : Int) w)
  have L5 := Lib.hid (fun w => Vw.Led_any (v : Int) (k : Int) (k : Int) (by omega) w)
  have C0 := Lib.hid (fun w => Vw.awake13_ok w)
  have e3 : Vw.leaderF (v : Int) (k : Int) = (r : Int) := by
    have := Vw.lead_turn v k r 0 hv k1 k7 hr (by omega)
    rw [Nat.add_zero, Nat.mod_eq_of_lt hrk] at this
    simpa using this
  have ek : (r + k) % k = r := by rw [Nat.add_mod_right, Nat.mod_eq_of_lt hrk]
  have L6 := Lib.hid (fun w => by have := L1.out k (by omega) w; rw [ek] at this; exact this)
  rw [e3] at L3
  rw [Vw.leaderF_out (by rw [show Vw.hiF (-1 - (v : Int)) = false from Bool.eq_false_iff.2 (fun h => by have := Vw.hiF_iff.1 h; omega)]; rfl)] at L4
  rw [Vw.ledF_out (by rw [show Vw.withinF (k : Int) 0 ((k : Int) - 1) = false by simp [Vw.withinF]; omega]; simp)] at L5
  have HM1 := Lib.hid (fun i (hi : i < k) => Vw.mask_free (k := k) (r := r) k7 (by omega) hi)
  have HM2 := Lib.hid (fun i (hi : i < k) => Vw.mask_next (k := k) (r := r) k7 (by omega) hi)
  have HM3 := Lib.hid (fun i (hi : i ≤ k) => Vw.mask_small (k := k) (r := r) k7 (by omega) hi)
  clear e3 ek hr
  go_enter Try.func5, Try.ntmps5
  go_upto_region 2 with fail
  clear q0 q1 q2 q3 r7
  go_wp2_with fail
  go_loop [6, 7] (fun s i => ∃ j : Nat, j ≤ k ∧ i = .int .i64 (j : Int) ∧ s = .int .i64 (Vw.maskF k r j : Int)) (fun s i => k - (intOf i).toNat)
  case atStart => exact ⟨0, by omega, rfl, rfl⟩
  case round =>
    obtain ⟨j, hj, rfl, rfl⟩ := hrel
    by_cases hlt : j < k
    · have c1 := L1.out j hj
      have c2 := L2.out j hlt
      have m1 := HM1.out j hlt
      have HN := Lib.hid (HM2.out j hlt)
      have m3 := HM3.out j hj
      have m4 := HM3.out (j + 1) (by omega)
      have hh := Nat.mod_lt (r + j) (show 0 < k by omega)
      generalize Vw.maskF k r j = M at *
      obtain ⟨M', hM'⟩ : ∃ M', Vw.maskF k r (j + 1) = M' := ⟨_, rfl⟩
      have HMN := Lib.hid hM'
      rw [hM'] at HN
      clear hM' m4
      generalize (r + j) % k = h at *
      have HW : Hid (wrap64 (2 ^ h) = 2 ^ h) := Lib.hid (Vw.wrap_pow (by omega))
      have D1 := Lib.hid c1
      have D2 := Lib.hid c2
      have d1 : ((v : Int) + (j : Int) != (v : Int) + (j : Int)) = false := by simp
      clear c1 c2 HM1 HM2 HM3 L1 L2
      go_upto_region 7 with (go_at_call 12; refine (D1.out _).mono ?_; rintro e w' ⟨rfl, rfl⟩)
      go_wp2_with (go_at_call 14; refine (D2.out _).mono ?_; rintro e w' ⟨rfl, rfl⟩)
      go_round
      case rel => exact ⟨j + 1, by omega, by first | rfl | go_num, by rw [HMN.out, ← HN.out, HW.out]⟩
      case measure => simp [intOf] <;> omega
    · obtain rfl : j = k := by omega
      clear HM1 HM2 HM3 L1 L2
      generalize Vw.maskF j r j = M at *
      go_wp2_with fail
      refine (L6.out _).mono ?_
      rintro e w' ⟨rfl, rfl⟩
      go_wp2_with fail
      refine (L3.out _).mono ?_
      rintro e w' ⟨rfl, rfl⟩
      go_wp2_with fail
      refine (L4.out _).mono ?_
      rintro e w' ⟨rfl, rfl⟩
      go_wp2_with fail
      refine (L5.out _).mono ?_
      rintro e w' ⟨rfl, rfl⟩
      go_wp2_with fail
      refine (C0.out _).mono ?_
      rintro e w' ⟨rfl, hb9⟩
      go_wp2
      go_ret
      exact ⟨rfl, hb9⟩

/-! ### THE ROW's STEP -/
set_option maxRecDepth 100000 in
theorem lifted (os : Os) (started : os.Started) (H : Type) (enc : TypeId × Value → H) :
    ReturnsInHanded {} Try.checked os 5 .any (Rows.viewTurnsSpec.pre6 enc Try.prog Try.f5 Rows.viewTurnsRow.domain false) (Rows.viewTurnsSpec.post enc Try.prog Try.f5 false true false false) := by
  refine returnsInHanded_of_change (C := Try.checked) own started (by kernel_rfl) Try.func5
    (ChangeSpec.witness6 (enc := enc) (C := Try.checked) false ⟨#[], #[.int .u32 0, .int .u8 0], []⟩ 8 (by kernel_rfl) (by kernel_rfl) (by kernel_rfl) (by kernel_rfl)) ?_
  intro W base args ds gs before hval0 hW hcnd _
  have hval : ∀ (j : Nat) t v, Try.f5.params[j]? = some t → args[j]? = some v → Value.okWide Try.prog W .any base t v := hval0
  have hW' := hW
  obtain ⟨p, q, hA0, hV, rfl, hfz, hnd⟩ := hW
  have hA : DataW.TrodAll enc Try.prog W 0 (fun _ => true) true Try.f5.params.toList args.toList ds p := hA0
  rw [Try.params5] at hA hval
  obtain ⟨v0, vs0, d0, ds0, p0, q0, hargs, rfl, rfl, h0, r0⟩ := trodAll_cons hA
  obtain ⟨v1, vs1, d1, ds1, p1, q1, rfl, rfl, rfl, h1, r1⟩ := trodAll_cons r0
  obtain ⟨rfl, rfl, rfl⟩ := trodAll_nil r1
  obtain rfl : args = #[v0, v1] := by cases args; simp_all
  obtain ⟨rfl, rfl⟩ := trodVars_none hV
  obtain ⟨a0, rfl, rfl, rfl, w0⟩ := open_int Try.underlying34 (hval 0 34 v0 rfl rfl) h0
  obtain ⟨a1, rfl, rfl, rfl, w1⟩ := open_int Try.underlying5 (hval 1 5 v1 rfl rfl) h1
  clear hA0 hval0
  refine (walk a0 a1 W w0 w1).mono fun e W' ⟨he, bel⟩ => ?_
  subst he
  exact ⟨_, rfl, _, _, _, [], _, [], hW', trodAll_mk1 (shut_bool Try.underlying4 _), (trodAll_cons_mk (shut_int Try.underlying34 w0) (trodAll_cons_mk (shut_int Try.underlying5 w1) trodAll_mk0)), rfl, bel.frame _, fun h => by cases h⟩

theorem over : Rows.viewTurnsRow.holds Try.pinned (OpenSpec.ofChange Rows.viewTurnsSpec) :=
  OpenClaim.holds_of_wide 5 Try.f5 rfl rfl rfl rfl rfl rfl rfl ⟨rfl, rfl, rfl, rfl, rfl⟩ rfl rfl rfl rfl rfl (by kernel_rfl) Try.func5 (by kernel_rfl)
    (of_decide_eq_true (by kernel_rfl)) (by unfold Func.isWrapper; first | (rw [if_pos (by decide +kernel)]; kernel_rfl) | (rw [if_neg (by decide +kernel)]; exact ⟨rfl, rfl⟩))
    (fun os started H enc _ => lifted os started H enc)

/-- THE STATEMENT -/
theorem proved : Rows.ViewTurnsSaid := over
end Go.Proofs.Ytdocoflcelhmbaa.viewTurns
