/- PROVED: the statement ViewTimeouts of layer 13: for every input that can be read, the law returns true and leaves its arguments as they were. No condition. -/
import Derived.Test.YtdocoflcelhmbaaRows
import Derived.Test.YtdocoflcelhmbaaVewD
import Derived.WalkKit
import Derived.ProofKit
import Derived.OpenShut
import Derived.ShutString
import Derived.ChangeOld
import Derived.Below
import Derived.BigQuiet
import Derived.Lib.QuietBelow
import Derived.Deep.Cut
import Derived.Deep.CutBlock
import Derived.Deep.DeepCutAuto
namespace Go.Proofs.Ytdocoflcelhmbaa.viewTimeouts
open Go.ChangeShapes Go.WideShapes Go.ChangeAt Go.RowKit
open Go.ChangeMaps (open_string shut_string)
open Go.Sort (grow)
set_option linter.unusedVariables false
set_option maxRecDepth 8000
set_option linter.unusedSimpArgs false

theorem own : ownKnob Try.prog.godebug = none := by kernel_rfl
theorem laidOut : laidOutB Try.prog = true := by kernel_rfl

/-! ### STEP 1: THE WALK -/
set_option maxRecDepth 100000 in
set_option maxHeartbeats 4000000 in
theorem walk (a0 : Int) (a1 : Int) (a2 : Int) (a3 : Int) (w : World) (w0 : (Lit.int .u16 a0).wf = true) (w1 : (Lit.int .u16 a1).wf = true) (w2 : (Lit.int .u8 a2).wf = true) (w3 : (Lit.int .u32 a3).wf = true) :
    Calls Try.prog 6 #[.int .u16 a0, .int .u16 a1, .int .u8 a2, .int .u32 a3] w fun e w' => e = .returned (.bool true) ∧ Below w.heap.size w w' := by
  obtain ⟨x, rfl⟩ : ∃ x : Nat, a0 = (x : Int) := Int.eq_ofNat_of_zero_le (by have := w0; simp [Lit.wf, IntKind.min, IntKind.max, IntKind.signed, IntKind.bits] at this; omega)
  have hx : x < 65536 := by have := w0; simp [Lit.wf, IntKind.min, IntKind.max, IntKind.signed, IntKind.bits] at this; omega
  obtain ⟨y, rfl⟩ : ∃ y : Nat, a1 = (y : Int) := Int.eq_ofNat_of_zero_le (by have := w1; simp [Lit.wf, IntKind.min, IntKind.max, IntKind.signed, IntKind.bits] at this; omega)
  have hy : y < 65536 := by have := w1; simp [Lit.wf, IntKind.min, IntKind.max, IntKind.signed, IntKind.bits] at this; omega
  obtain ⟨v, rfl⟩ : ∃ v : Nat, a2 = (v : Int) := Int.eq_ofNat_of_zero_le (by have := w2; simp [Lit.wf, IntKind.min, IntKind.max, IntKind.signed, IntKind.bits] at this; omega)
  have hv : v < 256 := by have := w2; simp [Lit.wf, IntKind.min, IntKind.max, IntKind.signed, IntKind.bits] at this; omega
  obtain ⟨n, rfl⟩ : ∃ n : Nat, a3 = (n : Int) := Int.eq_ofNat_of_zero_le (by have := w3; simp [Lit.wf, IntKind.min, IntKind.max, IntKind.signed, IntKind.bits] at this; omega)
  have hn : n < 4294967296 := by have := w3; simp [Lit.wf, IntKind.min, IntKind.max, IntKind.signed, IntKind.bits] at this; omega
  clear w0 w1 w2 w3
  obtain ⟨b, hb⟩ : ∃ b : Int, b = 1 + (x : Int) := ⟨_, rfl⟩
  obtain ⟨m, hm⟩ : ∃ m : Int, m = b + (y : Int) := ⟨_, rfl⟩
  have b1 : 1 ≤ b := by omega
  have bm : b ≤ m := by omega
  have m6 : m ≤ 200000 := by omega
  have C1 := Lib.hid (fun w => Vw.Timeout_any b m (v : Int) w)
  have C2 := Lib.hid (fun w => Vw.Timeout_any b m ((v + 1 : Nat) : Int) w)
  have C3 := Lib.hid (fun w => Vw.Timeout_any b m 0 w)
  have C4 := Lib.hid (fun w => Vw.Timeout_any (m + 1) m 0 w)
  have C5 := Lib.hid (fun w => Vw.Reach_any b m (n : Int) w)
  have C6 := Lib.hid (fun (k : Nat) (hk : k ≤ 1000000) w => by have := Vw.Timeout_any b m (k : Int) w; rw [Vw.timeF_nat k b1 bm (by omega) hk] at this; exact this)
  have C0 := Lib.hid (fun w => Vw.awake13_ok w)
  rw [Vw.timeF_nat v b1 bm (by omega) (by omega)] at C1
  rw [Vw.timeF_nat (v + 1) b1 bm (by omega) (by omega), Vw.dblF_succ m v b (by omega)] at C2
  rw [Vw.timeF_zero b1 bm (by omega)] at C3
  rw [Vw.timeF_bad (by omega)] at C4
  have t1 := Vw.dblF_ge m v b (by omega) bm
  have t2 := Vw.dblF_le m v b
  generalize Vw.dblF m v b = t at *
  rw [show ((v + 1 : Nat) : Int) = (v : Int) + 1 by omega] at C2
  have eb : (1 : Int) + (x : Int) = b := by omega
  have em : b + (y : Int) = m := by omega
  clear hb hm
  have hq : (2 * t ≤ m ∧ min (2 * t) m = 2 * t) ∨ (m < 2 * t ∧ min (2 * t) m = m) := by omega
  obtain ⟨u, hu, hu1⟩ : ∃ u, u = min (2 * t) m ∧ ((2 * t ≤ m ∧ u = 2 * t) ∨ (m < 2 * t ∧ u = m)) := ⟨_, rfl, hq⟩
  rw [← hu] at C2
  clear hu hq
  go_enter Try.func6, Try.ntmps6
  go_upto_region 3 with fail
  clear eb em
  go_wp2_with fail
  refine (C1.out _).mono ?_
  rintro e w' ⟨rfl, rfl⟩
  go_wp2_with fail
  refine (C2.out _).mono ?_
  rintro e w' ⟨rfl, rfl⟩
  clear C1 C2
  go_upto_region 4 with fail
  have d1 : decide (t < b) = false := by simp; omega
  have d2 : decide (m < t) = false := by simp; omega
  rcases hu1 with ⟨hu1, hu2⟩ | ⟨hu1, hu2⟩
  all_goals
    have hu2 := hu2.symm
    subst hu2
    go_wp2_with fail
    refine (C3.out _).mono ?_
    rintro e w' ⟨rfl, rfl⟩
    go_wp2_with fail
    refine (C4.out _).mono ?_
    rintro e w' ⟨rfl, rfl⟩
    go_wp2_with fail
    refine (C5.out _).mono ?_
    rintro e w' ⟨k, ok, rfl, hr, rfl⟩
    rcases hr with ⟨h1, rfl, rfl⟩ | ⟨h1, rfl, h2, h3, h4, h5⟩
    · have d3 : decide ((n : Int) ≤ m) = false := by simp; omega
      clear h1
      go_wp2_with fail
      refine (C0.out _).mono ?_
      rintro e w' ⟨rfl, hb9⟩
      go_wp2
      go_ret
      exact ⟨rfl, hb9⟩
    · have d3 : decide ((n : Int) ≤ m) = true := by simp; omega
      obtain ⟨k, rfl⟩ := Int.eq_ofNat_of_zero_le h2
      rw [Int.toNat_natCast] at h4 h5
      have D1 := Lib.hid (C6.out k (by omega))
      have d4 : decide ((n : Int) ≤ Vw.dblF m k b) = true := by simpa using h4
      rcases Nat.eq_zero_or_pos k with hk | hk
      · subst hk
        generalize Vw.dblF m 0 b = r at *
        clear h1 h4 h5
        go_wp2_with fail
        refine (D1.out _).mono ?_
        rintro e w' ⟨rfl, rfl⟩
        go_wp2_with fail
        refine (C0.out _).mono ?_
        rintro e w' ⟨rfl, hb9⟩
        go_wp2
        go_ret
        exact ⟨rfl, hb9⟩
      · obtain ⟨j, rfl⟩ : ∃ j, k = j + 1 := ⟨k - 1, by omega⟩
        have h6 := h5 j (by omega)
        have D2 := Lib.hid (C6.out j (by omega))
        have d5 : decide (Vw.dblF m j b < (n : Int)) = true := by simpa using h6
        have d6 : (((j + 1 : Nat) : Int) == 0) = false := by simp; omega
        generalize Vw.dblF m (j + 1) b = r at *
        generalize Vw.dblF m j b = s at *
        obtain ⟨K, hK⟩ : ∃ K : Int, K = ((j + 1 : Nat) : Int) := ⟨_, rfl⟩
        rw [← hK] at D1 d6 ⊢
        have d7 : K - 1 = (j : Int) := by omega
        have d8 : 0 < K := by omega
        have d9 : j < 4294967296 := by omega
        clear h1 h2 h3 h4 h5 h6 hk hK
        go_wp2_with fail
        refine (D1.out _).mono ?_
        rintro e w' ⟨rfl, rfl⟩
        go_wp2_with fail
        refine (D2.out _).mono ?_
        rintro e w' ⟨rfl, rfl⟩
        go_wp2_with fail
        refine (C0.out _).mono ?_
        rintro e w' ⟨rfl, hb9⟩
        go_wp2
        go_ret
        exact ⟨rfl, hb9⟩

/-! ### THE ROW's STEP -/
set_option maxRecDepth 100000 in
theorem lifted (os : Os) (started : os.Started) (H : Type) (enc : TypeId × Value → H) :
    ReturnsInHanded {} Try.checked os 6 .any (Rows.viewTimeoutsSpec.pre6 enc Try.prog Try.f6 Rows.viewTimeoutsRow.domain false) (Rows.viewTimeoutsSpec.post enc Try.prog Try.f6 false true false false) := by
  refine returnsInHanded_of_change (C := Try.checked) own started (by kernel_rfl) Try.func6
    (ChangeSpec.witness6 (enc := enc) (C := Try.checked) false ⟨#[], #[.int .u16 0, .int .u16 0, .int .u8 0, .int .u32 0], []⟩ 8 (by kernel_rfl) (by kernel_rfl) (by kernel_rfl) (by kernel_rfl)) ?_
  intro W base args ds gs before hval0 hW hcnd _
  have hval : ∀ (j : Nat) t v, Try.f6.params[j]? = some t → args[j]? = some v → Value.okWide Try.prog W .any base t v := hval0
  have hW' := hW
  obtain ⟨p, q, hA0, hV, rfl, hfz, hnd⟩ := hW
  have hA : DataW.TrodAll enc Try.prog W 0 (fun _ => true) true Try.f6.params.toList args.toList ds p := hA0
  rw [Try.params6] at hA hval
  obtain ⟨v0, vs0, d0, ds0, p0, q0, hargs, rfl, rfl, h0, r0⟩ := trodAll_cons hA
  obtain ⟨v1, vs1, d1, ds1, p1, q1, rfl, rfl, rfl, h1, r1⟩ := trodAll_cons r0
  obtain ⟨v2, vs2, d2, ds2, p2, q2, rfl, rfl, rfl, h2, r2⟩ := trodAll_cons r1
  obtain ⟨v3, vs3, d3, ds3, p3, q3, rfl, rfl, rfl, h3, r3⟩ := trodAll_cons r2
  obtain ⟨rfl, rfl, rfl⟩ := trodAll_nil r3
  obtain rfl : args = #[v0, v1, v2, v3] := by cases args; simp_all
  obtain ⟨rfl, rfl⟩ := trodVars_none hV
  obtain ⟨a0, rfl, rfl, rfl, w0⟩ := open_int Try.underlying36 (hval 0 36 v0 rfl rfl) h0
  obtain ⟨a1, rfl, rfl, rfl, w1⟩ := open_int Try.underlying36 (hval 1 36 v1 rfl rfl) h1
  obtain ⟨a2, rfl, rfl, rfl, w2⟩ := open_int Try.underlying5 (hval 2 5 v2 rfl rfl) h2
  obtain ⟨a3, rfl, rfl, rfl, w3⟩ := open_int Try.underlying34 (hval 3 34 v3 rfl rfl) h3
  clear hA0 hval0
  refine (walk a0 a1 a2 a3 W w0 w1 w2 w3).mono fun e W' ⟨he, bel⟩ => ?_
  subst he
  exact ⟨_, rfl, _, _, _, [], _, [], hW', trodAll_mk1 (shut_bool Try.underlying4 _), (trodAll_cons_mk (shut_int Try.underlying36 w0) (trodAll_cons_mk (shut_int Try.underlying36 w1) (trodAll_cons_mk (shut_int Try.underlying5 w2) (trodAll_cons_mk (shut_int Try.underlying34 w3) trodAll_mk0)))), rfl, bel.frame _, fun h => by cases h⟩

theorem over : Rows.viewTimeoutsRow.holds Try.pinned (OpenSpec.ofChange Rows.viewTimeoutsSpec) :=
  OpenClaim.holds_of_wide 6 Try.f6 rfl rfl rfl rfl rfl rfl rfl ⟨rfl, rfl, rfl, rfl, rfl⟩ rfl rfl rfl rfl rfl (by kernel_rfl) Try.func6 (by kernel_rfl)
    (of_decide_eq_true (by kernel_rfl)) (by unfold Func.isWrapper; first | (rw [if_pos (by decide +kernel)]; kernel_rfl) | (rw [if_neg (by decide +kernel)]; exact ⟨rfl, rfl⟩))
    (fun os started H enc _ => lifted os started H enc)

/-- THE STATEMENT -/
theorem proved : Rows.ViewTimeoutsSaid := over
end Go.Proofs.Ytdocoflcelhmbaa.viewTimeouts
