/- PROVED: the statement CmdMay of layer 4: for every input that can be read, the law returns true and leaves its arguments as they were. No condition. -/
import Derived.Test.YtgjeheekemebaaaRows
import Derived.Test.YtgjeheekemebaaaLaw4B
import Derived.WalkKit
import Derived.ProofKit
import Derived.OpenShut
import Derived.ShutString
import Derived.ChangeOld
import Derived.Below
import Derived.Deep.Cut
import Derived.Deep.CutBlock
import Derived.Deep.DeepCutAuto
namespace Go.Proofs.Ytgjeheekemebaaa.cmdMay
open Go.ChangeShapes Go.WideShapes Go.ChangeAt Go.RowKit
open Go.ChangeMaps (open_string shut_string)
open Go.Sort (grow)
set_option linter.unusedVariables false

theorem own : ownKnob Try.prog.godebug = none := by kernel_rfl
theorem laidOut : laidOutB Try.prog = true := by kernel_rfl

/-! ### STEP 1: THE WALK -/
set_option maxRecDepth 100000 in
set_option maxHeartbeats 4000000 in
theorem walk (a0 : Int) (a1 : Int) (a2 : Int) (a3 : Bool) (w : World) (w0 : (Lit.int .i64 a0).wf = true) (w1 : (Lit.int .i64 a1).wf = true) (w2 : (Lit.int .u8 a2).wf = true) :
    Calls Try.prog 7 #[.int .i64 a0, .int .i64 a1, .int .u8 a2, .bool a3] w fun e w' => e = .returned (.bool true) ∧ Below w.heap.size w w' := by
  obtain ⟨n, rfl⟩ : ∃ n : Nat, a2 = (n : Int) := Int.eq_ofNat_of_zero_le (by have := w2; simp [Lit.wf, IntKind.min, IntKind.max, IntKind.signed, IntKind.bits] at this; omega)
  have hn : n < 256 := by have := w2; simp [Lit.wf, IntKind.min, IntKind.max, IntKind.signed, IntKind.bits] at this; omega
  clear w0 w1 w2
  have CN := Lib.hid (fun w => Cm.Named_any n w hn)
  have hf := Cm.named_name (n % 6) (Nat.mod_lt _ (by omega))
  generalize Cm.namedF (n % 6) = nm0 at CN hf
  obtain ⟨nm, hnm, hnn⟩ : ∃ nm : List UInt8, (if a3 then nm0 else []) = nm ∧ Cm.named a3 nm := by
    cases a3
    · exact ⟨[], rfl, rfl⟩
    · exact ⟨nm0, rfl, hf⟩
  cases a3
  · go_enter Try.func7, Try.ntmps7
    go_upto_block 0 with fail
    obtain rfl : [] = nm := hnm
    have hbW : Below w.heap.size w (w.alloc (.cells #[.int .i64 a0, .int .i64 a1, .string ⟨#[]⟩] 23)) := newAlloc _ _
    obtain ⟨q0, q1, q2⟩ := Cm.box3 (Below.refl _ (w.alloc (.cells #[.int .i64 a0, .int .i64 a1, .string ⟨#[]⟩] 23)))
    generalize w.alloc (.cells #[.int .i64 a0, .int .i64 a1, .string ⟨#[]⟩] 23) = W at *
    have BW := Lib.hid hbW
    have Q := Lib.hid (And.intro q0 (And.intro q1 q2))
    have hM := Cm.may_named false a0 a1 [] hnn
    have C1 := Lib.hid (fun w => Cm.Put_coded ⟨a0, a1, []⟩ w)
    have C2 := Lib.hid (fun w => Cm.PutReq_coded ⟨0, 1, ⟨a0, a1, []⟩⟩ w)
    have C3 := Lib.hid (fun w => Cm.PutReq_coded ⟨8, 1, ⟨a0, a1, []⟩⟩ w)
    have C4 := Lib.hid (fun w => Cm.PutReq_coded ⟨0, 0, ⟨a0, a1, []⟩⟩ w)
    have C5 := Lib.hid (fun w => Cm.May_any ⟨a0, a1, []⟩ w)
    have C0 := Lib.hid (fun w => Cm.awake_ok w)
    rw [Cm.mayR_ask 0 1 _ (by omega) (by omega)] at C2
    rw [Cm.mayR_eight] at C3
    rw [Cm.mayR_nought] at C4
    unfold Cm.cmdVal at C1 C5
    unfold Cm.reqVal at C2 C3 C4
    dsimp only at C1 C2 C3 C4 C5
    generalize Cm.mayF ⟨a0, a1, []⟩ = M at hM C1 C2 C5
    clear hnn hf hbW q0 q1 q2 CN
    go_cut [10] from 26 to 60 (fun s10 wc => s10 = .bool M ∧ wc = W)
    case first =>
      clear C0 C1 C2 C3 C4 C5 Q BW
      have HM := Lib.hid hM
      clear hM
      by_cases h1 : a0 = 1
      · subst h1
        cases g : (a1 == 0)
        all_goals
          go_wp2
          go_meet
          case rel => exact ⟨by rw [HM.out]; simp [g], rfl⟩
      by_cases h2 : a0 = 2 ∨ a0 = 6
      · rcases h2 with rfl | rfl
        all_goals
          cases g1 : decide (1 ≤ a1) <;> cases g2 : decide (a1 ≤ 2305843009213693952)
          all_goals
            go_wp2
            go_meet
            case rel => exact ⟨by rw [HM.out, g1, g2]; rfl, rfl⟩
      by_cases h3 : a0 = 3 ∨ a0 = 4 ∨ a0 = 5
      · rcases h3 with rfl | rfl | rfl
        all_goals
          cases g1 : decide (1 ≤ a1) <;> cases g2 : decide (a1 ≤ 2305843009213693952)
          all_goals
            go_wp2
            go_meet
            case rel => exact ⟨by rw [HM.out, g1, g2]; rfl, rfl⟩
      have d1 : (a0 == 1) = false := by simp; omega
      have d2 : (a0 == 2) = false := by simp; omega
      have d3 : (a0 == 3) = false := by simp; omega
      have d4 : (a0 == 4) = false := by simp; omega
      have d5 : (a0 == 5) = false := by simp; omega
      have d6 : (a0 == 6) = false := by simp; omega
      go_wp2
      go_meet
      case rel => exact ⟨by rw [HM.out, if_neg h1, if_neg h2, if_neg h3], rfl⟩
    case rest =>
      obtain ⟨rfl, rfl⟩ := hcut
      clear hM
      obtain ⟨c0, c1, c2⟩ := Q.out
      cases M
      all_goals
        simp only [↓reduceIte, Bool.false_eq_true] at C1 C2 C3 C4
        go_wp2_with fail
        refine (C1.out _).mono ?_
        rintro e w2 ⟨p2, l2, e2, rfl, hb2⟩
        obtain ⟨c0, c1, c2⟩ := Cm.cells3_later hb2 Q.out
        go_wp2_with fail
        refine (C2.out _).mono ?_
        rintro e w3 ⟨p3, l3, e3, rfl, hb3⟩
        have hb3 := step hb2 hb3
        obtain ⟨c0, c1, c2⟩ := Cm.cells3_later hb3 Q.out
        go_wp2_with fail
        refine (C3.out _).mono ?_
        rintro e w4 ⟨p4, l4, e4, rfl, hb4⟩
        have hb4 := step hb3 hb4
        obtain ⟨c0, c1, c2⟩ := Cm.cells3_later hb4 Q.out
        go_wp2_with fail
        refine (C4.out _).mono ?_
        rintro e w5 ⟨p5, l5, e5, rfl, hb5⟩
        have hb5 := step hb4 hb5
        obtain ⟨c0, c1, c2⟩ := Cm.cells3_later hb5 Q.out
        go_wp2_with fail
        refine (C5.out _).mono ?_
        rintro e w6 ⟨rfl, hb6⟩
        go_wp2_with fail
        refine (C0.out _).mono ?_
        rintro e w7 ⟨rfl, hb7⟩
        go_wp2
        go_ret
        exact ⟨rfl, step BW.out (step (step hb5 hb6) hb7)⟩
  · obtain rfl : nm0 = nm := hnm
    go_enter Try.func7, Try.ntmps7
    go_upto_block 0 with (go_at_call 25; refine (CN.out _).mono ?_; rintro e w1 ⟨rfl, hb1⟩; obtain ⟨c0, c1, c2⟩ := Cm.box3 hb1; have f0 := Cm.free3 hb1)
    have hbW : Below w.heap.size w (w1.setCell ⟨w.heap.size, 2, none⟩ (.string (bstr nm0))) := (step (newAlloc _ _) hb1).setCell (Nat.le_refl _) _
    obtain ⟨q0, q1, q2⟩ : (w1.setCell ⟨w.heap.size, 2, none⟩ (.string (bstr nm0))).cell? ⟨w.heap.size, 0, none⟩ = some (.int .i64 a0) ∧ (w1.setCell ⟨w.heap.size, 2, none⟩ (.string (bstr nm0))).cell? ⟨w.heap.size, 1, none⟩ = some (.int .i64 a1) ∧
      (w1.setCell ⟨w.heap.size, 2, none⟩ (.string (bstr nm0))).cell? ⟨w.heap.size, 2, none⟩ = some (.string (bstr nm0)) := by
      refine ⟨?_, ?_, ?_⟩ <;> simp [go_sem, c0, c1, c2]
    generalize w1.setCell ⟨w.heap.size, 2, none⟩ (.string (bstr nm0)) = W at *
    clear c0 c1 c2 f0 hb1
    have BW := Lib.hid hbW
    have Q := Lib.hid (And.intro q0 (And.intro q1 q2))
    have hM := Cm.may_named true a0 a1 nm0 hnn
    have C1 := Lib.hid (fun w => Cm.Put_coded ⟨a0, a1, nm0⟩ w)
    have C2 := Lib.hid (fun w => Cm.PutReq_coded ⟨0, 1, ⟨a0, a1, nm0⟩⟩ w)
    have C3 := Lib.hid (fun w => Cm.PutReq_coded ⟨8, 1, ⟨a0, a1, nm0⟩⟩ w)
    have C4 := Lib.hid (fun w => Cm.PutReq_coded ⟨0, 0, ⟨a0, a1, nm0⟩⟩ w)
    have C5 := Lib.hid (fun w => Cm.May_any ⟨a0, a1, nm0⟩ w)
    have C0 := Lib.hid (fun w => Cm.awake_ok w)
    rw [Cm.mayR_ask 0 1 _ (by omega) (by omega)] at C2
    rw [Cm.mayR_eight] at C3
    rw [Cm.mayR_nought] at C4
    unfold Cm.cmdVal at C1 C5
    unfold Cm.reqVal at C2 C3 C4
    dsimp only at C1 C2 C3 C4 C5
    generalize Cm.mayF ⟨a0, a1, nm0⟩ = M at hM C1 C2 C5
    clear hnn hf hbW q0 q1 q2 CN
    go_cut [10] from 26 to 60 (fun s10 wc => s10 = .bool M ∧ wc = W)
    case first =>
      clear C0 C1 C2 C3 C4 C5 Q BW
      have HM := Lib.hid hM
      clear hM
      by_cases h1 : a0 = 1
      · subst h1
        cases g : (a1 == 0)
        all_goals
          go_wp2
          go_meet
          case rel => exact ⟨by rw [HM.out]; simp [g], rfl⟩
      by_cases h2 : a0 = 2 ∨ a0 = 6
      · rcases h2 with rfl | rfl
        all_goals
          cases g1 : decide (1 ≤ a1) <;> cases g2 : decide (a1 ≤ 2305843009213693952)
          all_goals
            go_wp2
            go_meet
            case rel => exact ⟨by rw [HM.out, g1, g2]; rfl, rfl⟩
      by_cases h3 : a0 = 3 ∨ a0 = 4 ∨ a0 = 5
      · rcases h3 with rfl | rfl | rfl
        all_goals
          cases g1 : decide (1 ≤ a1) <;> cases g2 : decide (a1 ≤ 2305843009213693952)
          all_goals
            go_wp2
            go_meet
            case rel => exact ⟨by rw [HM.out, g1, g2]; rfl, rfl⟩
      have d1 : (a0 == 1) = false := by simp; omega
      have d2 : (a0 == 2) = false := by simp; omega
      have d3 : (a0 == 3) = false := by simp; omega
      have d4 : (a0 == 4) = false := by simp; omega
      have d5 : (a0 == 5) = false := by simp; omega
      have d6 : (a0 == 6) = false := by simp; omega
      go_wp2
      go_meet
      case rel => exact ⟨by rw [HM.out, if_neg h1, if_neg h2, if_neg h3], rfl⟩
    case rest =>
      obtain ⟨rfl, rfl⟩ := hcut
      clear hM
      obtain ⟨c0, c1, c2⟩ := Q.out
      cases M
      all_goals
        simp only [↓reduceIte, Bool.false_eq_true] at C1 C2 C3 C4
        go_wp2_with fail
        refine (C1.out _).mono ?_
        rintro e w2 ⟨p2, l2, e2, rfl, hb2⟩
        obtain ⟨c0, c1, c2⟩ := Cm.cells3_later hb2 Q.out
        go_wp2_with fail
        refine (C2.out _).mono ?_
        rintro e w3 ⟨p3, l3, e3, rfl, hb3⟩
        have hb3 := step hb2 hb3
        obtain ⟨c0, c1, c2⟩ := Cm.cells3_later hb3 Q.out
        go_wp2_with fail
        refine (C3.out _).mono ?_
        rintro e w4 ⟨p4, l4, e4, rfl, hb4⟩
        have hb4 := step hb3 hb4
        obtain ⟨c0, c1, c2⟩ := Cm.cells3_later hb4 Q.out
        go_wp2_with fail
        refine (C4.out _).mono ?_
        rintro e w5 ⟨p5, l5, e5, rfl, hb5⟩
        have hb5 := step hb4 hb5
        obtain ⟨c0, c1, c2⟩ := Cm.cells3_later hb5 Q.out
        go_wp2_with fail
        refine (C5.out _).mono ?_
        rintro e w6 ⟨rfl, hb6⟩
        go_wp2_with fail
        refine (C0.out _).mono ?_
        rintro e w7 ⟨rfl, hb7⟩
        go_wp2
        go_ret
        exact ⟨rfl, step BW.out (step (step hb5 hb6) hb7)⟩

/-! ### THE ROW's STEP -/
set_option maxRecDepth 100000 in
theorem lifted (os : Os) (started : os.Started) (H : Type) (enc : TypeId × Value → H) :
    ReturnsInHanded {} Try.checked os 7 .any (Rows.cmdMaySpec.pre6 enc Try.prog Try.f7 Rows.cmdMayRow.domain false) (Rows.cmdMaySpec.post enc Try.prog Try.f7 false true false false) := by
  refine returnsInHanded_of_change (C := Try.checked) own started (by kernel_rfl) Try.func7
    (ChangeSpec.witness6 (enc := enc) (C := Try.checked) false ⟨#[], #[.int .i64 0, .int .i64 0, .int .u8 0, .bool false], []⟩ 8 (by kernel_rfl) (by kernel_rfl) (by kernel_rfl) (by kernel_rfl)) ?_
  intro W base args ds gs before hval0 hW hcnd _
  have hval : ∀ (j : Nat) t v, Try.f7.params[j]? = some t → args[j]? = some v → Value.okWide Try.prog W .any base t v := hval0
  have hW' := hW
  obtain ⟨p, q, hA0, hV, rfl, hfz, hnd⟩ := hW
  have hA : DataW.TrodAll enc Try.prog W 0 (fun _ => true) true Try.f7.params.toList args.toList ds p := hA0
  rw [Try.params7] at hA hval
  obtain ⟨v0, vs0, d0, ds0, p0, q0, hargs, rfl, rfl, h0, r0⟩ := trodAll_cons hA
  obtain ⟨v1, vs1, d1, ds1, p1, q1, rfl, rfl, rfl, h1, r1⟩ := trodAll_cons r0
  obtain ⟨v2, vs2, d2, ds2, p2, q2, rfl, rfl, rfl, h2, r2⟩ := trodAll_cons r1
  obtain ⟨v3, vs3, d3, ds3, p3, q3, rfl, rfl, rfl, h3, r3⟩ := trodAll_cons r2
  obtain ⟨rfl, rfl, rfl⟩ := trodAll_nil r3
  obtain rfl : args = #[v0, v1, v2, v3] := by cases args; simp_all
  obtain ⟨rfl, rfl⟩ := trodVars_none hV
  obtain ⟨a0, rfl, rfl, rfl, w0⟩ := open_int Try.underlying3 (hval 0 3 v0 rfl rfl) h0
  obtain ⟨a1, rfl, rfl, rfl, w1⟩ := open_int Try.underlying3 (hval 1 3 v1 rfl rfl) h1
  obtain ⟨a2, rfl, rfl, rfl, w2⟩ := open_int Try.underlying5 (hval 2 5 v2 rfl rfl) h2
  obtain ⟨a3, rfl, rfl, rfl⟩ := open_bool Try.underlying4 (hval 3 4 v3 rfl rfl) h3
  clear hA0 hval0
  refine (walk a0 a1 a2 a3 W w0 w1 w2).mono fun e W' ⟨he, bel⟩ => ?_
  subst he
  exact ⟨_, rfl, _, _, _, [], _, [], hW', trodAll_mk1 (shut_bool Try.underlying4 _), (trodAll_cons_mk (shut_int Try.underlying3 w0) (trodAll_cons_mk (shut_int Try.underlying3 w1) (trodAll_cons_mk (shut_int Try.underlying5 w2) (trodAll_cons_mk (shut_bool Try.underlying4 _) trodAll_mk0)))), rfl, bel.frame _, fun h => by cases h⟩

theorem over : Rows.cmdMayRow.holds Try.pinned (OpenSpec.ofChange Rows.cmdMaySpec) :=
  OpenClaim.holds_of_wide 7 Try.f7 rfl rfl rfl rfl rfl rfl rfl ⟨rfl, rfl, rfl, rfl, rfl⟩ rfl rfl rfl rfl rfl (by kernel_rfl) Try.func7 (by kernel_rfl)
    (of_decide_eq_true (by kernel_rfl)) (by unfold Func.isWrapper; first | (rw [if_pos (by decide +kernel)]; kernel_rfl) | (rw [if_neg (by decide +kernel)]; exact ⟨rfl, rfl⟩))
    (fun os started H enc _ => lifted os started H enc)

/-- THE STATEMENT -/
theorem proved : Rows.CmdMaySaid := over
end Go.Proofs.Ytgjeheekemebaaa.cmdMay
