/- PROVED: the statement ReplyAnswers of layer 5: for every input that can be read, the law returns true and leaves its arguments as they were. No condition. -/
import Derived.Test.YtklnopgnlnfbnaaRows
import Derived.Test.YtklnopgnlnfbnaaLaw5
import Derived.WalkKit
import Derived.ProofKit
import Derived.OpenShut
import Derived.ShutString
import Derived.ChangeOld
import Derived.Below
import Derived.Deep.Cut
import Derived.Deep.CutBlock
import Derived.Deep.DeepCutAuto
namespace Go.Proofs.Ytklnopgnlnfbnaa.replyAnswers
open Go.ChangeShapes Go.WideShapes Go.ChangeAt Go.RowKit
open Go.ChangeMaps (open_string shut_string)
open Go.Sort (grow)
set_option linter.unusedVariables false

theorem own : ownKnob Try.prog.godebug = none := by kernel_rfl
theorem laidOut : laidOutB Try.prog = true := by kernel_rfl

/-! ### STEP 1: THE WALK -/
set_option maxRecDepth 100000 in
set_option maxHeartbeats 4000000 in
theorem walk (a0 : Cm.AnsV × Value) (a1 : Option Addr) (len1 cap1 : Nat) (z1 : List Int) (a2 : Int) (w : World) (w0 : Cm.ansOk w a0) (w1 : IsRow .u8 w a1 len1 cap1 z1) (w2 : (Lit.int .i64 a2).wf = true) :
    Calls Try.prog 4 #[Cm.ansA a0, .slice a1 len1 cap1, .int .i64 a2] w fun e w' => e = .returned (.bool true) ∧ Below w.heap.size w w' := by
  obtain ⟨hr, hrl⟩ := w1.rd
  generalize bytesOf z1 len1 = A at hr hrl
  have ha2 : a2 ≤ 9223372036854775807 := by have := w2; simp [Lit.wf, IntKind.min, IntKind.max, IntKind.signed, IntKind.bits] at this; omega
  have C0 := Lib.hid (fun w => Cm.awake_ok w)
  clear w1 w2
  obtain ⟨r, v⟩ := a0
  unfold Cm.ansOk at w0
  unfold Cm.ansA
  dsimp only at w0 ⊢
  have CG := Lib.hid (fun (w' : World) (hb : Below w.heap.size w w') => Cm.great_any r.rep v w' (w0.later hb))
  cases hg : Cm.greatF r.rep.held
  case true =>
    have HG := Lib.hid hg
    obtain ⟨c, q, k, s, d, l⟩ := r
    unfold Cm.ansVal
    unfold Cm.repVal at CG
    dsimp only at CG HG ⊢
    clear hg
    go_enter Try.func4, Try.ntmps4
    go_wp2_with (first
      | (go_at_call 8; refine (CG.out _ (newAlloc _ _)).mono ?_; rw [HG.out]; rintro e w1 ⟨rfl, hb1⟩)
      | (go_at_call 9; refine (C0.out _).mono ?_; rintro e w2 ⟨rfl, hb2⟩))
    go_ret
    exact ⟨rfl, step (step (newAlloc _ _) hb1) hb2⟩
  have HG := Lib.hid hg
  clear hg
  by_cases h2 : 400 < len1
  · obtain ⟨c, q, k, s, d, l⟩ := r
    unfold Cm.ansVal
    unfold Cm.repVal at CG
    dsimp only at CG HG ⊢
    go_enter Try.func4, Try.ntmps4
    go_wp2_with (first
      | (go_at_call 8; refine (CG.out _ (newAlloc _ _)).mono ?_; rw [HG.out]; rintro e w1 ⟨rfl, hb1⟩)
      | (go_at_call 9; refine (C0.out _).mono ?_; rintro e w2 ⟨rfl, hb2⟩))
    go_ret
    exact ⟨rfl, step (step (newAlloc _ _) hb1) hb2⟩
  have C1 := Lib.hid (fun (w' : World) (hb : Below w.heap.size w w') => (Cm.RepPutAnswer_any r v w' (w0.later hb)).mono fun e w' h => Cm.Made.s h)
  have C2 := Lib.hid (fun (w' : World) (hb : Below w.heap.size w w') => (Cm.PutAnswer_any r v w' (w0.later hb)).mono fun e w' h => Cm.Made.s h)
  have C3 := Lib.hid (fun (w' : World) (hb : Below w.heap.size w w') => (Cm.RepGetAnswer_any _ A a2 w' (hr.later hb) ha2).mono fun e w' h => Cm.GetsA.s h)
  have C4 := Lib.hid (fun (w' : World) (hb : Below w.heap.size w w') => (Cm.GetAnswer_any _ A a2 w' (hr.later hb) ha2).mono fun e w' h => Cm.GetsA.s h)
  have C5 := Lib.hid (fun (w' : World) (hb : Below w.heap.size w w') => Cm.RepMayAnswer_any r v w' (w0.later hb))
  have C6 := Lib.hid (fun (w' : World) (hb : Below w.heap.size w w') => Cm.RefMayAnswer_any r v w' (w0.later hb))
  have C9 := Lib.hid (fun u1 u2 (w' : World) (h1 : Cm.RdH w' u1 (Cm.getA A a2).1.rep.held) (h2 : Cm.RdH w' u2 (Cm.getA A a2).1.rep.held) => Cm.SameAnswer_any (Cm.getA A a2).1 (Cm.getA A a2).1 u1 u2 w' h1 h2)
  have hsame : Cm.sameA (Cm.getA A a2).1 (Cm.getA A a2).1 = true := (Cm.sameA_iff _ _).2 rfl
  rw [hsame] at C9
  clear hsame
  generalize Cm.putA r = P at C1 C2
  generalize Cm.mayA r = M at C5 C6
  generalize Cm.getA A a2 = G at C3 C4 C9
  obtain ⟨P, pc⟩ := P
  obtain ⟨⟨ga, gq, gk, gs, gd, gl⟩, gt, gc⟩ := G
  obtain ⟨c, q, k, s, d, l⟩ := r
  unfold Cm.ansVal at C1 C2 C5 C6 C9 ⊢
  unfold Cm.repVal at CG
  unfold Cm.GetsAS Cm.ansVal at C3 C4
  dsimp only at C1 C2 C3 C4 C5 C6 C9 CG HG ⊢
  clear hr ha2 w0
  go_enter Try.func4, Try.ntmps4
  go_wp2_with (first
    | (go_at_call 8; refine (CG.out _ (newAlloc _ _)).mono ?_; rw [HG.out]; rintro e w0 ⟨rfl, hb0⟩; have B0 := step (newAlloc w _) hb0; obtain ⟨c0, c1, c2, c3, c4, c5⟩ := Cm.box6 hb0)
    | (go_at_call 19; refine (C1.out _ B0).mono ?_; rintro e w1 ⟨p1, l1, d1, rfl, hr1, hb1⟩; have B1 := step B0 hb1; have hb01 := step hb0 hb1; obtain ⟨c0, c1, c2, c3, c4, c5⟩ := Cm.box6 hb01)
    | (go_at_call 20; refine (C2.out _ B1).mono ?_; rintro e w2 ⟨p2, l2, d2, rfl, hr2, hb2⟩; have B2 := step B1 hb2; have hb02 := step hb01 hb2)
    | (go_at_call 21; refine (C3.out _ B2).mono ?_; rintro e w3 ⟨g3, q3, rfl, hd3, hb3⟩; have B3 := stepAlloc (step B2 hb3) (.cells #[.int .i64 ga, .int .i64 gq, .int .i64 gk, .int .i64 gs, .int .i64 gd, .slice g3 gl.length q3] 37); have hb03 := stepAlloc (step hb02 hb3) (.cells #[.int .i64 ga, .int .i64 gq, .int .i64 gk, .int .i64 gs, .int .i64 gd, .slice g3 gl.length q3] 37))
    | (go_at_call 22; refine (C4.out _ B3).mono ?_; rintro e w4 ⟨g4, q4, rfl, hd4, hb4⟩; have B4 := stepAlloc (step B3 hb4) (.cells #[.int .i64 ga, .int .i64 gq, .int .i64 gk, .int .i64 gs, .int .i64 gd, .slice g4 gl.length q4] 37); have hb04 := stepAlloc (step hb03 hb4) (.cells #[.int .i64 ga, .int .i64 gq, .int .i64 gk, .int .i64 gs, .int .i64 gd, .slice g4 gl.length q4] 37)))
  obtain ⟨c0, c1, c2, c3, c4, c5⟩ := Cm.box6 hb04
  obtain ⟨x0, x1, x2, x3, x4, x5⟩ := Cm.box6 (stepAlloc hb4 (.cells #[.int .i64 ga, .int .i64 gq, .int .i64 gk, .int .i64 gs, .int .i64 gd, .slice g4 gl.length q4] 37))
  obtain ⟨y0, y1, y2, y3, y4, y5⟩ := Cm.box6 (Below.refl _ (w4.alloc (.cells #[.int .i64 ga, .int .i64 gq, .int .i64 gk, .int .i64 gs, .int .i64 gd, .slice g4 gl.length q4] 37)))
  have r1 := hr1.later (stepAlloc (step (stepAlloc (step hb2 hb3) (.cells #[.int .i64 ga, .int .i64 gq, .int .i64 gk, .int .i64 gs, .int .i64 gd, .slice g3 gl.length q3] 37)) hb4) (.cells #[.int .i64 ga, .int .i64 gq, .int .i64 gk, .int .i64 gs, .int .i64 gd, .slice g4 gl.length q4] 37))
  have r2 := hr2.later (stepAlloc (step (stepAlloc hb3 (.cells #[.int .i64 ga, .int .i64 gq, .int .i64 gk, .int .i64 gs, .int .i64 gd, .slice g3 gl.length q3] 37)) hb4) (.cells #[.int .i64 ga, .int .i64 gq, .int .i64 gk, .int .i64 gs, .int .i64 gd, .slice g4 gl.length q4] 37))
  have s3 := hd3.later (stepAlloc (step (newAlloc w3 (.cells #[.int .i64 ga, .int .i64 gq, .int .i64 gk, .int .i64 gs, .int .i64 gd, .slice g3 gl.length q3] 37)) hb4) (.cells #[.int .i64 ga, .int .i64 gq, .int .i64 gk, .int .i64 gs, .int .i64 gd, .slice g4 gl.length q4] 37))
  have s4 := hd4.later (newAlloc w4 (.cells #[.int .i64 ga, .int .i64 gq, .int .i64 gk, .int .i64 gs, .int .i64 gd, .slice g4 gl.length q4] 37))
  have BW := Lib.hid B4
  clear hb0 B0 hb1 B1 hb2 B2 hb3 B3 hb4 B4 hr1 hr2 hd3 hd4 hb01 hb02 hb03 hb04
  generalize w4.alloc (.cells #[.int .i64 ga, .int .i64 gq, .int .i64 gk, .int .i64 gs, .int .i64 gd, .slice g4 gl.length q4] 37) = W at *
  have k0 := cell_regrown c0
  have k1 := cell_regrown c1
  have k2 := cell_regrown c2
  have k3 := cell_regrown c3
  have k4 := cell_regrown c4
  have k5 := cell_regrown c5
  have k6 := cell_regrown x0
  have k7 := cell_regrown x1
  have k8 := cell_regrown x2
  have k9 := cell_regrown x3
  have k10 := cell_regrown x4
  have k11 := cell_regrown x5
  have k12 := cell_regrown y0
  have k13 := cell_regrown y1
  have k14 := cell_regrown y2
  have k15 := cell_regrown y3
  have k16 := cell_regrown y4
  have k17 := cell_regrown y5
  have v1 := fun d os => conv_rd (grow (redrawn W d) os) (P := Try.prog) Try.underlying26 Try.underlying5 Try.underlying9 _ P (r1.later (below_regrown W d os))
  have v2 := fun d os => conv_rd (grow (redrawn W d) os) (P := Try.prog) Try.underlying26 Try.underlying5 Try.underlying9 _ P (r2.later (below_regrown W d os))
  have D1 := Lib.hid (fun d os => Calls.regrown_of (w := W) (d := d) (os := os) (C5.out _ (step BW.out (below_regrown W d os))))
  have D2 := Lib.hid (fun d os => Calls.regrown_of (w := W) (d := d) (os := os) (C6.out _ (step BW.out (below_regrown W d os))))
  have D5 := Lib.hid (fun d os => Calls.regrown_of (w := W) (d := d) (os := os) (C0.out _))
  have D6 := Lib.hid (fun d os => Calls.regrown_of (w := W) (d := d) (os := os) (C9.out _ _ _ (s3.later (below_regrown W d os)) (s4.later (below_regrown W d os))))
  clear c0 c1 c2 c3 c4 c5 x0 x1 x2 x3 x4 x5 y0 y1 y2 y3 y4 y5 r1 r2 s3 s4 C0 C1 C2 C3 C4 C5 C6 C9 CG
  refine wp_region_quiet_below (by kernel_rfl) (by kernel_rfl) ?_
  repeat (go_big_quiet_step (first
    | exact D1.out _ _
    | exact D2.out _ _
    | exact D6.out _ _
    | exact D5.out _ _))
  refine wpQuiet_nil ?_
  intro _ hw'
  obtain ⟨⟨dq, osq⟩, hw''⟩ := hw'
  subst hw''
  go_wp2
  go_ret
  exact ⟨rfl, step BW.out (below_regrown W dq osq)⟩

/-! ### THE ROW's STEP -/
set_option maxRecDepth 100000 in
theorem lifted (os : Os) (started : os.Started) (H : Type) (enc : TypeId × Value → H) :
    ReturnsInHanded {} Try.checked os 4 .any (Rows.replyAnswersSpec.pre6 enc Try.prog Try.f4 Rows.replyAnswersRow.domain false) (Rows.replyAnswersSpec.post enc Try.prog Try.f4 false true false false) := by
  refine returnsInHanded_of_change (C := Try.checked) own started (by kernel_rfl) Try.func4
    (ChangeSpec.witness6 (enc := enc) (C := Try.checked) false ⟨#[], #[.agg #[.int .i64 0, .int .i64 0, .int .i64 0, .int .i64 0, .int .i64 0, .slice none 0 0], .slice none 0 0, .int .i64 0], []⟩ 8 (by kernel_rfl) (by kernel_rfl) (by kernel_rfl) (by kernel_rfl)) ?_
  intro W base args ds gs before hval0 hW hcnd _
  have hval : ∀ (j : Nat) t v, Try.f4.params[j]? = some t → args[j]? = some v → Value.okWide Try.prog W .any base t v := hval0
  have hW' := hW
  obtain ⟨p, q, hA0, hV, rfl, hfz, hnd⟩ := hW
  have hA : DataW.TrodAll enc Try.prog W 0 (fun _ => true) true Try.f4.params.toList args.toList ds p := hA0
  rw [Try.params4] at hA hval
  obtain ⟨v0, vs0, d0, ds0, p0, q0, hargs, rfl, rfl, h0, r0⟩ := trodAll_cons hA
  obtain ⟨v1, vs1, d1, ds1, p1, q1, rfl, rfl, rfl, h1, r1⟩ := trodAll_cons r0
  obtain ⟨v2, vs2, d2, ds2, p2, q2, rfl, rfl, rfl, h2, r2⟩ := trodAll_cons r1
  obtain ⟨rfl, rfl, rfl⟩ := trodAll_nil r2
  obtain rfl : args = #[v0, v1, v2] := by cases args; simp_all
  obtain ⟨rfl, rfl⟩ := trodVars_none hV
  have k0 := h0
  have lt0 : ∀ x ∈ p0, x.block < W.heap.size := by obtain ⟨m, hm⟩ := k0; exact DataW.trod_lt m _ _ _ hm
  obtain ⟨a0, rfl, w0⟩ := Cm.open_ans (hval 0 37 v0 rfl rfl) h0
  obtain ⟨a1, len1, cap1, rfl⟩ := okWide_slice Try.underlying26 (hval 1 26 v1 rfl rfl)
  have k1 := h1
  have lt1 : ∀ x ∈ p1, x.block < W.heap.size := by obtain ⟨m, hm⟩ := k1; exact DataW.trod_lt m _ _ _ hm
  obtain ⟨z1, w1⟩ : ∃ zs, IsRow .u8 W a1 len1 cap1 zs := by
    obtain ⟨fuel, hf⟩ := h1
    rcases open_ints Try.underlying26 Try.underlying5 (by kernel_rfl) hf with ⟨hcs, _⟩ | ⟨x, l, c, zs, hcs, _, hl, hm, hz, _, hcell, hwz⟩
    · simp [Value.cells] at hcs
      obtain ⟨rfl, rfl, rfl⟩ := hcs
      exact ⟨[], .inl ⟨rfl, rfl, rfl, rfl⟩⟩
    · simp [Value.cells] at hcs
      obtain ⟨rfl, rfl, rfl⟩ := hcs
      exact ⟨zs, .inr ⟨_, rfl, hl, hm, by simpa using hz, hcell, hwz⟩⟩
  obtain ⟨a2, rfl, rfl, rfl, w2⟩ := open_int Try.underlying3 (hval 2 3 v2 rfl rfl) h2
  clear hA0 hval0
  refine (walk a0 a1 len1 cap1 z1 a2 W w0 w1 w2).mono fun e W' ⟨he, bel⟩ => ?_
  subst he
  exact ⟨_, rfl, _, _, _, [], _, [], hW', trodAll_mk1 (shut_bool Try.underlying4 _), (trodAll_cons_mk (Below.trod laidOut (by kernel_rfl) (of_decide_eq_true (by kernel_rfl)) k0 bel lt0) (trodAll_cons_mk (Below.trod laidOut (by kernel_rfl) (of_decide_eq_true (by kernel_rfl)) k1 bel lt1) (trodAll_cons_mk (shut_int Try.underlying3 w2) trodAll_mk0))), rfl, bel.frame _, fun h => by cases h⟩

theorem over : Rows.replyAnswersRow.holds Try.pinned (OpenSpec.ofChange Rows.replyAnswersSpec) :=
  OpenClaim.holds_of_wide 4 Try.f4 rfl rfl rfl rfl rfl rfl rfl ⟨rfl, rfl, rfl, rfl, rfl⟩ rfl rfl rfl rfl rfl (by kernel_rfl) Try.func4 (by kernel_rfl)
    (of_decide_eq_true (by kernel_rfl)) (by unfold Func.isWrapper; first | (rw [if_pos (by decide +kernel)]; kernel_rfl) | (rw [if_neg (by decide +kernel)]; exact ⟨rfl, rfl⟩))
    (fun os started H enc _ => lifted os started H enc)

/-- THE STATEMENT -/
theorem proved : Rows.ReplyAnswersSaid := over
end Go.Proofs.Ytklnopgnlnfbnaa.replyAnswers
