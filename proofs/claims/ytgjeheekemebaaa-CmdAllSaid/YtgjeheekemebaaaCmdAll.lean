/- PROVED: the statement CmdAll of layer 4: for every input that can be read, the law returns true and leaves its arguments as they were. No condition. -/
import Derived.Test.YtgjeheekemebaaaRows
import Derived.Test.YtgjeheekemebaaaLaw4
import Derived.WalkKit
import Derived.ProofKit
import Derived.OpenShut
import Derived.ShutString
import Derived.ChangeOld
import Derived.Below
namespace Go.Proofs.Ytgjeheekemebaaa.cmdAll
open Go.ChangeShapes Go.WideShapes Go.ChangeAt Go.RowKit
open Go.ChangeMaps (open_string shut_string)
open Go.Sort (grow)
set_option linter.unusedVariables false

theorem own : ownKnob Try.prog.godebug = none := by kernel_rfl
theorem laidOut : laidOutB Try.prog = true := by kernel_rfl

/-! ### STEP 1: THE WALK -/
set_option maxRecDepth 100000 in
set_option maxHeartbeats 4000000 in
theorem walk (a0 : Cm.CmdV) (a1 : Option Addr) (len1 cap1 : Nat) (z1 : List Int) (a2 : Int) (a3 : ByteArray) (w : World) (w1 : IsRow .u8 w a1 len1 cap1 z1) (w2 : (Lit.int .i64 a2).wf = true) (w3 : a3.size ≤ maxLen) :
    Calls Try.prog 3 #[Cm.cmdVal a0, .slice a1 len1 cap1, .int .i64 a2, .string a3] w fun e w' => e = .returned (.bool true) ∧ Below w.heap.size w w' := by
  obtain ⟨hr, hrl⟩ := w1.rd
  generalize bytesOf z1 len1 = A at hr hrl
  have ha2 : a2 ≤ 9223372036854775807 := by have := w2; simp [Lit.wf, IntKind.min, IntKind.max, IntKind.signed, IntKind.bits] at this; omega
  obtain ⟨S, rfl⟩ : ∃ S, a3 = bstr S := ⟨a3.data.toList, (bstr_self a3).symm⟩
  have hSs := bstr_size S
  have C0 := Lib.hid (fun w => Cm.awake_ok w)
  clear w1 w2 w3
  have hns := bstr_size a0.name
  by_cases h1 : 300 < a0.name.length
  · obtain ⟨k, s, n⟩ := a0
    unfold Cm.cmdVal
    dsimp only at h1 hns ⊢
    go_enter Try.func3, Try.ntmps3
    go_wp2_with (go_at_call 9; refine (C0.out _).mono ?_; rintro e w1 ⟨rfl, hb1⟩)
    go_ret
    exact ⟨rfl, step (newAlloc _ _) hb1⟩
  by_cases h2 : 400 < len1
  · obtain ⟨k, s, n⟩ := a0
    unfold Cm.cmdVal
    dsimp only at h1 hns ⊢
    go_enter Try.func3, Try.ntmps3
    go_wp2_with (go_at_call 9; refine (C0.out _).mono ?_; rintro e w1 ⟨rfl, hb1⟩)
    go_ret
    exact ⟨rfl, step (newAlloc _ _) hb1⟩
  by_cases h3 : 300 < S.length
  · obtain ⟨k, s, n⟩ := a0
    unfold Cm.cmdVal
    dsimp only at h1 hns ⊢
    go_enter Try.func3, Try.ntmps3
    go_wp2_with (go_at_call 9; refine (C0.out _).mono ?_; rintro e w1 ⟨rfl, hb1⟩)
    go_ret
    exact ⟨rfl, step (newAlloc _ _) hb1⟩
  have C1 := Lib.hid (fun w => (Cm.Put_any a0 w).mono fun e w' h => Cm.Made.s h)
  have C2 := Lib.hid (fun w => (Cm.RefPut_any a0 w).mono fun e w' h => Cm.Made.s h)
  have C3 := Lib.hid (fun (w' : World) (hb : Below w.heap.size w w') => Cm.Get_any _ A a2 w' (hr.later hb) ha2)
  have C4 := Lib.hid (fun (w' : World) (hb : Below w.heap.size w w') => Cm.RefGet_any _ A a2 w' (hr.later hb) ha2)
  have C5 := Lib.hid (fun w => Cm.May_any a0 w)
  have C6 := Lib.hid (fun w => Cm.RefMay_any a0 w)
  have C7 := Lib.hid (fun w => Cm.Name_any S w)
  have C8 := Lib.hid (fun w => Cm.RefName_any S w)
  generalize Cm.putF a0 = P at C1 C2
  generalize Cm.mayF a0 = M at C5 C6
  generalize Cm.nameF S = N at C7 C8
  generalize Cm.getF A a2 = G at C3 C4
  obtain ⟨P, pc⟩ := P
  obtain ⟨⟨gk, gs, gn⟩, gt, gc⟩ := G
  obtain ⟨k, s, n⟩ := a0
  unfold Cm.cmdVal at C1 C2 C5 C6 ⊢
  unfold Cm.GetsC Cm.cmdVal at C3 C4
  dsimp only at C1 C2 C3 C4 C5 C6 h1 hns ⊢
  clear hr ha2
  go_enter Try.func3, Try.ntmps3
  go_wp2_with (first
    | (go_at_call 10; refine (C1.out _).mono ?_; rintro e w1 ⟨p1, l1, d1, rfl, hr1, hb1⟩; have B1 := hb1; obtain ⟨c0, c1, c2⟩ := Cm.box3 B1)
    | (go_at_call 11; refine (C2.out _).mono ?_; rintro e w2 ⟨p2, l2, d2, rfl, hr2, hb2⟩; have B2 := step B1 hb2)
    | (go_at_call 12; refine (C3.out _ (step (newAlloc _ _) B2)).mono ?_; rintro e w3 ⟨rfl, hb3⟩; have B3 := stepAlloc (step B2 hb3) (.cells #[.int .i64 gk, .int .i64 gs, .string (bstr gn)] 23))
    | (go_at_call 13; refine (C4.out _ (step (newAlloc _ _) B3)).mono ?_; rintro e w4 ⟨rfl, hb4⟩; have B4 := stepAlloc (step B3 hb4) (.cells #[.int .i64 gk, .int .i64 gs, .string (bstr gn)] 23)))
  obtain ⟨c0, c1, c2⟩ := Cm.box3 B4
  obtain ⟨x0, x1, x2⟩ := Cm.box3 (stepAlloc hb4 (.cells #[.int .i64 gk, .int .i64 gs, .string (bstr gn)] 23))
  obtain ⟨y0, y1, y2⟩ := Cm.box3 (Below.refl _ (w4.alloc (.cells #[.int .i64 gk, .int .i64 gs, .string (bstr gn)] 23)))
  have r1 := hr1.later (stepAlloc (step (stepAlloc (step hb2 hb3) (.cells #[.int .i64 gk, .int .i64 gs, .string (bstr gn)] 23)) hb4) (.cells #[.int .i64 gk, .int .i64 gs, .string (bstr gn)] 23))
  have r2 := hr2.later (stepAlloc (step (stepAlloc hb3 (.cells #[.int .i64 gk, .int .i64 gs, .string (bstr gn)] 23)) hb4) (.cells #[.int .i64 gk, .int .i64 gs, .string (bstr gn)] 23))
  have BW := Lib.hid (step (newAlloc w _) B4)
  clear hb1 B1 hb2 B2 hb3 B3 hb4 B4 hr1 hr2
  generalize w4.alloc (.cells #[.int .i64 gk, .int .i64 gs, .string (bstr gn)] 23) = W at *
  have k0 := cell_regrown c0
  have k1 := cell_regrown c1
  have k2 := cell_regrown c2
  have k3 := cell_regrown x0
  have k4 := cell_regrown x1
  have k5 := cell_regrown x2
  have k6 := cell_regrown y0
  have k7 := cell_regrown y1
  have k8 := cell_regrown y2
  have v1 := fun d os => conv_rd (grow (redrawn W d) os) (P := Try.prog) Try.underlying24 Try.underlying5 Try.underlying9 _ P (r1.later (below_regrown W d os))
  have v2 := fun d os => conv_rd (grow (redrawn W d) os) (P := Try.prog) Try.underlying24 Try.underlying5 Try.underlying9 _ P (r2.later (below_regrown W d os))
  have D1 := Lib.hid (fun d os => Calls.regrown_of (w := W) (d := d) (os := os) (C5.out _))
  have D2 := Lib.hid (fun d os => Calls.regrown_of (w := W) (d := d) (os := os) (C6.out _))
  have D3 := Lib.hid (fun d os => Calls.regrown_of (w := W) (d := d) (os := os) ((C7.out _).mono fun e w' h => Cm.Says.b h))
  have D4 := Lib.hid (fun d os => Calls.regrown_of (w := W) (d := d) (os := os) ((C8.out _).mono fun e w' h => Cm.Says.b h))
  have D5 := Lib.hid (fun d os => Calls.regrown_of (w := W) (d := d) (os := os) (C0.out _))
  clear c0 c1 c2 x0 x1 x2 y0 y1 y2 r1 r2 C0 C1 C2 C3 C4 C5 C6 C7 C8
  refine wp_region_quiet_below (by kernel_rfl) (by kernel_rfl) ?_
  repeat (go_big_quiet_step (first
    | exact D1.out _ _
    | exact D2.out _ _
    | exact D3.out _ _
    | exact D4.out _ _
    | exact D5.out _ _))
  refine wpQuiet_nil ?_
  intro _ hw'
  obtain ⟨⟨dq, osq⟩, hw''⟩ := hw'
  subst hw''
  go_wp2
  go_ret
  exact ⟨rfl, step BW.out (below_regrown W dq osq)⟩

/-! ### THE ROW's STEP -/
set_option maxRecDepth 100000 in
theorem lifted (os : Os) (started : os.Started) (H : Type) (enc : TypeId × Value → H) :
    ReturnsInHanded {} Try.checked os 3 .any (Rows.cmdAllSpec.pre6 enc Try.prog Try.f3 Rows.cmdAllRow.domain false) (Rows.cmdAllSpec.post enc Try.prog Try.f3 false true false false) := by
  refine returnsInHanded_of_change (C := Try.checked) own started (by kernel_rfl) Try.func3
    (ChangeSpec.witness6 (enc := enc) (C := Try.checked) false ⟨#[], #[.agg #[.int .i64 0, .int .i64 0, .string ByteArray.empty], .slice none 0 0, .int .i64 0, .string ByteArray.empty], []⟩ 8 (by kernel_rfl) (by kernel_rfl) (by kernel_rfl) (by kernel_rfl)) ?_
  intro W base args ds gs before hval0 hW hcnd _
  have hval : ∀ (j : Nat) t v, Try.f3.params[j]? = some t → args[j]? = some v → Value.okWide Try.prog W .any base t v := hval0
  have hW' := hW
  obtain ⟨p, q, hA0, hV, rfl, hfz, hnd⟩ := hW
  have hA : DataW.TrodAll enc Try.prog W 0 (fun _ => true) true Try.f3.params.toList args.toList ds p := hA0
  rw [Try.params3] at hA hval
  obtain ⟨v0, vs0, d0, ds0, p0, q0, hargs, rfl, rfl, h0, r0⟩ := trodAll_cons hA
  obtain ⟨v1, vs1, d1, ds1, p1, q1, rfl, rfl, rfl, h1, r1⟩ := trodAll_cons r0
  obtain ⟨v2, vs2, d2, ds2, p2, q2, rfl, rfl, rfl, h2, r2⟩ := trodAll_cons r1
  obtain ⟨v3, vs3, d3, ds3, p3, q3, rfl, rfl, rfl, h3, r3⟩ := trodAll_cons r2
  obtain ⟨rfl, rfl, rfl⟩ := trodAll_nil r3
  obtain rfl : args = #[v0, v1, v2, v3] := by cases args; simp_all
  obtain ⟨rfl, rfl⟩ := trodVars_none hV
  have k0 := h0
  have lt0 : ∀ x ∈ p0, x.block < W.heap.size := by obtain ⟨m, hm⟩ := k0; exact DataW.trod_lt m _ _ _ hm
  obtain ⟨a0, rfl⟩ := Cm.open_cmd (hval 0 23 v0 rfl rfl) h0
  obtain ⟨a1, len1, cap1, rfl⟩ := okWide_slice Try.underlying24 (hval 1 24 v1 rfl rfl)
  have k1 := h1
  have lt1 : ∀ x ∈ p1, x.block < W.heap.size := by obtain ⟨m, hm⟩ := k1; exact DataW.trod_lt m _ _ _ hm
  obtain ⟨z1, w1⟩ : ∃ zs, IsRow .u8 W a1 len1 cap1 zs := by
    obtain ⟨fuel, hf⟩ := h1
    rcases open_ints Try.underlying24 Try.underlying5 (by kernel_rfl) hf with ⟨hcs, _⟩ | ⟨x, l, c, zs, hcs, _, hl, hm, hz, _, hcell, hwz⟩
    · simp [Value.cells] at hcs
      obtain ⟨rfl, rfl, rfl⟩ := hcs
      exact ⟨[], .inl ⟨rfl, rfl, rfl, rfl⟩⟩
    · simp [Value.cells] at hcs
      obtain ⟨rfl, rfl, rfl⟩ := hcs
      exact ⟨zs, .inr ⟨_, rfl, hl, hm, by simpa using hz, hcell, hwz⟩⟩
  obtain ⟨a2, rfl, rfl, rfl, w2⟩ := open_int Try.underlying3 (hval 2 3 v2 rfl rfl) h2
  obtain ⟨a3, rfl, rfl, rfl, w3⟩ := open_string Try.underlying9 (hval 3 9 v3 rfl rfl) h3
  clear hA0 hval0
  refine (walk a0 a1 len1 cap1 z1 a2 a3 W w1 w2 w3).mono fun e W' ⟨he, bel⟩ => ?_
  subst he
  exact ⟨_, rfl, _, _, _, [], _, [], hW', trodAll_mk1 (shut_bool Try.underlying4 _), (trodAll_cons_mk (Below.trod laidOut (by kernel_rfl) (of_decide_eq_true (by kernel_rfl)) k0 bel lt0) (trodAll_cons_mk (Below.trod laidOut (by kernel_rfl) (of_decide_eq_true (by kernel_rfl)) k1 bel lt1) (trodAll_cons_mk (shut_int Try.underlying3 w2) (trodAll_cons_mk (shut_string Try.underlying9 w3) trodAll_mk0)))), rfl, bel.frame _, fun h => by cases h⟩

theorem over : Rows.cmdAllRow.holds Try.pinned (OpenSpec.ofChange Rows.cmdAllSpec) :=
  OpenClaim.holds_of_wide 3 Try.f3 rfl rfl rfl rfl rfl rfl rfl ⟨rfl, rfl, rfl, rfl, rfl⟩ rfl rfl rfl rfl rfl (by kernel_rfl) Try.func3 (by kernel_rfl)
    (of_decide_eq_true (by kernel_rfl)) (by unfold Func.isWrapper; first | (rw [if_pos (by decide +kernel)]; kernel_rfl) | (rw [if_neg (by decide +kernel)]; exact ⟨rfl, rfl⟩))
    (fun os started H enc _ => lifted os started H enc)

/-- THE STATEMENT -/
theorem proved : Rows.CmdAllSaid := over
end Go.Proofs.Ytgjeheekemebaaa.cmdAll
