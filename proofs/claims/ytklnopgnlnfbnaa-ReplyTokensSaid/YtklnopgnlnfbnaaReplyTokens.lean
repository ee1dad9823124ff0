/- PROVED: the statement ReplyTokens of layer 5: for every input that can be read, the law returns true and leaves its arguments as they were. No condition. -/
import Derived.Test.YtklnopgnlnfbnaaRows
import Derived.Test.YtklnopgnlnfbnaaLaw5B
import Derived.WalkKit
import Derived.ProofKit
import Derived.OpenShut
import Derived.ShutString
import Derived.ChangeOld
import Derived.Below
import Derived.Deep.Cut
import Derived.Deep.CutBlock
import Derived.Deep.DeepCutAuto
namespace Go.Proofs.Ytklnopgnlnfbnaa.replyTokens
open Go.ChangeShapes Go.WideShapes Go.ChangeAt Go.RowKit
open Go.ChangeMaps (open_string shut_string)
open Go.Sort (grow)
set_option linter.unusedVariables false

theorem own : ownKnob Try.prog.godebug = none := by kernel_rfl
theorem laidOut : laidOutB Try.prog = true := by kernel_rfl

/-! ### STEP 1: THE WALK -/
set_option maxRecDepth 100000 in
set_option maxHeartbeats 4000000 in
theorem walk (a0 : Option Addr) (len0 cap0 : Nat) (z0 : List Int) (a1 : Int) (w : World) (w0 : IsRow .u8 w a0 len0 cap0 z0) (w1 : (Lit.int .u8 a1).wf = true) :
    Calls Try.prog 7 #[.slice a0 len0 cap0, .int .u8 a1] w fun e w' => e = .returned (.bool true) ∧ Below w.heap.size w w' := by
  obtain ⟨hr, hrl⟩ := w0.rd
  generalize bytesOf z0 len0 = A at hr hrl
  obtain ⟨n, rfl⟩ : ∃ n : Nat, a1 = (n : Int) := Int.eq_ofNat_of_zero_le (by have := w1; simp [Lit.wf, IntKind.min, IntKind.max, IntKind.signed, IntKind.bits] at this; omega)
  have hn : n < 256 := by have := w1; simp [Lit.wf, IntKind.min, IntKind.max, IntKind.signed, IntKind.bits] at this; omega
  clear w0 w1
  have C0 := Lib.hid (fun w => Cm.awake_ok w)
  have CN := Lib.hid (fun w => Cm.Named_any n w hn)
  generalize Cm.namedF (n % 6) = nm at CN
  have CR := Lib.hid ((Cm.Reply_any _ A w hr).mono fun e w' h => Cm.MadeP.s h)
  clear hr
  go_enter Try.func7, Try.ntmps7
  go_upto_region 2 with (go_at_call 26; refine CR.out.mono ?_; rintro e w1 ⟨k, s, d, l, a, p, rfl, hm, hd, hb1⟩)
  have QW := Lib.hid (Cm.box4 (Below.refl _ (w1.alloc (.cells #[.int .i64 k, .int .i64 s, .int .i64 d, .slice a l.length p] 25))))
  have HD := Lib.hid (hd.later (newAlloc w1 (.cells #[.int .i64 k, .int .i64 s, .int .i64 d, .slice a l.length p] 25)))
  have HBW := Lib.hid (stepAlloc hb1 (.cells #[.int .i64 k, .int .i64 s, .int .i64 d, .slice a l.length p] 25))
  generalize w1.alloc (.cells #[.int .i64 k, .int .i64 s, .int .i64 d, .slice a l.length p] 25) = W at QW HD HBW ⊢
  generalize w1.heap.size = B at QW ⊢
  have hml := HD.out.len
  have hok := Cm.mayP_held hm
  have HT := Lib.hid (Cm.tokenF_at l none hok)
  have HN := Lib.hid (Cm.tokenF_none [110, 111, 32, 111, 110, 101] l (fun g hg e => by have := Cm.heldOk_names l none hok g hg; rw [e] at this; exact absurd this (by decide +kernel)))
  have HDR := Lib.hid (Cm.tokenF_drop l nm)
  have HTK := Lib.hid (fun x (w' : World) (hb : Below W.heap.size W w') => Cm.RepToken_any ⟨k, s, d, l⟩ _ x w' (HD.out.later hb))
  unfold Cm.repVal at HTK
  dsimp only at HTK
  clear hm hd hb1 hok CR
  obtain ⟨L, hL⟩ : ∃ L, l.length = L := ⟨_, rfl⟩
  have HL := Lib.hid hL
  rw [hL] at hml QW HD HTK ⊢
  have hw1 : IntKind.i64.wrap ((L : Int) - 1) = (L : Int) - 1 := by rw [IntKind.wrap_i64]; omega
  obtain ⟨c0, c1, c2, c3⟩ := QW.out
  go_wp2_with fail
  clear c0 c1 c2 c3
  go_loopw [6, 7] (fun z i wr => ∃ (j : Nat) (I : Int), j ≤ L ∧ i = .int .i64 I ∧ Hid (I = (j : Int) - 1) ∧ z = .int .i64 (Cm.tokenF (l.drop j) nm) ∧ Hid (Below W.heap.size W wr)) (fun _ i _ => (intOf i + 1).toNat)
  case atStart => exact ⟨L, (L : Int) - 1, by omega, by first | rfl | rw [hw1], Lib.hid rfl, by rw [← HL.out, List.drop_length]; rfl, Lib.hid (Below.refl _ _)⟩
  case round =>
    obtain ⟨j, I, hj, rfl, hI, rfl, HB⟩ := hrel
    obtain ⟨c0, c1, c2, c3⟩ := Cm.cells4_later HB.out QW.out
    cases j with
    | zero =>
      have dI : decide (0 ≤ I) = false := by have := hI.out; simp; omega
      rw [List.drop_zero]
      have k0 := cell_regrown c0
      have k1 := cell_regrown c1
      have k2 := cell_regrown c2
      have k3 := cell_regrown c3
      have D1 := Lib.hid (fun d os => Calls.regrown_of (w := wr) (d := d) (os := os) (CN.out _))
      have D2 := Lib.hid (fun d os => Calls.regrown_of (w := wr) (d := d) (os := os) (HTK.out nm _ (step HB.out (below_regrown wr d os))))
      have D3 := Lib.hid (fun d os => Calls.regrown_of (w := wr) (d := d) (os := os) (HTK.out [110, 111, 32, 111, 110, 101] _ (step HB.out (below_regrown wr d os))))
      rw [HN.out] at D3
      have D4 := Lib.hid (fun d os => Calls.regrown_of (w := wr) (d := d) (os := os) (C0.out _))
      generalize Cm.tokenF l nm = tk at D2 ⊢
      clear c0 c1 c2 c3 C0 CN HTK HT HN HDR
      go_upto_region 10 with fail
      refine wp_region_quiet_below (by kernel_rfl) (by kernel_rfl) ?_
      repeat (go_big_quiet_step (exact D1.out _ _))
      go_big_quiet_step (exact D2.out _ _)
      repeat (go_big_quiet_step (fail))
      go_big_quiet_step (exact D3.out _ _)
      repeat (go_big_quiet_step (exact D4.out _ _))
      refine wpQuiet_nil ?_
      intro _ hw'
      obtain ⟨⟨dq, osq⟩, hw''⟩ := hw'
      subst hw''
      go_wp2
      go_ret
      exact ⟨rfl, step HBW.out (step HB.out (below_regrown wr dq osq))⟩
    | succ q =>
      have hq : q < l.length := by have := HL.out; omega
      obtain rfl : I = (q : Int) := by have := hI.out; omega
      have dI : decide ((0 : Int) ≤ (q : Int)) = true := by simp
      have e2 : (0 : Int) ≤ (q : Int) := by omega
      have e3 : (q : Int) < (L : Int) := by omega
      have hw2 : IntKind.i64.wrap ((q : Int) - 1) = (q : Int) - 1 := by rw [IntKind.wrap_i64]; omega
      obtain ⟨b, o, rfl, -, -⟩ := HD.out.at q hq _ (Below.refl _ _)
      have HC : Hid (∀ w', Below W.heap.size W w' → w'.cell? ⟨B, 3, none⟩ = some (.slice (some ⟨b, o, none⟩) L p) ∧ w'.cell? ⟨b, o + q * 2, none⟩ = some (.string (bstr l[q].name)) ∧ w'.cell? ⟨b, o + q * 2 + 1, none⟩ = some (.int .i64 l[q].token)) := fun w' hb => by
        obtain ⟨b', o', e, p1, p2⟩ := HD.out.at q hq _ hb
        cases e
        exact ⟨(Cm.cells4_later hb QW.out).2.2.2, p1, p2⟩
      have hT := HT.out q hq
      have hDR := HDR.out q hq
      generalize l[q] = g at HC hT hDR
      obtain ⟨gn, gt⟩ := g
      dsimp only at HC hT hDR
      have D1 := Lib.hid (fun d os => Calls.regrown_of (w := wr) (d := d) (os := os) (HTK.out gn _ (step HB.out (below_regrown wr d os))))
      rw [hT] at D1
      have HDR1 := Lib.hid hDR
      clear hT hDR HTK HT HN HDR
      have k0 := cell_regrown c0
      have k1 := cell_regrown c1
      have k2 := cell_regrown c2
      obtain ⟨-, q1, q2⟩ := HC.out _ HB.out
      have k3 := cell_regrown c3
      have k4 := cell_regrown q1
      have k5 := cell_regrown q2
      clear c0 c1 c2 c3 q1 q2
      go_upto_region 6 with fail
      refine wp_region_quiet_below (by kernel_rfl) (by kernel_rfl) ?_
      repeat (go_big_quiet_step (first
        | exact D1.out _ _))
      refine wpQuiet_nil ?_
      intro _ hw'
      obtain ⟨⟨dq, osq⟩, hw''⟩ := hw'
      subst hw''
      clear k0 k1 k2 k3 k4 k5 D1
      have HB3 := Lib.hid (step HB.out (below_regrown wr dq osq))
      generalize grow (redrawn wr dq) osq = w3 at HB3 ⊢
      obtain ⟨c3, q1, q2⟩ := HC.out _ HB3.out
      have k3 := cell_regrown c3
      have k4 := cell_regrown q1
      have k5 := cell_regrown q2
      clear c3 q1 q2
      have D2 := Lib.hid (fun d os => Calls.regrown_of (w := w3) (d := d) (os := os) (CN.out _))
      have hE := Cm.str_eq gn nm
      go_upto_region 8 with fail
      by_cases hq2 : gn = nm
      · rw [if_pos hq2] at HDR1
        rw [decide_eq_true hq2] at hE
        clear hq2
        refine wp_region_quiet_below (by kernel_rfl) (by kernel_rfl) ?_
        repeat (go_big_quiet_step (first
          | exact D2.out _ _))
        refine wpQuiet_nil ?_
        intro _ hw'
        obtain ⟨⟨dq, osq⟩, hw''⟩ := hw'
        subst hw''
        clear k3 k4 k5
        have HB4 := Lib.hid (step HB3.out (below_regrown w3 dq osq))
        generalize grow (redrawn w3 dq) osq = w4 at HB4 ⊢
        obtain ⟨c3, q1, q2⟩ := HC.out _ HB4.out
        go_wp2
        go_roundw
        case rel => exact ⟨q, (q : Int) - 1, by omega, by first | rfl | rw [hw2], Lib.hid rfl, by rw [HDR1.out], HB4⟩
        case measure => simp [intOf]
      · rw [if_neg hq2] at HDR1
        rw [decide_eq_false hq2] at hE
        clear hq2
        refine wp_region_quiet_below (by kernel_rfl) (by kernel_rfl) ?_
        repeat (go_big_quiet_step (first
          | exact D2.out _ _))
        refine wpQuiet_nil ?_
        intro _ hw'
        obtain ⟨⟨dq, osq⟩, hw''⟩ := hw'
        subst hw''
        clear k3 k4 k5
        have HB4 := Lib.hid (step HB3.out (below_regrown w3 dq osq))
        generalize grow (redrawn w3 dq) osq = w4 at HB4 ⊢
        go_wp2
        go_roundw
        case rel => exact ⟨q, (q : Int) - 1, by omega, by first | rfl | rw [hw2], Lib.hid rfl, by rw [HDR1.out], HB4⟩
        case measure => simp [intOf]

/-! ### THE ROW's STEP -/
set_option maxRecDepth 100000 in
theorem lifted (os : Os) (started : os.Started) (H : Type) (enc : TypeId × Value → H) :
    ReturnsInHanded {} Try.checked os 7 .any (Rows.replyTokensSpec.pre6 enc Try.prog Try.f7 Rows.replyTokensRow.domain false) (Rows.replyTokensSpec.post enc Try.prog Try.f7 false true false false) := by
  refine returnsInHanded_of_change (C := Try.checked) own started (by kernel_rfl) Try.func7
    (ChangeSpec.witness6 (enc := enc) (C := Try.checked) false ⟨#[], #[.slice none 0 0, .int .u8 0], []⟩ 8 (by kernel_rfl) (by kernel_rfl) (by kernel_rfl) (by kernel_rfl)) ?_
  intro W base args ds gs before hval0 hW hcnd _
  have hval : ∀ (j : Nat) t v, Try.f7.params[j]? = some t → args[j]? = some v → Value.okWide Try.prog W .any base t v := hval0
  have hW' := hW
  obtain ⟨p, q, hA0, hV, rfl, hfz, hnd⟩ := hW
  have hA : DataW.TrodAll enc Try.prog W 0 (fun _ => true) true Try.f7.params.toList args.toList ds p := hA0
  rw [Try.params7] at hA hval
  obtain ⟨v0, vs0, d0, ds0, p0, q0, hargs, rfl, rfl, h0, r0⟩ := trodAll_cons hA
  obtain ⟨v1, vs1, d1, ds1, p1, q1, rfl, rfl, rfl, h1, r1⟩ := trodAll_cons r0
  obtain ⟨rfl, rfl, rfl⟩ := trodAll_nil r1
  obtain rfl : args = #[v0, v1] := by cases args; simp_all
  obtain ⟨rfl, rfl⟩ := trodVars_none hV
  obtain ⟨a0, len0, cap0, rfl⟩ := okWide_slice Try.underlying26 (hval 0 26 v0 rfl rfl)
  have k0 := h0
  have lt0 : ∀ x ∈ p0, x.block < W.heap.size := by obtain ⟨m, hm⟩ := k0; exact DataW.trod_lt m _ _ _ hm
  obtain ⟨z0, w0⟩ : ∃ zs, IsRow .u8 W a0 len0 cap0 zs := by
    obtain ⟨fuel, hf⟩ := h0
    rcases open_ints Try.underlying26 Try.underlying5 (by kernel_rfl) hf with ⟨hcs, _⟩ | ⟨x, l, c, zs, hcs, _, hl, hm, hz, _, hcell, hwz⟩
    · simp [Value.cells] at hcs
      obtain ⟨rfl, rfl, rfl⟩ := hcs
      exact ⟨[], .inl ⟨rfl, rfl, rfl, rfl⟩⟩
    · simp [Value.cells] at hcs
      obtain ⟨rfl, rfl, rfl⟩ := hcs
      exact ⟨zs, .inr ⟨_, rfl, hl, hm, by simpa using hz, hcell, hwz⟩⟩
  obtain ⟨a1, rfl, rfl, rfl, w1⟩ := open_int Try.underlying5 (hval 1 5 v1 rfl rfl) h1
  clear hA0 hval0
  refine (walk a0 len0 cap0 z0 a1 W w0 w1).mono fun e W' ⟨he, bel⟩ => ?_
  subst he
  exact ⟨_, rfl, _, _, _, [], _, [], hW', trodAll_mk1 (shut_bool Try.underlying4 _), (trodAll_cons_mk (Below.trod laidOut (by kernel_rfl) (of_decide_eq_true (by kernel_rfl)) k0 bel lt0) (trodAll_cons_mk (shut_int Try.underlying5 w1) trodAll_mk0)), rfl, bel.frame _, fun h => by cases h⟩

theorem over : Rows.replyTokensRow.holds Try.pinned (OpenSpec.ofChange Rows.replyTokensSpec) :=
  OpenClaim.holds_of_wide 7 Try.f7 rfl rfl rfl rfl rfl rfl rfl ⟨rfl, rfl, rfl, rfl, rfl⟩ rfl rfl rfl rfl rfl (by kernel_rfl) Try.func7 (by kernel_rfl)
    (of_decide_eq_true (by kernel_rfl)) (by unfold Func.isWrapper; first | (rw [if_pos (by decide +kernel)]; kernel_rfl) | (rw [if_neg (by decide +kernel)]; exact ⟨rfl, rfl⟩))
    (fun os started H enc _ => lifted os started H enc)

/-- THE STATEMENT -/
theorem proved : Rows.ReplyTokensSaid := over
end Go.Proofs.Ytklnopgnlnfbnaa.replyTokens
