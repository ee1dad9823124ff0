/- PROVED: the statement ClockNone of layer 3: for every input that can be read, the law returns true and leaves its arguments as they were. No condition. -/
import Derived.Test.YthpfkbdbioabaaaRows
import Derived.Test.YthpfkbdbioabaaaClkE
import Derived.Test.YthpfkbdbioabaaaCutL
import Derived.WalkKit
import Derived.BigGuardPart
import Derived.Deep.Cut
import Derived.ProofKit
import Derived.OpenShut
import Derived.ShutString
import Derived.ChangeOld
import Derived.Below
namespace Go.Proofs.Ythpfkbdbioabaaa.clockNone
open Go.ChangeShapes Go.WideShapes Go.ChangeAt Go.RowKit
open Go.ChangeMaps (open_string shut_string)
set_option linter.unusedVariables false      -- a walk need not use every 'w<i>' (that an integer argument fits its kind)

theorem own : ownKnob Try.prog.godebug = none := by kernel_rfl

attribute [local go_sem] Dbl.run_fadd Dbl.run_fsub Dbl.run_fmul Dbl.run_fdiv Dbl.run_fmax Dbl.run_fmin Dbl.unary_fneg Dbl.ford_lt Dbl.ford_gt Dbl.ford_eq Dbl.ford_ne Dbl.pick_told Dbl.pickW_told

open Clk (St)

/-- What is known of the calls of one case: what Set says (e), what Pass says (f). -/
structure Ctx (n i p e f : Int) (K : Nat) (s0 s1 s2 : St) (w : World) : Prop where
  hn : Calls Try.prog 9 #[.int .i64 n] w fun e w' => e = .returned (pt w.heap.size) ∧ HasC w' w.heap.size s0 ∧ Below w.heap.size w w'
  hl : ∀ w b, HasC w b s0 → Calls Try.prog 21 #[pt b] w fun e w' => e = .returned (.int .i64 K) ∧ w = w'
  hs : ∀ w b, HasC w b s0 → Calls Try.prog 14 #[pt b, .int .i64 i, .float .f64 4611686018427387904] w fun u w' => u = .returned (.int .i64 e) ∧ HasC w' b s1 ∧ w.grownBy w' (some b)
  hp : ∀ w b, HasC w b s1 → Calls Try.prog 11 #[pt b, .int .i64 p] w fun u w' => (∃ a l c, u = .returned (.tuple #[.slice a l c, .int .i64 f])) ∧ HasC w' b s2 ∧ w.grownBy w' (some b)
  hw : e = 6 → ∀ w b, HasC w b s2 → Calls Try.prog 19 #[pt b, .int .i64 i] w fun u w' => u = .returned (.int .i64 0) ∧ w = w'
  hr : f = 1 → ∀ w b, HasC w b s2 → Calls Try.prog 17 #[pt b] w fun u w' => u = .returned (.int .i64 0) ∧ w = w'

theorem ctx_any (n i p : Int) (w : World) : ∃ s0 s1 s2, Ctx n i p (if 0 ≤ i ∧ i < Clk.clampH n then 0 else 6) (passCode p) (Clk.clampH n) s0 s1 s2 w := by
  have hok := Clk.ok_new n
  have hsn : (Clk.new n).n = Clk.clampH n := rfl
  have hok1 := hok.setI i 4611686018427387904 (by omega)
  have hn2 : (passI (Clk.setI (Clk.new n) i 4611686018427387904) p).n = Clk.clampH n := by
    unfold passI Clk.pass Clk.part Clk.setI Clk.set
    split <;> split <;> exact hsn
  refine ⟨Clk.new n, Clk.setI (Clk.new n) i 4611686018427387904, passI (Clk.setI (Clk.new n) i 4611686018427387904) p, New_any n w, fun w b h => Len_any w b _ h, fun w b h => Set_any w b _ i _ h hok.n, fun w b h => ?_, fun e w b h => ?_, fun e w b h => ?_⟩
  · refine (Pass_all w b _ p 0 h hok1 (by omega) (by omega)).mono ?_
    rintro e w' ⟨⟨a, l, c, he, _⟩, hc, hg⟩
    exact ⟨⟨a, l, c, he⟩, hc, hg⟩
  · refine (Now_any w b _ i h (by rw [hn2]; exact Clk.clampH_le n)).mono ?_
    rintro u w' ⟨rfl, rfl⟩
    refine ⟨?_, rfl⟩
    unfold Clk.nowI
    rw [hn2]
    split at e
    · cases e
    · rename_i q
      rw [if_neg q]
  · refine (Ref_any w b _ h).mono ?_
    rintro u w' ⟨rfl, rfl⟩
    refine ⟨?_, rfl⟩
    unfold passCode at e
    unfold passI
    split at e
    · cases e
    · rename_i q
      rw [if_neg q]
      have := hok1.ref
      rw [show (Clk.setI (Clk.new n) i 4611686018427387904).ref = 0 by omega]

set_option maxHeartbeats 1000000 in
theorem case_il_pl (n i p M : Int) (K : Nat) (s0 s1 s2 : St) (w : World) (hM : (if n < 0 then 0 else n) = M) (hK : (if 15 < M then 15 else M) = (K : Int)) (di : decide (0 ≤ i) = false) (dp : decide (1 ≤ p) = false) (C : Ctx n i p 6 1 K s0 s1 s2 w) :
    Calls Try.prog 6 #[.int .i64 n, .int .i64 i, .int .i64 p] w fun e w' => e = .returned (.bool true) ∧ Below w.heap.size w w' := by
  have C := Lib.hid C
  go_enter Try.func6, Try.ntmps6
  go_wp2_with fail
  refine C.out.hn.mono ?_
  rintro e w1 ⟨rfl, hc1, hb1⟩
  have HC1 := Lib.hid hc1
  have HB1 := Lib.hid hb1
  clear hc1 hb1
  go_wp2_with fail
  refine (C.out.hl _ _ HC1.out).mono ?_
  rintro e w' ⟨rfl, rfl⟩
  go_wp2_with fail
  refine (C.out.hs _ _ HC1.out).mono ?_
  rintro e w2 ⟨rfl, hc2, hg2⟩
  have HC2 := Lib.hid hc2
  have HB2 := Lib.hid (HB1.out.trans (grown_below hg2 (Nat.le_refl _) HB1.out.size))
  clear hc2 hg2
  go_wp2_with fail
  refine (C.out.hp _ _ HC2.out).mono ?_
  rintro e w3 ⟨⟨a, l, c, rfl⟩, hc3, hg3⟩
  have HC3 := Lib.hid hc3
  have HB3 := Lib.hid (HB2.out.trans (grown_below hg3 (Nat.le_refl _) HB2.out.size))
  clear hc3 hg3
  go_wp2_with fail
  refine (Pass_nil _ _).mono ?_
  rintro e w' ⟨rfl, rfl⟩
  go_upto_region 9 with fail
  refine wp_region_lit ?_
  simp only [List.append_eq, List.cons_append, List.nil_append]
  refine wpList_cut 30 ?_
  intro R1 hR1
  simp only [List.take_succ_cons, List.take_zero]
  go_wp2_with fail
  refine (C.out.hw rfl _ _ HC3.out).mono ?_
  rintro e w' ⟨rfl, rfl⟩
  go_wp2_with fail
  refine hR1.out _ _ ?_
  clear hR1
  simp only [List.drop_succ_cons, List.drop_zero]
  refine wpList_cut 25 ?_
  intro R2 hR2
  simp only [List.take_succ_cons, List.take_zero]
  go_wp2_with fail
  refine (C.out.hr rfl _ _ HC3.out).mono ?_
  rintro e w' ⟨rfl, rfl⟩
  go_wp2_with fail
  refine hR2.out _ _ ?_
  clear hR2
  simp only [List.drop_succ_cons, List.drop_zero]
  refine wpList_cut 19 ?_
  intro R3 hR3
  simp only [List.take_succ_cons, List.take_zero]
  go_wp2_with fail
  refine (Len_nil _).mono ?_
  rintro e w' ⟨rfl, rfl⟩
  go_wp2_with fail
  refine (Now_nil _ _).mono ?_
  rintro e w' ⟨rfl, rfl⟩
  go_wp2_with fail
  refine hR3.out _ _ ?_
  clear hR3
  simp only [List.drop_succ_cons, List.drop_zero]
  go_wp2_with fail
  refine (Ref_nil _).mono ?_
  rintro e w' ⟨rfl, rfl⟩
  go_wp2_with fail
  refine (Worst_nil _).mono ?_
  rintro e w' ⟨rfl, rfl⟩
  go_wp2_with fail
  refine (Set_nil _ _ _).mono ?_
  rintro e w' ⟨rfl, rfl⟩
  go_wp2_with fail
  refine (awake_ok _).mono ?_
  rintro e w4 ⟨rfl, hb4⟩
  go_wp2_with fail
  go_ret
  exact ⟨rfl, HB3.out.trans (hb4.mono HB3.out.size)⟩

set_option maxHeartbeats 1000000 in
theorem case_il_pm (n i p M : Int) (K : Nat) (s0 s1 s2 : St) (w : World) (hM : (if n < 0 then 0 else n) = M) (hK : (if 15 < M then 15 else M) = (K : Int)) (di : decide (0 ≤ i) = false) (dp : decide (1 ≤ p) = true) (dp2 : decide (p ≤ 1000) = true) (C : Ctx n i p 6 0 K s0 s1 s2 w) :
    Calls Try.prog 6 #[.int .i64 n, .int .i64 i, .int .i64 p] w fun e w' => e = .returned (.bool true) ∧ Below w.heap.size w w' := by
  have C := Lib.hid C
  go_enter Try.func6, Try.ntmps6
  go_wp2_with fail
  refine C.out.hn.mono ?_
  rintro e w1 ⟨rfl, hc1, hb1⟩
  have HC1 := Lib.hid hc1
  have HB1 := Lib.hid hb1
  clear hc1 hb1
  go_wp2_with fail
  refine (C.out.hl _ _ HC1.out).mono ?_
  rintro e w' ⟨rfl, rfl⟩
  go_wp2_with fail
  refine (C.out.hs _ _ HC1.out).mono ?_
  rintro e w2 ⟨rfl, hc2, hg2⟩
  have HC2 := Lib.hid hc2
  have HB2 := Lib.hid (HB1.out.trans (grown_below hg2 (Nat.le_refl _) HB1.out.size))
  clear hc2 hg2
  go_wp2_with fail
  refine (C.out.hp _ _ HC2.out).mono ?_
  rintro e w3 ⟨⟨a, l, c, rfl⟩, hc3, hg3⟩
  have HC3 := Lib.hid hc3
  have HB3 := Lib.hid (HB2.out.trans (grown_below hg3 (Nat.le_refl _) HB2.out.size))
  clear hc3 hg3
  go_wp2_with fail
  refine (Pass_nil _ _).mono ?_
  rintro e w' ⟨rfl, rfl⟩
  go_upto_region 9 with fail
  refine wp_region_lit ?_
  simp only [List.append_eq, List.cons_append, List.nil_append]
  refine wpList_cut 30 ?_
  intro R1 hR1
  simp only [List.take_succ_cons, List.take_zero]
  go_wp2_with fail
  refine (C.out.hw rfl _ _ HC3.out).mono ?_
  rintro e w' ⟨rfl, rfl⟩
  go_wp2_with fail
  refine hR1.out _ _ ?_
  clear hR1
  simp only [List.drop_succ_cons, List.drop_zero]
  refine wpList_cut 25 ?_
  intro R2 hR2
  simp only [List.take_succ_cons, List.take_zero]
  go_wp2_with fail
  refine hR2.out _ _ ?_
  clear hR2
  simp only [List.drop_succ_cons, List.drop_zero]
  refine wpList_cut 19 ?_
  intro R3 hR3
  simp only [List.take_succ_cons, List.take_zero]
  go_wp2_with fail
  refine (Len_nil _).mono ?_
  rintro e w' ⟨rfl, rfl⟩
  go_wp2_with fail
  refine (Now_nil _ _).mono ?_
  rintro e w' ⟨rfl, rfl⟩
  go_wp2_with fail
  refine hR3.out _ _ ?_
  clear hR3
  simp only [List.drop_succ_cons, List.drop_zero]
  go_wp2_with fail
  refine (Ref_nil _).mono ?_
  rintro e w' ⟨rfl, rfl⟩
  go_wp2_with fail
  refine (Worst_nil _).mono ?_
  rintro e w' ⟨rfl, rfl⟩
  go_wp2_with fail
  refine (Set_nil _ _ _).mono ?_
  rintro e w' ⟨rfl, rfl⟩
  go_wp2_with fail
  refine (awake_ok _).mono ?_
  rintro e w4 ⟨rfl, hb4⟩
  go_wp2_with fail
  go_ret
  exact ⟨rfl, HB3.out.trans (hb4.mono HB3.out.size)⟩

set_option maxHeartbeats 1000000 in
theorem case_il_ph (n i p M : Int) (K : Nat) (s0 s1 s2 : St) (w : World) (hM : (if n < 0 then 0 else n) = M) (hK : (if 15 < M then 15 else M) = (K : Int)) (di : decide (0 ≤ i) = false) (dp : decide (1 ≤ p) = true) (dp2 : decide (p ≤ 1000) = false) (C : Ctx n i p 6 1 K s0 s1 s2 w) :
    Calls Try.prog 6 #[.int .i64 n, .int .i64 i, .int .i64 p] w fun e w' => e = .returned (.bool true) ∧ Below w.heap.size w w' := by
  have C := Lib.hid C
  go_enter Try.func6, Try.ntmps6
  go_wp2_with fail
  refine C.out.hn.mono ?_
  rintro e w1 ⟨rfl, hc1, hb1⟩
  have HC1 := Lib.hid hc1
  have HB1 := Lib.hid hb1
  clear hc1 hb1
  go_wp2_with fail
  refine (C.out.hl _ _ HC1.out).mono ?_
  rintro e w' ⟨rfl, rfl⟩
  go_wp2_with fail
  refine (C.out.hs _ _ HC1.out).mono ?_
  rintro e w2 ⟨rfl, hc2, hg2⟩
  have HC2 := Lib.hid hc2
  have HB2 := Lib.hid (HB1.out.trans (grown_below hg2 (Nat.le_refl _) HB1.out.size))
  clear hc2 hg2
  go_wp2_with fail
  refine (C.out.hp _ _ HC2.out).mono ?_
  rintro e w3 ⟨⟨a, l, c, rfl⟩, hc3, hg3⟩
  have HC3 := Lib.hid hc3
  have HB3 := Lib.hid (HB2.out.trans (grown_below hg3 (Nat.le_refl _) HB2.out.size))
  clear hc3 hg3
  go_wp2_with fail
  refine (Pass_nil _ _).mono ?_
  rintro e w' ⟨rfl, rfl⟩
  go_upto_region 9 with fail
  refine wp_region_lit ?_
  simp only [List.append_eq, List.cons_append, List.nil_append]
  refine wpList_cut 30 ?_
  intro R1 hR1
  simp only [List.take_succ_cons, List.take_zero]
  go_wp2_with fail
  refine (C.out.hw rfl _ _ HC3.out).mono ?_
  rintro e w' ⟨rfl, rfl⟩
  go_wp2_with fail
  refine hR1.out _ _ ?_
  clear hR1
  simp only [List.drop_succ_cons, List.drop_zero]
  refine wpList_cut 25 ?_
  intro R2 hR2
  simp only [List.take_succ_cons, List.take_zero]
  go_wp2_with fail
  refine (C.out.hr rfl _ _ HC3.out).mono ?_
  rintro e w' ⟨rfl, rfl⟩
  go_wp2_with fail
  refine hR2.out _ _ ?_
  clear hR2
  simp only [List.drop_succ_cons, List.drop_zero]
  refine wpList_cut 19 ?_
  intro R3 hR3
  simp only [List.take_succ_cons, List.take_zero]
  go_wp2_with fail
  refine (Len_nil _).mono ?_
  rintro e w' ⟨rfl, rfl⟩
  go_wp2_with fail
  refine (Now_nil _ _).mono ?_
  rintro e w' ⟨rfl, rfl⟩
  go_wp2_with fail
  refine hR3.out _ _ ?_
  clear hR3
  simp only [List.drop_succ_cons, List.drop_zero]
  go_wp2_with fail
  refine (Ref_nil _).mono ?_
  rintro e w' ⟨rfl, rfl⟩
  go_wp2_with fail
  refine (Worst_nil _).mono ?_
  rintro e w' ⟨rfl, rfl⟩
  go_wp2_with fail
  refine (Set_nil _ _ _).mono ?_
  rintro e w' ⟨rfl, rfl⟩
  go_wp2_with fail
  refine (awake_ok _).mono ?_
  rintro e w4 ⟨rfl, hb4⟩
  go_wp2_with fail
  go_ret
  exact ⟨rfl, HB3.out.trans (hb4.mono HB3.out.size)⟩

set_option maxHeartbeats 1000000 in
theorem case_im_pl (n i p M : Int) (K : Nat) (s0 s1 s2 : St) (w : World) (hM : (if n < 0 then 0 else n) = M) (hK : (if 15 < M then 15 else M) = (K : Int)) (di : decide (0 ≤ i) = true) (di2 : decide (i < (K : Int)) = true) (dp : decide (1 ≤ p) = false) (C : Ctx n i p 0 1 K s0 s1 s2 w) :
    Calls Try.prog 6 #[.int .i64 n, .int .i64 i, .int .i64 p] w fun e w' => e = .returned (.bool true) ∧ Below w.heap.size w w' := by
  have C := Lib.hid C
  go_enter Try.func6, Try.ntmps6
  go_wp2_with fail
  refine C.out.hn.mono ?_
  rintro e w1 ⟨rfl, hc1, hb1⟩
  have HC1 := Lib.hid hc1
  have HB1 := Lib.hid hb1
  clear hc1 hb1
  go_wp2_with fail
  refine (C.out.hl _ _ HC1.out).mono ?_
  rintro e w' ⟨rfl, rfl⟩
  go_wp2_with fail
  refine (C.out.hs _ _ HC1.out).mono ?_
  rintro e w2 ⟨rfl, hc2, hg2⟩
  have HC2 := Lib.hid hc2
  have HB2 := Lib.hid (HB1.out.trans (grown_below hg2 (Nat.le_refl _) HB1.out.size))
  clear hc2 hg2
  go_wp2_with fail
  refine (C.out.hp _ _ HC2.out).mono ?_
  rintro e w3 ⟨⟨a, l, c, rfl⟩, hc3, hg3⟩
  have HC3 := Lib.hid hc3
  have HB3 := Lib.hid (HB2.out.trans (grown_below hg3 (Nat.le_refl _) HB2.out.size))
  clear hc3 hg3
  go_wp2_with fail
  refine (Pass_nil _ _).mono ?_
  rintro e w' ⟨rfl, rfl⟩
  go_upto_region 9 with fail
  refine wp_region_lit ?_
  simp only [List.append_eq, List.cons_append, List.nil_append]
  refine wpList_cut 30 ?_
  intro R1 hR1
  simp only [List.take_succ_cons, List.take_zero]
  go_wp2_with fail
  refine hR1.out _ _ ?_
  clear hR1
  simp only [List.drop_succ_cons, List.drop_zero]
  refine wpList_cut 25 ?_
  intro R2 hR2
  simp only [List.take_succ_cons, List.take_zero]
  go_wp2_with fail
  refine (C.out.hr rfl _ _ HC3.out).mono ?_
  rintro e w' ⟨rfl, rfl⟩
  go_wp2_with fail
  refine hR2.out _ _ ?_
  clear hR2
  simp only [List.drop_succ_cons, List.drop_zero]
  refine wpList_cut 19 ?_
  intro R3 hR3
  simp only [List.take_succ_cons, List.take_zero]
  go_wp2_with fail
  refine (Len_nil _).mono ?_
  rintro e w' ⟨rfl, rfl⟩
  go_wp2_with fail
  refine (Now_nil _ _).mono ?_
  rintro e w' ⟨rfl, rfl⟩
  go_wp2_with fail
  refine hR3.out _ _ ?_
  clear hR3
  simp only [List.drop_succ_cons, List.drop_zero]
  go_wp2_with fail
  refine (Ref_nil _).mono ?_
  rintro e w' ⟨rfl, rfl⟩
  go_wp2_with fail
  refine (Worst_nil _).mono ?_
  rintro e w' ⟨rfl, rfl⟩
  go_wp2_with fail
  refine (Set_nil _ _ _).mono ?_
  rintro e w' ⟨rfl, rfl⟩
  go_wp2_with fail
  refine (awake_ok _).mono ?_
  rintro e w4 ⟨rfl, hb4⟩
  go_wp2_with fail
  go_ret
  exact ⟨rfl, HB3.out.trans (hb4.mono HB3.out.size)⟩

set_option maxHeartbeats 1000000 in
theorem case_im_pm (n i p M : Int) (K : Nat) (s0 s1 s2 : St) (w : World) (hM : (if n < 0 then 0 else n) = M) (hK : (if 15 < M then 15 else M) = (K : Int)) (di : decide (0 ≤ i) = true) (di2 : decide (i < (K : Int)) = true) (dp : decide (1 ≤ p) = true) (dp2 : decide (p ≤ 1000) = true) (C : Ctx n i p 0 0 K s0 s1 s2 w) :
    Calls Try.prog 6 #[.int .i64 n, .int .i64 i, .int .i64 p] w fun e w' => e = .returned (.bool true) ∧ Below w.heap.size w w' := by
  have C := Lib.hid C
  go_enter Try.func6, Try.ntmps6
  go_wp2_with fail
  refine C.out.hn.mono ?_
  rintro e w1 ⟨rfl, hc1, hb1⟩
  have HC1 := Lib.hid hc1
  have HB1 := Lib.hid hb1
  clear hc1 hb1
  go_wp2_with fail
  refine (C.out.hl _ _ HC1.out).mono ?_
  rintro e w' ⟨rfl, rfl⟩
  go_wp2_with fail
  refine (C.out.hs _ _ HC1.out).mono ?_
  rintro e w2 ⟨rfl, hc2, hg2⟩
  have HC2 := Lib.hid hc2
  have HB2 := Lib.hid (HB1.out.trans (grown_below hg2 (Nat.le_refl _) HB1.out.size))
  clear hc2 hg2
  go_wp2_with fail
  refine (C.out.hp _ _ HC2.out).mono ?_
  rintro e w3 ⟨⟨a, l, c, rfl⟩, hc3, hg3⟩
  have HC3 := Lib.hid hc3
  have HB3 := Lib.hid (HB2.out.trans (grown_below hg3 (Nat.le_refl _) HB2.out.size))
  clear hc3 hg3
  go_wp2_with fail
  refine (Pass_nil _ _).mono ?_
  rintro e w' ⟨rfl, rfl⟩
  go_upto_region 9 with fail
  refine wp_region_lit ?_
  simp only [List.append_eq, List.cons_append, List.nil_append]
  refine wpList_cut 30 ?_
  intro R1 hR1
  simp only [List.take_succ_cons, List.take_zero]
  go_wp2_with fail
  refine hR1.out _ _ ?_
  clear hR1
  simp only [List.drop_succ_cons, List.drop_zero]
  refine wpList_cut 25 ?_
  intro R2 hR2
  simp only [List.take_succ_cons, List.take_zero]
  go_wp2_with fail
  refine hR2.out _ _ ?_
  clear hR2
  simp only [List.drop_succ_cons, List.drop_zero]
  refine wpList_cut 19 ?_
  intro R3 hR3
  simp only [List.take_succ_cons, List.take_zero]
  go_wp2_with fail
  refine (Len_nil _).mono ?_
  rintro e w' ⟨rfl, rfl⟩
  go_wp2_with fail
  refine (Now_nil _ _).mono ?_
  rintro e w' ⟨rfl, rfl⟩
  go_wp2_with fail
  refine hR3.out _ _ ?_
  clear hR3
  simp only [List.drop_succ_cons, List.drop_zero]
  go_wp2_with fail
  refine (Ref_nil _).mono ?_
  rintro e w' ⟨rfl, rfl⟩
  go_wp2_with fail
  refine (Worst_nil _).mono ?_
  rintro e w' ⟨rfl, rfl⟩
  go_wp2_with fail
  refine (Set_nil _ _ _).mono ?_
  rintro e w' ⟨rfl, rfl⟩
  go_wp2_with fail
  refine (awake_ok _).mono ?_
  rintro e w4 ⟨rfl, hb4⟩
  go_wp2_with fail
  go_ret
  exact ⟨rfl, HB3.out.trans (hb4.mono HB3.out.size)⟩

set_option maxHeartbeats 1000000 in
theorem case_im_ph (n i p M : Int) (K : Nat) (s0 s1 s2 : St) (w : World) (hM : (if n < 0 then 0 else n) = M) (hK : (if 15 < M then 15 else M) = (K : Int)) (di : decide (0 ≤ i) = true) (di2 : decide (i < (K : Int)) = true) (dp : decide (1 ≤ p) = true) (dp2 : decide (p ≤ 1000) = false) (C : Ctx n i p 0 1 K s0 s1 s2 w) :
    Calls Try.prog 6 #[.int .i64 n, .int .i64 i, .int .i64 p] w fun e w' => e = .returned (.bool true) ∧ Below w.heap.size w w' := by
  have C := Lib.hid C
  go_enter Try.func6, Try.ntmps6
  go_wp2_with fail
  refine C.out.hn.mono ?_
  rintro e w1 ⟨rfl, hc1, hb1⟩
  have HC1 := Lib.hid hc1
  have HB1 := Lib.hid hb1
  clear hc1 hb1
  go_wp2_with fail
  refine (C.out.hl _ _ HC1.out).mono ?_
  rintro e w' ⟨rfl, rfl⟩
  go_wp2_with fail
  refine (C.out.hs _ _ HC1.out).mono ?_
  rintro e w2 ⟨rfl, hc2, hg2⟩
  have HC2 := Lib.hid hc2
  have HB2 := Lib.hid (HB1.out.trans (grown_below hg2 (Nat.le_refl _) HB1.out.size))
  clear hc2 hg2
  go_wp2_with fail
  refine (C.out.hp _ _ HC2.out).mono ?_
  rintro e w3 ⟨⟨a, l, c, rfl⟩, hc3, hg3⟩
  have HC3 := Lib.hid hc3
  have HB3 := Lib.hid (HB2.out.trans (grown_below hg3 (Nat.le_refl _) HB2.out.size))
  clear hc3 hg3
  go_wp2_with fail
  refine (Pass_nil _ _).mono ?_
  rintro e w' ⟨rfl, rfl⟩
  go_upto_region 9 with fail
  refine wp_region_lit ?_
  simp only [List.append_eq, List.cons_append, List.nil_append]
  refine wpList_cut 30 ?_
  intro R1 hR1
  simp only [List.take_succ_cons, List.take_zero]
  go_wp2_with fail
  refine hR1.out _ _ ?_
  clear hR1
  simp only [List.drop_succ_cons, List.drop_zero]
  refine wpList_cut 25 ?_
  intro R2 hR2
  simp only [List.take_succ_cons, List.take_zero]
  go_wp2_with fail
  refine (C.out.hr rfl _ _ HC3.out).mono ?_
  rintro e w' ⟨rfl, rfl⟩
  go_wp2_with fail
  refine hR2.out _ _ ?_
  clear hR2
  simp only [List.drop_succ_cons, List.drop_zero]
  refine wpList_cut 19 ?_
  intro R3 hR3
  simp only [List.take_succ_cons, List.take_zero]
  go_wp2_with fail
  refine (Len_nil _).mono ?_
  rintro e w' ⟨rfl, rfl⟩
  go_wp2_with fail
  refine (Now_nil _ _).mono ?_
  rintro e w' ⟨rfl, rfl⟩
  go_wp2_with fail
  refine hR3.out _ _ ?_
  clear hR3
  simp only [List.drop_succ_cons, List.drop_zero]
  go_wp2_with fail
  refine (Ref_nil _).mono ?_
  rintro e w' ⟨rfl, rfl⟩
  go_wp2_with fail
  refine (Worst_nil _).mono ?_
  rintro e w' ⟨rfl, rfl⟩
  go_wp2_with fail
  refine (Set_nil _ _ _).mono ?_
  rintro e w' ⟨rfl, rfl⟩
  go_wp2_with fail
  refine (awake_ok _).mono ?_
  rintro e w4 ⟨rfl, hb4⟩
  go_wp2_with fail
  go_ret
  exact ⟨rfl, HB3.out.trans (hb4.mono HB3.out.size)⟩

set_option maxHeartbeats 1000000 in
theorem case_ih_pl (n i p M : Int) (K : Nat) (s0 s1 s2 : St) (w : World) (hM : (if n < 0 then 0 else n) = M) (hK : (if 15 < M then 15 else M) = (K : Int)) (di : decide (0 ≤ i) = true) (di2 : decide (i < (K : Int)) = false) (dp : decide (1 ≤ p) = false) (C : Ctx n i p 6 1 K s0 s1 s2 w) :
    Calls Try.prog 6 #[.int .i64 n, .int .i64 i, .int .i64 p] w fun e w' => e = .returned (.bool true) ∧ Below w.heap.size w w' := by
  have C := Lib.hid C
  go_enter Try.func6, Try.ntmps6
  go_wp2_with fail
  refine C.out.hn.mono ?_
  rintro e w1 ⟨rfl, hc1, hb1⟩
  have HC1 := Lib.hid hc1
  have HB1 := Lib.hid hb1
  clear hc1 hb1
  go_wp2_with fail
  refine (C.out.hl _ _ HC1.out).mono ?_
  rintro e w' ⟨rfl, rfl⟩
  go_wp2_with fail
  refine (C.out.hs _ _ HC1.out).mono ?_
  rintro e w2 ⟨rfl, hc2, hg2⟩
  have HC2 := Lib.hid hc2
  have HB2 := Lib.hid (HB1.out.trans (grown_below hg2 (Nat.le_refl _) HB1.out.size))
  clear hc2 hg2
  go_wp2_with fail
  refine (C.out.hp _ _ HC2.out).mono ?_
  rintro e w3 ⟨⟨a, l, c, rfl⟩, hc3, hg3⟩
  have HC3 := Lib.hid hc3
  have HB3 := Lib.hid (HB2.out.trans (grown_below hg3 (Nat.le_refl _) HB2.out.size))
  clear hc3 hg3
  go_wp2_with fail
  refine (Pass_nil _ _).mono ?_
  rintro e w' ⟨rfl, rfl⟩
  go_upto_region 9 with fail
  refine wp_region_lit ?_
  simp only [List.append_eq, List.cons_append, List.nil_append]
  refine wpList_cut 30 ?_
  intro R1 hR1
  simp only [List.take_succ_cons, List.take_zero]
  go_wp2_with fail
  refine (C.out.hw rfl _ _ HC3.out).mono ?_
  rintro e w' ⟨rfl, rfl⟩
  go_wp2_with fail
  refine hR1.out _ _ ?_
  clear hR1
  simp only [List.drop_succ_cons, List.drop_zero]
  refine wpList_cut 25 ?_
  intro R2 hR2
  simp only [List.take_succ_cons, List.take_zero]
  go_wp2_with fail
  refine (C.out.hr rfl _ _ HC3.out).mono ?_
  rintro e w' ⟨rfl, rfl⟩
  go_wp2_with fail
  refine hR2.out _ _ ?_
  clear hR2
  simp only [List.drop_succ_cons, List.drop_zero]
  refine wpList_cut 19 ?_
  intro R3 hR3
  simp only [List.take_succ_cons, List.take_zero]
  go_wp2_with fail
  refine (Len_nil _).mono ?_
  rintro e w' ⟨rfl, rfl⟩
  go_wp2_with fail
  refine (Now_nil _ _).mono ?_
  rintro e w' ⟨rfl, rfl⟩
  go_wp2_with fail
  refine hR3.out _ _ ?_
  clear hR3
  simp only [List.drop_succ_cons, List.drop_zero]
  go_wp2_with fail
  refine (Ref_nil _).mono ?_
  rintro e w' ⟨rfl, rfl⟩
  go_wp2_with fail
  refine (Worst_nil _).mono ?_
  rintro e w' ⟨rfl, rfl⟩
  go_wp2_with fail
  refine (Set_nil _ _ _).mono ?_
  rintro e w' ⟨rfl, rfl⟩
  go_wp2_with fail
  refine (awake_ok _).mono ?_
  rintro e w4 ⟨rfl, hb4⟩
  go_wp2_with fail
  go_ret
  exact ⟨rfl, HB3.out.trans (hb4.mono HB3.out.size)⟩

set_option maxHeartbeats 1000000 in
theorem case_ih_pm (n i p M : Int) (K : Nat) (s0 s1 s2 : St) (w : World) (hM : (if n < 0 then 0 else n) = M) (hK : (if 15 < M then 15 else M) = (K : Int)) (di : decide (0 ≤ i) = true) (di2 : decide (i < (K : Int)) = false) (dp : decide (1 ≤ p) = true) (dp2 : decide (p ≤ 1000) = true) (C : Ctx n i p 6 0 K s0 s1 s2 w) :
    Calls Try.prog 6 #[.int .i64 n, .int .i64 i, .int .i64 p] w fun e w' => e = .returned (.bool true) ∧ Below w.heap.size w w' := by
  have C := Lib.hid C
  go_enter Try.func6, Try.ntmps6
  go_wp2_with fail
  refine C.out.hn.mono ?_
  rintro e w1 ⟨rfl, hc1, hb1⟩
  have HC1 := Lib.hid hc1
  have HB1 := Lib.hid hb1
  clear hc1 hb1
  go_wp2_with fail
  refine (C.out.hl _ _ HC1.out).mono ?_
  rintro e w' ⟨rfl, rfl⟩
  go_wp2_with fail
  refine (C.out.hs _ _ HC1.out).mono ?_
  rintro e w2 ⟨rfl, hc2, hg2⟩
  have HC2 := Lib.hid hc2
  have HB2 := Lib.hid (HB1.out.trans (grown_below hg2 (Nat.le_refl _) HB1.out.size))
  clear hc2 hg2
  go_wp2_with fail
  refine (C.out.hp _ _ HC2.out).mono ?_
  rintro e w3 ⟨⟨a, l, c, rfl⟩, hc3, hg3⟩
  have HC3 := Lib.hid hc3
  have HB3 := Lib.hid (HB2.out.trans (grown_below hg3 (Nat.le_refl _) HB2.out.size))
  clear hc3 hg3
  go_wp2_with fail
  refine (Pass_nil _ _).mono ?_
  rintro e w' ⟨rfl, rfl⟩
  go_upto_region 9 with fail
  refine wp_region_lit ?_
  simp only [List.append_eq, List.cons_append, List.nil_append]
  refine wpList_cut 30 ?_
  intro R1 hR1
  simp only [List.take_succ_cons, List.take_zero]
  go_wp2_with fail
  refine (C.out.hw rfl _ _ HC3.out).mono ?_
  rintro e w' ⟨rfl, rfl⟩
  go_wp2_with fail
  refine hR1.out _ _ ?_
  clear hR1
  simp only [List.drop_succ_cons, List.drop_zero]
  refine wpList_cut 25 ?_
  intro R2 hR2
  simp only [List.take_succ_cons, List.take_zero]
  go_wp2_with fail
  refine hR2.out _ _ ?_
  clear hR2
  simp only [List.drop_succ_cons, List.drop_zero]
  refine wpList_cut 19 ?_
  intro R3 hR3
  simp only [List.take_succ_cons, List.take_zero]
  go_wp2_with fail
  refine (Len_nil _).mono ?_
  rintro e w' ⟨rfl, rfl⟩
  go_wp2_with fail
  refine (Now_nil _ _).mono ?_
  rintro e w' ⟨rfl, rfl⟩
  go_wp2_with fail
  refine hR3.out _ _ ?_
  clear hR3
  simp only [List.drop_succ_cons, List.drop_zero]
  go_wp2_with fail
  refine (Ref_nil _).mono ?_
  rintro e w' ⟨rfl, rfl⟩
  go_wp2_with fail
  refine (Worst_nil _).mono ?_
  rintro e w' ⟨rfl, rfl⟩
  go_wp2_with fail
  refine (Set_nil _ _ _).mono ?_
  rintro e w' ⟨rfl, rfl⟩
  go_wp2_with fail
  refine (awake_ok _).mono ?_
  rintro e w4 ⟨rfl, hb4⟩
  go_wp2_with fail
  go_ret
  exact ⟨rfl, HB3.out.trans (hb4.mono HB3.out.size)⟩

set_option maxHeartbeats 1000000 in
theorem case_ih_ph (n i p M : Int) (K : Nat) (s0 s1 s2 : St) (w : World) (hM : (if n < 0 then 0 else n) = M) (hK : (if 15 < M then 15 else M) = (K : Int)) (di : decide (0 ≤ i) = true) (di2 : decide (i < (K : Int)) = false) (dp : decide (1 ≤ p) = true) (dp2 : decide (p ≤ 1000) = false) (C : Ctx n i p 6 1 K s0 s1 s2 w) :
    Calls Try.prog 6 #[.int .i64 n, .int .i64 i, .int .i64 p] w fun e w' => e = .returned (.bool true) ∧ Below w.heap.size w w' := by
  have C := Lib.hid C
  go_enter Try.func6, Try.ntmps6
  go_wp2_with fail
  refine C.out.hn.mono ?_
  rintro e w1 ⟨rfl, hc1, hb1⟩
  have HC1 := Lib.hid hc1
  have HB1 := Lib.hid hb1
  clear hc1 hb1
  go_wp2_with fail
  refine (C.out.hl _ _ HC1.out).mono ?_
  rintro e w' ⟨rfl, rfl⟩
  go_wp2_with fail
  refine (C.out.hs _ _ HC1.out).mono ?_
  rintro e w2 ⟨rfl, hc2, hg2⟩
  have HC2 := Lib.hid hc2
  have HB2 := Lib.hid (HB1.out.trans (grown_below hg2 (Nat.le_refl _) HB1.out.size))
  clear hc2 hg2
  go_wp2_with fail
  refine (C.out.hp _ _ HC2.out).mono ?_
  rintro e w3 ⟨⟨a, l, c, rfl⟩, hc3, hg3⟩
  have HC3 := Lib.hid hc3
  have HB3 := Lib.hid (HB2.out.trans (grown_below hg3 (Nat.le_refl _) HB2.out.size))
  clear hc3 hg3
  go_wp2_with fail
  refine (Pass_nil _ _).mono ?_
  rintro e w' ⟨rfl, rfl⟩
  go_upto_region 9 with fail
  refine wp_region_lit ?_
  simp only [List.append_eq, List.cons_append, List.nil_append]
  refine wpList_cut 30 ?_
  intro R1 hR1
  simp only [List.take_succ_cons, List.take_zero]
  go_wp2_with fail
  refine (C.out.hw rfl _ _ HC3.out).mono ?_
  rintro e w' ⟨rfl, rfl⟩
  go_wp2_with fail
  refine hR1.out _ _ ?_
  clear hR1
  simp only [List.drop_succ_cons, List.drop_zero]
  refine wpList_cut 25 ?_
  intro R2 hR2
  simp only [List.take_succ_cons, List.take_zero]
  go_wp2_with fail
  refine (C.out.hr rfl _ _ HC3.out).mono ?_
  rintro e w' ⟨rfl, rfl⟩
  go_wp2_with fail
  refine hR2.out _ _ ?_
  clear hR2
  simp only [List.drop_succ_cons, List.drop_zero]
  refine wpList_cut 19 ?_
  intro R3 hR3
  simp only [List.take_succ_cons, List.take_zero]
  go_wp2_with fail
  refine (Len_nil _).mono ?_
  rintro e w' ⟨rfl, rfl⟩
  go_wp2_with fail
  refine (Now_nil _ _).mono ?_
  rintro e w' ⟨rfl, rfl⟩
  go_wp2_with fail
  refine hR3.out _ _ ?_
  clear hR3
  simp only [List.drop_succ_cons, List.drop_zero]
  go_wp2_with fail
  refine (Ref_nil _).mono ?_
  rintro e w' ⟨rfl, rfl⟩
  go_wp2_with fail
  refine (Worst_nil _).mono ?_
  rintro e w' ⟨rfl, rfl⟩
  go_wp2_with fail
  refine (Set_nil _ _ _).mono ?_
  rintro e w' ⟨rfl, rfl⟩
  go_wp2_with fail
  refine (awake_ok _).mono ?_
  rintro e w4 ⟨rfl, hb4⟩
  go_wp2_with fail
  go_ret
  exact ⟨rfl, HB3.out.trans (hb4.mono HB3.out.size)⟩

/-! ### STEP 1: THE WALK: the Go text returns true. 'Below w.heap.size w w'': the world has at most new blocks (Derived/RowKit3.lean). Part the cases AHEAD of 'go_enter' where a test parts the walk; take each callee by a contract of your own. -/
theorem walk (a0 : Int) (a1 : Int) (a2 : Int) (w0 : (Lit.int .i64 a0).wf = true) (w1 : (Lit.int .i64 a1).wf = true) (w2 : (Lit.int .i64 a2).wf = true) (w : World) :
    Calls Try.prog 6 #[.int .i64 a0, .int .i64 a1, .int .i64 a2] w fun e w' => e = .returned (.bool true) ∧ Below w.heap.size w w' := by
  obtain ⟨M, hM⟩ : ∃ M : Int, (if a0 < 0 then 0 else a0) = M := ⟨_, rfl⟩
  obtain ⟨K, hH⟩ : ∃ K : Nat, Clk.clampH a0 = K := ⟨_, rfl⟩
  have hK : (if 15 < M then 15 else M) = (K : Int) := by
    rw [← hH]
    unfold Clk.clampH
    split at hM <;> split <;> omega
  obtain ⟨s0, s1, s2, hC⟩ := ctx_any a0 a1 a2 w
  rw [hH] at hC
  clear hH
  by_cases hi : 0 ≤ a1
  · by_cases hi2 : a1 < (K : Int)
    · rw [if_pos ⟨hi, hi2⟩] at hC
      by_cases hp : 1 ≤ a2
      · by_cases hp2 : a2 ≤ 1000
        · rw [show passCode a2 = 0 from if_pos ⟨hp, hp2⟩] at hC
          exact case_im_pm a0 a1 a2 M K s0 s1 s2 w hM hK (decide_eq_true hi) (decide_eq_true hi2) (decide_eq_true hp) (decide_eq_true hp2) hC
        · rw [show passCode a2 = 1 from if_neg (by omega)] at hC
          exact case_im_ph a0 a1 a2 M K s0 s1 s2 w hM hK (decide_eq_true hi) (decide_eq_true hi2) (decide_eq_true hp) (decide_eq_false hp2) hC
      · rw [show passCode a2 = 1 from if_neg (by omega)] at hC
        exact case_im_pl a0 a1 a2 M K s0 s1 s2 w hM hK (decide_eq_true hi) (decide_eq_true hi2) (decide_eq_false hp) hC
    · rw [if_neg (by omega)] at hC
      by_cases hp : 1 ≤ a2
      · by_cases hp2 : a2 ≤ 1000
        · rw [show passCode a2 = 0 from if_pos ⟨hp, hp2⟩] at hC
          exact case_ih_pm a0 a1 a2 M K s0 s1 s2 w hM hK (decide_eq_true hi) (decide_eq_false hi2) (decide_eq_true hp) (decide_eq_true hp2) hC
        · rw [show passCode a2 = 1 from if_neg (by omega)] at hC
          exact case_ih_ph a0 a1 a2 M K s0 s1 s2 w hM hK (decide_eq_true hi) (decide_eq_false hi2) (decide_eq_true hp) (decide_eq_false hp2) hC
      · rw [show passCode a2 = 1 from if_neg (by omega)] at hC
        exact case_ih_pl a0 a1 a2 M K s0 s1 s2 w hM hK (decide_eq_true hi) (decide_eq_false hi2) (decide_eq_false hp) hC
  · rw [if_neg (by omega)] at hC
    by_cases hp : 1 ≤ a2
    · by_cases hp2 : a2 ≤ 1000
      · rw [show passCode a2 = 0 from if_pos ⟨hp, hp2⟩] at hC
        exact case_il_pm a0 a1 a2 M K s0 s1 s2 w hM hK (decide_eq_false hi) (decide_eq_true hp) (decide_eq_true hp2) hC
      · rw [show passCode a2 = 1 from if_neg (by omega)] at hC
        exact case_il_ph a0 a1 a2 M K s0 s1 s2 w hM hK (decide_eq_false hi) (decide_eq_true hp) (decide_eq_false hp2) hC
    · rw [show passCode a2 = 1 from if_neg (by omega)] at hC
      exact case_il_pl a0 a1 a2 M K s0 s1 s2 w hM hK (decide_eq_false hi) (decide_eq_false hp) hC

/-! ### THE ROW's STEP: WRITTEN OUT: LEAVE IT -/
set_option maxRecDepth 100000 in
theorem lifted (os : Os) (started : os.Started) (H : Type) (enc : TypeId × Value → H) :
    ReturnsInHanded {} Try.checked os 6 .any (Rows.clockNoneSpec.pre6 enc Try.prog Try.f6 Rows.clockNoneRow.domain false) (Rows.clockNoneSpec.post enc Try.prog Try.f6 false true false false) := by
  refine returnsInHanded_of_change (C := Try.checked) own started (by kernel_rfl) Try.func6
    (ChangeSpec.witness6 (enc := enc) (C := Try.checked) false ⟨#[], #[.int .i64 0, .int .i64 0, .int .i64 0], []⟩ 8 (by kernel_rfl) (by kernel_rfl) (by kernel_rfl) (by kernel_rfl)) ?_
  intro W base args ds gs before hval0 hW hcnd _
  have hval : ∀ (j : Nat) t v, Try.f6.params[j]? = some t → args[j]? = some v → Value.okWide Try.prog W .any base t v := hval0
  have hW' := hW
  obtain ⟨p, q, hA0, hV, rfl, hfz, hnd⟩ := hW
  have hA : DataW.TrodAll enc Try.prog W 0 (fun _ => true) true Try.f6.params.toList args.toList ds p := hA0
  rw [Try.params6] at hA hval
  obtain ⟨v0, vs0, d0, ds0, p0, q0, hargs, rfl, rfl, h0, r0⟩ := trodAll_cons hA
  obtain ⟨v1, vs1, d1, ds1, p1, q1, rfl, rfl, rfl, h1, r1⟩ := trodAll_cons r0
  obtain ⟨v2, vs2, d2, ds2, p2, q2, rfl, rfl, rfl, h2, r2⟩ := trodAll_cons r1
  obtain ⟨rfl, rfl, rfl⟩ := trodAll_nil r2
  obtain rfl : args = #[v0, v1, v2] := by cases args; simp_all
  obtain ⟨rfl, rfl⟩ := trodVars_none hV
  obtain ⟨a0, rfl, rfl, rfl, w0⟩ := open_int Try.underlying3 (hval 0 3 v0 rfl rfl) h0
  obtain ⟨a1, rfl, rfl, rfl, w1⟩ := open_int Try.underlying3 (hval 1 3 v1 rfl rfl) h1
  obtain ⟨a2, rfl, rfl, rfl, w2⟩ := open_int Try.underlying3 (hval 2 3 v2 rfl rfl) h2
  clear hA0 hval0
  simp only [List.append_nil] at hW'
  refine (walk a0 a1 a2 w0 w1 w2 W).mono fun e W' ⟨he, bel⟩ => ?_
  subst he
  exact ⟨_, rfl, _, _, _, [], _, [], hW', (trodAll_cons_mk (shut_bool Try.underlying4 _) trodAll_mk0), (trodAll_cons_mk (shut_int Try.underlying3 w0) (trodAll_cons_mk (shut_int Try.underlying3 w1) (trodAll_cons_mk (shut_int Try.underlying3 w2) trodAll_mk0))), rfl, bel.frame _, fun h => by cases h⟩

theorem over : Rows.clockNoneRow.holds Try.pinned (OpenSpec.ofChange Rows.clockNoneSpec) :=
  OpenClaim.holds_of_wide 6 Try.f6 rfl rfl rfl rfl rfl rfl rfl ⟨rfl, rfl, rfl, rfl, rfl⟩ rfl rfl rfl rfl rfl (by kernel_rfl) Try.func6 (by kernel_rfl)
    (of_decide_eq_true (by kernel_rfl)) (by unfold Func.isWrapper; first | (rw [if_pos (by decide +kernel)]; kernel_rfl) | (rw [if_neg (by decide +kernel)]; exact ⟨rfl, rfl⟩))
    (fun os started H enc _ => lifted os started H enc)

/-- THE STATEMENT -/
theorem proved : Rows.ClockNoneSaid :=
  over
end Go.Proofs.Ythpfkbdbioabaaa.clockNone
