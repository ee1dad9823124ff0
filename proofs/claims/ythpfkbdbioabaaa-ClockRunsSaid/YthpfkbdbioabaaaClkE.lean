/- Contracts, on: SameInts, awake of the layer clock. -/
import Derived.Test.YthpfkbdbioabaaaClkD
set_option linter.unusedVariables false
set_option linter.unusedSimpArgs false
namespace Go.Proofs.Ythpfkbdbioabaaa
open Go.RowKit
attribute [local go_sem] Dbl.run_fadd Dbl.run_fsub Dbl.run_fmul Dbl.run_fdiv Dbl.run_fmax Dbl.run_fmin Dbl.unary_fneg Dbl.ford_lt Dbl.ford_gt Dbl.ford_eq Dbl.ford_ne Dbl.pick_told Dbl.pickW_told run_store_float

open Clk (St)

def ints (xs : List Int) : List Value := xs.map (Value.int .i64)
theorem ints_length (xs : List Int) : (ints xs).length = xs.length := by simp [ints]
theorem ints_get (xs : List Int) (i : Nat) (h : i < xs.length) : (ints xs)[i]? = some (.int .i64 (xs.getD i 0)) := by
  simp [ints, List.getElem?_eq_getElem h]

theorem RdL.row {w : World} {g : Nat} {t : TypeId} {n : Nat} {f : Nat → Value} (h : w.rowIs g t n f) (hn : n ≤ maxLen) : RdL w (.slice (some ⟨g, 0, none⟩) n n) ((List.range n).map f) := by
  refine ⟨_, _, _, rfl, by simp, Nat.le_refl _, hn, (fun h => by cases h), fun x hx hp => ?_⟩
  cases hx
  refine ⟨rfl, fun i u hi => ?_⟩
  have hil : i < n := by
    have := (List.getElem?_eq_some_iff.1 hi).1
    simpa using this
  rw [Nat.zero_add, h.cell hil, ← hi]
  simp [hil]

theorem RdL.nil (w : World) : RdL w (.slice none 0 0) [] := ⟨none, 0, 0, rfl, rfl, Nat.le_refl _, by unfold maxLen; omega, fun _ => ⟨rfl, rfl⟩, fun x hx => by cases hx⟩

theorem same_step (xs ys : List Int) (k : Nat) (h1 : k < xs.length) (h2 : k < ys.length) (h : xs.take k = ys.take k) : (xs.take (k + 1) = ys.take (k + 1)) ↔ xs.getD k 0 = ys.getD k 0 := by
  rw [List.take_succ_eq_append_getElem h1, List.take_succ_eq_append_getElem h2, h]
  have e1 : xs.getD k 0 = xs[k] := by simp [List.getD, List.getElem?_eq_getElem h1]
  have e2 : ys.getD k 0 = ys[k] := by simp [List.getD, List.getElem?_eq_getElem h2]
  rw [e1, e2]
  constructor
  · intro q
    have := List.append_cancel_left q
    injection this
  · intro q
    rw [q]

theorem SameInts_any (v u : Value) (xs ys : List Int) (w : World) (h : RdL w v (ints xs)) (h' : RdL w u (ints ys)) :
    Calls Try.prog 13 #[v, u] w fun e w' => e = .returned (.bool (decide (xs = ys))) ∧ Below w.heap.size w w' := by
  obtain ⟨a, len, cap, rfl, hl, hc, hm, hn, hx⟩ := h.ex
  obtain ⟨a', len', cap', rfl, hl', hc', hm', hn', hx'⟩ := h'.ex
  rw [ints_length] at hl hl'
  subst hl
  subst hl'
  have HX := Lib.hid hx
  have HN := Lib.hid hn
  have HX' := Lib.hid hx'
  have HN' := Lib.hid hn'
  unfold maxLen at hm hm'
  clear hx hn hx' hn' h h'
  by_cases hlen : xs.length = ys.length
  · rw [← hlen] at hc' HX' HN' ⊢
    have HL := Lib.hid hlen
    clear hlen
    go_enter Try.func13, Try.ntmps13
    go_wp2
    go_loopw [5] (fun i wr => ∃ k : Nat, k ≤ xs.length ∧ i = .int .i64 k ∧ xs.take k = ys.take k ∧ Below w.heap.size w wr) (fun i _ => xs.length - (intOf i).toNat)
    case atStart => exact ⟨0, by omega, rfl, rfl, Below.refl _ _⟩
    case round =>
      obtain ⟨k, hk, rfl, hsame, hbr⟩ := hrel
      have HB := Lib.hid hbr
      have HS := Lib.hid hsame
      clear hbr hsame
      by_cases hlt : k < xs.length
      · match a, HX, HN, a', HX', HN' with
        | none, _, HN, _, _, _ => have := (HN.out rfl).1; omega
        | some _, _, _, none, _, HN' => have := (HN'.out rfl).1; omega
        | some ⟨g, o, sp⟩, HX, _, some ⟨g', o', sp'⟩, HX', _ =>
          obtain ⟨e1, f1⟩ := HX.out _ rfl (by omega)
          obtain ⟨e2, f2⟩ := HX'.out _ rfl (by omega)
          simp only at e1 e2 f1 f2
          subst e1
          subst e2
          have k1 := f1 k _ (ints_get xs k hlt)
          have k2 := f2 k _ (ints_get ys k (HL.out ▸ hlt))
          have m1 : wr.cell? ⟨g, o + k, none⟩ = some (.int .i64 (xs.getD k 0)) := by rw [HB.out.cell (lt_of_cell k1)]; exact k1
          have m2 : wr.cell? ⟨g', o' + k, none⟩ = some (.int .i64 (ys.getD k 0)) := by rw [HB.out.cell (lt_of_cell k2)]; exact k2
          have ST := Lib.hid (same_step xs ys k hlt (HL.out ▸ hlt) HS.out)
          clear f1 f2 k1 k2
          generalize xs.getD k 0 = x at *
          generalize ys.getD k 0 = y at *
          by_cases hxy : x = y
          · subst hxy
            go_wp2_with fail
            go_region
            all_goals go_wp2_with fail
            all_goals go_roundw
            case rel => exact ⟨k + 1, by omega, by go_num, ST.out.2 trivial, HB.out.drew⟩
            case measure => simp [intOf]; omega
          · have hne : xs ≠ ys := fun q => hxy (ST.out.1 (by rw [q]))
            have e1 : decide (x = y) = false := decide_eq_false hxy
            have NE := Lib.hid (decide_eq_false hne)
            clear hne
            go_wp2_with fail
            go_region
            all_goals go_wp2_with fail
            all_goals go_ret
            all_goals exact ⟨by rw [NE.out]; rfl, HB.out.drew⟩
      · obtain rfl : k = xs.length := by omega
        have he : xs = ys := by
          have := HS.out
          rwa [List.take_length, HL.out, List.take_length] at this
        have EQ := Lib.hid (decide_eq_true he)
        clear he
        go_wp2
        go_ret
        exact ⟨by rw [EQ.out]; rfl, HB.out⟩
  · have NE := Lib.hid (decide_eq_false (fun q : xs = ys => hlen (by rw [q])))
    go_enter Try.func13, Try.ntmps13
    go_wp2
    go_ret
    exact ⟨by rw [NE.out]; rfl, Below.refl _ _⟩

/-- Pass, whatever passes. -/
def passCode (p : Int) : Int := if 1 ≤ p ∧ p ≤ 1000 then 0 else 1
def passI (s : St) (p : Int) : St := if 1 ≤ p ∧ p ≤ 1000 then Clk.pass s p else s
def movesI (s : St) (p : Int) : List Int := if 1 ≤ p ∧ p ≤ 1000 then (List.range s.n).map (Clk.mv s p) else []

theorem ok_passI {s : St} {B : Int} (h : Clk.Ok s B) (p : Int) (hB : 0 ≤ B) : Clk.Ok (passI s p) (B + 16000) := by
  unfold passI
  by_cases hp : 1 ≤ p ∧ p ≤ 1000
  · rw [if_pos hp]
    exact h.pass p hp.1 hp.2 hB
  · rw [if_neg hp]
    exact h.mono (by omega)

theorem moves_row (s : St) (p : Int) : (List.range s.n).map (mvK s p s.n) = ints ((List.range s.n).map (Clk.mv s p)) := by
  unfold ints
  rw [List.map_map]
  apply List.map_congr_left
  intro i hi
  unfold mvK
  rw [if_pos (List.mem_range.1 hi)]
  rfl

theorem Pass_all (w : World) (b : Nat) (s : St) (p : Int) (B : Int) (h : HasC w b s) (ok : Clk.Ok s B) (hB0 : 0 ≤ B) (hB : B ≤ 1000000000000) :
    Calls Try.prog 11 #[pt b, .int .i64 p] w fun e w' => (∃ a l c, e = .returned (.tuple #[.slice a l c, .int .i64 (passCode p)]) ∧ RdL w' (.slice a l c) (ints (movesI s p))) ∧ HasC w' b (passI s p) ∧ w.grownBy w' (some b) := by
  unfold passCode passI movesI
  by_cases hp : 1 ≤ p ∧ p ≤ 1000
  · rw [if_pos hp, if_pos hp, if_pos hp]
    refine (Pass_any w b s p B h ok hB0 hB hp.1 hp.2).mono ?_
    rintro e w' ⟨⟨g, _, rfl, hr⟩, hc, hg⟩
    refine ⟨⟨_, _, _, rfl, ?_⟩, hc, hg⟩
    rw [← moves_row]
    exact RdL.row hr (by have := ok.n; unfold maxLen; omega)
  · rw [if_neg hp, if_neg hp, if_neg hp]
    refine (Pass_bad w b p (by omega)).mono ?_
    rintro e w' ⟨rfl, rfl⟩
    exact ⟨⟨none, 0, 0, rfl, RdL.nil _⟩, h, World.grownBy.refl _ _⟩

/-- The document's example. -/
def ex1 : St := Clk.setI (Clk.new 2) 1 4611686018427387904
def ex2 : St := Clk.pass ex1 5

theorem ex_moves : (List.range ex1.n).map (mvK ex1 5 ex1.n) = ints [5, 10] := by
  have h0 : Clk.mv ex1 5 0 = 5 := by decide +kernel
  have h1 : Clk.mv ex1 5 1 = 10 := by decide +kernel
  have hn : ex1.n = 2 := by decide +kernel
  rw [hn]
  show [mvK ex1 5 2 0, mvK ex1 5 2 1] = _
  unfold mvK
  rw [h0, h1]
  rfl
theorem ex_worst : ex2.worst = 1000 := by decide +kernel
theorem ex_ref : ex2.ref = 5 := by decide +kernel
theorem ex_now : Clk.nowI ex2 1 = 10 := by decide +kernel

theorem rdl_lit (w : World) (cs : Array Value) (t : TypeId) (hm : cs.size ≤ maxLen) : RdL (w.alloc (.cells cs t)) (.slice (some ⟨w.heap.size, 0, none⟩) cs.size cs.size) cs.toList := by
  refine RdL.own (base := w.heap.size) (e := t) (n := cs.size) ⟨by simp, .inr ⟨w.heap.size, cs.size, cs, rfl, Nat.le_refl _, ?_, Nat.le_refl _, hm, by simp, ?_⟩⟩
  · exact heap_alloc_new w _
  · rw [Nat.mul_one, ← Array.length_toList, List.take_length]

theorem grown_below {a b : World} {g : Nat} {A : Nat} (h : a.grownBy b (some g)) (hA : A ≤ g) (hs : A ≤ a.heap.size) : Below A a b :=
  ⟨h.os, h.tape, h.output, h.size, fun k hk => h.block k (by omega) (by intro q; injection q; omega)⟩

theorem awake_ok (w : World) : Calls Try.prog 8 #[] w fun e w' => e = .returned (.bool true) ∧ Below w.heap.size w w' := by
  go_enter Try.func8, Try.ntmps8
  go_wp2_with fail
  refine (New_any 2 w).mono ?_
  rintro e w1 ⟨rfl, hc1, hb1⟩
  have HC1 := Lib.hid hc1
  have HB1 := Lib.hid hb1
  have S1 := Lib.hid hb1.size
  clear hc1 hb1
  go_wp2_with fail
  refine (Set_any w1 _ _ 1 4611686018427387904 HC1.out (Clk.clampH_le 2)).mono ?_
  rintro e w2 ⟨rfl, hc2, hg2⟩
  have HC2 : Hid (HasC w2 w.heap.size ex1) := hc2
  have HB2 := Lib.hid (HB1.out.trans (grown_below hg2 (Nat.le_refl _) S1.out))
  clear hc2 hg2
  rw [show setCode (Clk.new 2) 1 = 0 by decide +kernel]
  go_wp2_with fail
  refine (Pass_any w2 _ _ 5 0 HC2.out ((Clk.ok_new 2).setI 1 _ (by omega)) (by omega) (by omega) (by omega) (by omega)).mono ?_
  rintro e w3 ⟨⟨g, hg, rfl, hr3⟩, hc3, hg3⟩
  have HC3 : Hid (HasC w3 w.heap.size ex2) := hc3
  have HB3 := Lib.hid (HB2.out.trans (grown_below hg3 (Nat.le_refl _) HB2.out.size))
  have R3 := Lib.hid (RdL.row hr3 (by have : ex1.n = 2 := by decide +kernel
                                      rw [this]; unfold maxLen; omega))
  rw [ex_moves] at R3
  clear hc3 hg3 hr3 hg
  have SI : Hid (∀ w' v u, RdL w' v (ints [5, 10]) → RdL w' u (ints [5, 10]) → Calls Try.prog 13 #[v, u] w' fun e w'' => e = .returned (.bool true) ∧ Below w'.heap.size w' w'') := fun w' v u h h' => SameInts_any v u [5, 10] [5, 10] w' h h'
  rw [show ex1.n = 2 by decide +kernel] at R3 ⊢
  go_wp2_with fail
  refine (SI.out _ _ _ (R3.out.later (newAlloc w3 _)) (rdl_lit w3 #[.int .i64 5, .int .i64 10] _ (by simp [maxLen]))).mono ?_
  rintro e w4 ⟨rfl, hb4⟩
  have HC4 := Lib.hid ((HC3.out.below (newAlloc w3 _)).below hb4)
  have HB4 := Lib.hid ((HB3.out.alloc HB3.out.size _).trans (hb4.mono (Nat.le_trans HB3.out.size (by simp))))
  clear hb4
  go_wp2_with fail
  refine (Worst_any w4 _ _ HC4.out).mono ?_
  rintro e w' ⟨rfl, rfl⟩
  rw [ex_worst]
  go_wp2_with fail
  refine (Ref_any w4 _ _ HC4.out).mono ?_
  rintro e w' ⟨rfl, rfl⟩
  rw [ex_ref]
  go_wp2_with fail
  refine (Now_any w4 _ _ 1 HC4.out (Clk.clampH_le 2)).mono ?_
  rintro e w' ⟨rfl, rfl⟩
  rw [ex_now]
  go_wp2_with fail
  go_ret
  exact ⟨rfl, HB4.out⟩
end Go.Proofs.Ythpfkbdbioabaaa
