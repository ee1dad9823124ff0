/- Contracts of the document's clocks, on: Pass. -/
import Derived.Test.YthpfkbdbioabaaaClkS
set_option linter.unusedVariables false
set_option linter.unusedSimpArgs false
namespace Go.Proofs.Ythpfkbdbioabaaa
open Go.RowKit
attribute [local go_sem] Dbl.run_fadd Dbl.run_fsub Dbl.run_fmul Dbl.run_fdiv Dbl.run_fmax Dbl.run_fmin Dbl.unary_fneg Dbl.ford_lt Dbl.ford_gt Dbl.ford_eq Dbl.ford_ne Dbl.pick_told Dbl.pickW_told run_store_float

open Clk (St)

theorem RefPass_bad (w : World) (b : Nat) (p : Int) (hp : p < 1 ∨ 1000 < p) :
    Calls Try.prog 12 #[pt b, .int .i64 p] w fun e w' => e = .returned (.tuple #[.slice none 0 0, .int .i64 1]) ∧ w = w' := by
  rcases (by omega : p < 1 ∨ (¬ p < 1 ∧ 1000 < p)) with h | ⟨h1, h2⟩
  · clear hp
    go_enter Try.func12, Try.ntmps12
    go_wp2
    go_ret2
    exact ⟨rfl, rfl⟩
  · clear hp
    go_enter Try.func12, Try.ntmps12
    go_wp2
    go_ret2
    exact ⟨rfl, rfl⟩

theorem RefPass_any (w : World) (b bs br : Nat) (s : St) (p : Int) (B : Int) (h : HasR w b bs br s) (ok : Clk.Ok s B) (hB0 : 0 ≤ B) (hB : B ≤ 1000000000000) (h1 : 1 ≤ p) (h2 : p ≤ 1000) :
    Calls Try.prog 12 #[pt b, .int .i64 p] w fun e w' => (∃ g, w.heap.size ≤ g ∧ e = .returned (.tuple #[.slice (some ⟨g, 0, none⟩) s.n s.n, .int .i64 0]) ∧ w'.rowIs g 3 s.n (mvK s p s.n)) ∧ HasR w' b bs br (Clk.pass s p) ∧ Chg b bs br w w' := by
  have hn := ok.n
  have c1 := h.c1
  have lb := h.obj.lt
  have lbs := h.sh.lt
  have lbr := h.rt.lt
  have hmk := run_make_row' (P := Try.prog) 31 3 (.int .i64 0) 8 Try.underlying31 infoI rfl .i64 .i64 s.n (by omega) (by omega)
  have H1 : Hid (HasR (w.alloc (.cells (madeCells #[.int .i64 0] s.n) 3)) b bs br s) := h.below (newAlloc w _)
  have R1 : Hid ((w.alloc (.cells (madeCells #[.int .i64 0] s.n) 3)).rowIs w.heap.size 3 s.n (mvK s p 0)) := (World.rowIs_made w (.int .i64 0) s.n 3)
  have G1 : Hid (Chg b bs br w (w.alloc (.cells (madeCells #[.int .i64 0] s.n) 3))) := (Chg.refl _ _ _ w).alloc _
  have OK := Lib.hid ok
  clear ok h
  go_enter Try.func12, Try.ntmps12
  go_wp2
  go_loopw [7] (fun i wr => ∃ k : Nat, k ≤ s.n ∧ i = .int .i64 k ∧ HasR wr b bs br (Clk.part s p k) ∧ wr.rowIs w.heap.size 3 s.n (mvK s p k) ∧ Chg b bs br w wr) (fun i _ => s.n - (intOf i).toNat)
  case atStart => exact ⟨0, by omega, rfl, by rw [Clk.part_zero]; exact H1.out, R1.out, G1.out⟩
  case round =>
    obtain ⟨k, hk, rfl, hc, hr, hg⟩ := hrel
    have HC := Lib.hid hc
    have HR := Lib.hid hr
    have HG := Lib.hid hg
    have hsz := hg.size
    clear hg
    by_cases hlt : k < s.n
    · have k1 : wr.cell? ⟨b, 1, none⟩ = some (.slice (some ⟨br, 0, none⟩) s.n s.n) := hc.c1
      have k2 : wr.cell? ⟨br, k, none⟩ = some (.float .f64 (s.rate k)) := hc.rt.cell (i := k) hlt
      have c3 := hr.cell hlt
      have c4 := hr.frozen k
      clear hc hr
      have CM : Hid (∀ w, Calls Try.prog 25 #[.float .f64 (s.rate k), .int .i64 p] w fun e w' => e = .returned (.int .i64 (Clk.mv s p k)) ∧ w = w') := fun w => RefMove_any _ p w (OK.out.rate k)
      go_upto_region 9 with (go_at_call 25; refine (CM.out _).mono ?_; rintro e w' ⟨rfl, rfl⟩)
      obtain ⟨w1, hw1⟩ : ∃ x, x = wr.setCell ⟨w.heap.size, k, none⟩ (.int .i64 (Clk.mv s p k)) := ⟨_, rfl⟩
      have HC1 : Hid (HasR w1 b bs br (Clk.part s p k)) := by
        rw [hw1]
        exact HC.out.later (Go.Deep.blk_setCell_other _ _ _ _ (by show b ≠ w.heap.size; omega)) (Go.Deep.blk_setCell_other _ _ _ _ (by show bs ≠ w.heap.size; omega)) (Go.Deep.blk_setCell_other _ _ _ _ (by show br ≠ w.heap.size; omega))
      have HR1 : Hid (w1.rowIs w.heap.size 3 s.n (mvK s p (k + 1))) := by rw [hw1]; exact (HR.out.set k _).congr fun j _ => mvK_set s p k j
      have HG1 : Hid (Chg b bs br w w1) := by rw [hw1]; exact HG.out.set _ _ (.inr (.inr (.inr (Nat.le_refl _))))
      rw [← hw1]
      have okp := OK.out.part p h1 k hB0
      have d0 : w1.cell? ⟨b, 0, none⟩ = some (.slice (some ⟨bs, 0, none⟩) s.n s.n) := HC1.out.c0
      have d1 := HC1.out.sh.cell (i := k) hlt
      have d2 := HC1.out.sh.frozen k
      have b1 := okp.shown k
      have b2 := OK.out.mv p k
      have b3 := okp.worst
      have HS := Lib.hid (passK s p k)
      clear hw1 c3 c4 CM okp k1 k2 HC HR HG
      generalize hsk : (Clk.part s p k).shown k = sk at *
      generalize hmk2 : Clk.mv s p k = mk at *
      go_region
      obtain ⟨w2, hw2⟩ : ∃ x, x = (w1.setCell ⟨bs, k, none⟩ (.int .i64 (sk + mk))).drew := ⟨_, rfl⟩
      have HC2 : Hid (HasR w2 b bs br { Clk.part s p k with shown := Clk.upd (Clk.part s p k).shown k (sk + mk) }) := by rw [hw2]; exact (HC1.out.setShown k _).drew
      have HR2 : Hid (w2.rowIs w.heap.size 3 s.n (mvK s p (k + 1))) := by rw [hw2]; exact (HR1.out.setOther (a := ⟨bs, k, none⟩) (by show w.heap.size ≠ bs; omega) _).drew
      have HG2 : Hid (Chg b bs br w w2) := by rw [hw2]; exact (HG1.out.set _ _ (.inr (.inl rfl))).drew
      rw [← hw2]
      have e3 : w2.cell? ⟨b, 3, none⟩ = some (.int .i64 (Clk.part s p k).worst) := HC2.out.c3
      have f3 := HC2.out.obj.frozen 3
      obtain ⟨d, hd⟩ : ∃ d : Int, (if mk - p < p - mk then p - mk else mk - p) = d := ⟨_, rfl⟩
      have hdm : d = max (mk - p) (p - mk) := by rw [← hd]; split <;> omega
      have hd0 : 0 ≤ d ∧ d ≤ 17000 := by omega
      obtain ⟨Q, hq2⟩ : ∃ Q : Int, (1000 * d + p - 1) / p = Q := ⟨_, rfl⟩
      have hq1 : (1000 * d + p - 1).tdiv p = Q := by rw [Int.tdiv_eq_ediv_of_nonneg (by omega)]; exact hq2
      have hQ0 : 0 ≤ Q := by rw [← hq2]; exact Int.ediv_nonneg (by omega) (by omega)
      have hQ1 : Q ≤ 1000 * d + p - 1 := by rw [← hq2]; exact Int.ediv_le_self _ (by omega)
      obtain ⟨nd, hnd⟩ : ∃ nd : Int, (if 1001 < Q then 1001 else Q) = nd := ⟨_, rfl⟩
      have HND : Hid (Clk.need p mk = nd) := by
        show Clk.need p mk = nd
        unfold Clk.need
        rw [← hdm, hq2, ← hnd]
        split <;> omega
      rw [HND.out] at HS
      generalize hwk : (Clk.part s p k).worst = wk at *
      obtain ⟨nw, hnw⟩ : ∃ nw : Int, (if wk < nd then nd else wk) = nw := ⟨_, rfl⟩
      have HNW : Hid (max wk nd = nw) := by show max wk nd = nw; rw [← hnw]; split <;> omega
      have hnd0 : 0 ≤ nd ∧ nd ≤ 1001 := by rw [← hnd]; split <;> omega
      rw [HNW.out] at HS
      clear hw2 d0 d1 d2 HC1 HR1 HG1 hdm hsk hmk2 hwk HND HNW hq2
      go_wp2_with fail
      go_region
      go_wp2_with fail
      go_roundw
      case rel =>
        refine ⟨k + 1, by omega, by go_num, ?_, (HR2.out.setOther (a := ⟨b, 3, none⟩) (by show w.heap.size ≠ b; omega) _).drew, (HG2.out.set _ _ (.inl rfl)).drew⟩
        rw [← HS.out]
        exact (HC2.out.setWorst nw).drew
      case measure => simp [intOf]; omega
    · obtain rfl : k = s.n := by omega
      have k1 : wr.cell? ⟨b, 1, none⟩ = some (.slice (some ⟨br, 0, none⟩) s.n s.n) := hc.c1
      have c5 : wr.cell? ⟨b, 2, none⟩ = some (.int .i64 s.ref) := hc.c2
      have c6 := hc.obj.frozen 2
      clear hc hr
      have b1 := OK.out.ref
      have NB : Hid (w.heap.size ≠ b) := by intro q; omega
      go_wp2
      go_ret2
      exact ⟨⟨w.heap.size, Nat.le_refl _, rfl, HR.out.setOther (a := ⟨b, 2, none⟩) NB.out _⟩, HC.out.setRef _, HG.out.set _ _ (.inl rfl)⟩

theorem RefPass_all (w : World) (b bs br : Nat) (s : St) (p : Int) (B : Int) (h : HasR w b bs br s) (ok : Clk.Ok s B) (hB0 : 0 ≤ B) (hB : B ≤ 1000000000000) :
    Calls Try.prog 12 #[pt b, .int .i64 p] w fun e w' => (∃ a l c, e = .returned (.tuple #[.slice a l c, .int .i64 (passCode p)]) ∧ RdL w' (.slice a l c) (ints (movesI s p))) ∧ HasR w' b bs br (passI s p) ∧ Chg b bs br w w' := by
  unfold passCode passI movesI
  by_cases hp : 1 ≤ p ∧ p ≤ 1000
  · rw [if_pos hp, if_pos hp, if_pos hp]
    refine (RefPass_any w b bs br s p B h ok hB0 hB hp.1 hp.2).mono ?_
    rintro e w' ⟨⟨g, _, rfl, hr⟩, hc, hg⟩
    refine ⟨⟨_, _, _, rfl, ?_⟩, hc, hg⟩
    rw [← moves_row]
    exact RdL.row hr (by have := ok.n; unfold maxLen; omega)
  · rw [if_neg hp, if_neg hp, if_neg hp]
    refine (RefPass_bad w b p (by omega)).mono ?_
    rintro e w' ⟨rfl, rfl⟩
    exact ⟨⟨none, 0, 0, rfl, RdL.nil _⟩, h, Chg.refl _ _ _ _⟩
end Go.Proofs.Ythpfkbdbioabaaa
