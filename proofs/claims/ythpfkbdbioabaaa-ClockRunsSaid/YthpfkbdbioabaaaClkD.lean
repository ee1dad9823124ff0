/- Contracts of package clock, on: Pass. -/
import Derived.Test.YthpfkbdbioabaaaClkC
import Derived.Deep.Cut
set_option linter.unusedVariables false
set_option linter.unusedSimpArgs false
namespace Go.Proofs.Ythpfkbdbioabaaa
open Go.RowKit
attribute [local go_sem] Dbl.run_fadd Dbl.run_fsub Dbl.run_fmul Dbl.run_fdiv Dbl.run_fmax Dbl.run_fmin Dbl.unary_fneg Dbl.ford_lt Dbl.ford_gt Dbl.ford_eq Dbl.ford_ne Dbl.pick_told Dbl.pickW_told run_store_float

open Clk (St)

theorem infoI : (Try.prog.info? 3).map (fun i => (i.zero, i.size, i.bytes)) = some (some (.int .i64 0), 1, 8) := by kernel_rfl

theorem Pass_bad (w : World) (b : Nat) (p : Int) (hp : p < 1 ∨ 1000 < p) :
    Calls Try.prog 11 #[pt b, .int .i64 p] w fun e w' => e = .returned (.tuple #[.slice none 0 0, .int .i64 1]) ∧ w = w' := by
  rcases (by omega : p < 1 ∨ (¬ p < 1 ∧ 1000 < p)) with h | ⟨h1, h2⟩
  · clear hp
    go_enter Try.func11, Try.ntmps11
    go_wp2
    go_ret2
    exact ⟨rfl, rfl⟩
  · clear hp
    go_enter Try.func11, Try.ntmps11
    go_wp2
    go_ret2
    exact ⟨rfl, rfl⟩

theorem Pass_nil (w : World) (p : Int) :
    Calls Try.prog 11 #[.pointer none, .int .i64 p] w fun e w' => e = .returned (.tuple #[.slice none 0 0, .int .i64 6]) ∧ w = w' := by
  go_enter Try.func11, Try.ntmps11
  go_wp2
  go_ret2
  exact ⟨rfl, rfl⟩

/-- The moves, the first k of them known. -/
def mvK (s : St) (p : Int) (k : Nat) (i : Nat) : Value := if i < k then .int .i64 (Clk.mv s p i) else .int .i64 0

theorem mvK_set (s : St) (p : Int) (k j : Nat) : (if j = k then Value.int .i64 (Clk.mv s p k) else mvK s p k j) = mvK s p (k + 1) j := by
  unfold mvK
  by_cases e : j = k
  · subst e
    rw [if_pos rfl, if_pos (by omega)]
  · rw [if_neg e]
    by_cases h : j < k
    · rw [if_pos h, if_pos (by omega)]
    · rw [if_neg h, if_neg (by omega)]

theorem grown_step {a b : World} {g : Nat} (h : a.grownBy b (some g)) {ad : Addr} (ha : ad.block = g ∨ a.heap.size ≤ ad.block) (v : Value) : a.grownBy (b.setCell ad v) (some g) := by
  refine ⟨h.os, h.tape, h.output, by simpa [World.setCell] using h.size, fun j hj hne => ?_⟩
  have hj' : j ≠ ad.block := by
    intro e
    rcases ha with q | q
    · exact hne (by rw [e, q])
    · omega
  exact (Below.heap_setCell _ _ _ _ hj').trans (h.block j hj hne)

/-- What a round does to the program's clocks. -/
theorem passK (s : St) (p : Int) (k : Nat) : ({ ({ Clk.part s p k with shown := Clk.upd (Clk.part s p k).shown k ((Clk.part s p k).shown k + Clk.mv s p k) } : St) with worst := max (Clk.part s p k).worst (Clk.need p (Clk.mv s p k)) } : St) = Clk.part s p (k + 1) := by
  rw [Clk.part_succ]

theorem Pass_any (w : World) (b : Nat) (s : St) (p : Int) (B : Int) (h : HasC w b s) (ok : Clk.Ok s B) (hB0 : 0 ≤ B) (hB : B ≤ 1000000000000) (h1 : 1 ≤ p) (h2 : p ≤ 1000) :
    Calls Try.prog 11 #[pt b, .int .i64 p] w fun e w' => (∃ g, w.heap.size ≤ g ∧ e = .returned (.tuple #[.slice (some ⟨g, 0, none⟩) s.n s.n, .int .i64 0]) ∧ w'.rowIs g 3 s.n (mvK s p s.n)) ∧ HasC w' b (Clk.pass s p) ∧ w.grownBy w' (some b) := by
  have hn := ok.n
  have c1 := h.cnt
  have hlt := h.lt
  have hmk := run_make_row' (P := Try.prog) 31 3 (.int .i64 0) 8 Try.underlying31 infoI rfl .i64 .i64 s.n (by omega) (by omega)
  have g0 : ∀ w : World, w.grownBy (w.alloc (.cells (madeCells #[.int .i64 0] s.n) 3)) (some b) := fun w => ⟨rfl, rfl, rfl, by rw [Go.Deep.nblk_alloc]; omega, fun k hk _ => Go.Deep.blk_alloc_lt _ _ _ hk⟩
  have H1 : Hid (HasC (w.alloc (.cells (madeCells #[.int .i64 0] s.n) 3)) b s) := h.later (Go.Deep.blk_alloc_lt _ _ _ hlt)
  have R1 : Hid ((w.alloc (.cells (madeCells #[.int .i64 0] s.n) 3)).rowIs w.heap.size 3 s.n (mvK s p 0)) := (World.rowIs_made w (.int .i64 0) s.n 3)
  have G1 := Lib.hid (g0 w)
  have OK := Lib.hid ok
  clear g0 ok h
  go_enter Try.func11, Try.ntmps11
  go_wp2
  go_loopw [23, 7] (fun i j wr => ∃ k : Nat, k ≤ s.n ∧ i = .int .i64 k ∧ HasC wr b (Clk.part s p k) ∧ wr.rowIs w.heap.size 3 s.n (mvK s p k) ∧ w.grownBy wr (some b)) (fun i _ _ => s.n - (intOf i).toNat)
  case atStart => exact ⟨0, by omega, rfl, by rw [Clk.part_zero]; exact H1.out, R1.out, G1.out⟩
  case round =>
    obtain ⟨k, hk, rfl, hc, hr, hg⟩ := hrel
    have HC := Lib.hid hc
    have HR := Lib.hid hr
    have HG := Lib.hid hg
    clear hg
    by_cases hlt : k < s.n
    · have c2 : wr.cell? ⟨b, k * 2, none⟩ = some (.float .f64 (s.rate k)) := hc.rate k (by omega)
      have c3 := hr.cell hlt
      have c4 := hr.frozen k
      clear hc hr
      have CM : Hid (∀ w, Calls Try.prog 23 #[.float .f64 (s.rate k), .int .i64 p] w fun e w' => e = .returned (.int .i64 (Clk.mv s p k)) ∧ w = w') := fun w => Move_any _ p w (OK.out.rate k)
      go_upto_region 10 with (go_at_call 23; refine (CM.out _).mono ?_; rintro e w' ⟨rfl, rfl⟩)
      obtain ⟨w1, hw1⟩ : ∃ x, x = wr.setCell ⟨w.heap.size, k, none⟩ (.int .i64 (Clk.mv s p k)) := ⟨_, rfl⟩
      have HC1 : Hid (HasC w1 b (Clk.part s p k)) := by rw [hw1]; exact HC.out.later (Go.Deep.blk_setCell_other _ _ _ _ (by show b ≠ w.heap.size; omega))
      have HR1 : Hid (w1.rowIs w.heap.size 3 s.n (mvK s p (k + 1))) := by rw [hw1]; exact (HR.out.set k _).congr fun j _ => mvK_set s p k j
      have HG1 : Hid (w.grownBy w1 (some b)) := by rw [hw1]; exact grown_step HG.out (.inr (Nat.le_refl _)) _
      rw [← hw1]
      have okp := OK.out.part p h1 k hB0
      have d1 := HC1.out.shown k (by omega)
      have d2 := HC1.out.open_ (k * 2 + 1)
      have d3 : w1.cell? ⟨w.heap.size, k, none⟩ = some (.int .i64 (Clk.mv s p k)) := by
        have := HR1.out.cell hlt
        unfold mvK at this
        rwa [if_pos (by omega)] at this
      have b1 := okp.shown k
      have b2 := OK.out.mv p k
      have b3 := okp.worst
      have HS := Lib.hid (passK s p k)
      have JU : Hid (∀ w' s', HasC w' b s' → s'.worst = (Clk.part s p k).worst → Calls Try.prog 24 #[pt b, .int .i64 p, .int .i64 (Clk.mv s p k)] w' fun e w'' => (∃ u, e = .returned u) ∧ HasC w'' b { s' with worst := max s'.worst (Clk.need p (Clk.mv s p k)) } ∧ w'.grownBy w'' (some b)) := fun w' s' hh hw => judge_any w' b s' p _ hh h1 h2 b2.1 b2.2 (by omega) (by omega)
      clear hw1 c2 c3 c4 CM okp b3
      generalize hsk : (Clk.part s p k).shown k = sk at *
      generalize Clk.mv s p k = mk at *
      go_region
      obtain ⟨w2, hw2⟩ : ∃ x, x = (w1.setCell ⟨b, k * 2 + 1, none⟩ (.int .i64 (sk + mk))).drew := ⟨_, rfl⟩
      have HC2 : Hid (HasC w2 b { Clk.part s p k with shown := Clk.upd (Clk.part s p k).shown k (sk + mk) }) := by rw [hw2]; exact HC1.out.setShown k (by omega) _
      have HR2 : Hid (w2.rowIs w.heap.size 3 s.n (mvK s p (k + 1))) := by rw [hw2]; exact (HR1.out.setOther (a := ⟨b, k * 2 + 1, none⟩) (by show w.heap.size ≠ b; omega) _).drew
      have HG2 : Hid (w.grownBy w2 (some b)) := by rw [hw2]; exact grown_drew (grown_step HG1.out (.inl rfl) _)
      have d4 : w2.cell? ⟨w.heap.size, k, none⟩ = some (.int .i64 mk) := by
        have q1 := HR2.out.cell hlt
        have q2 := HR1.out.cell hlt
        rw [d3] at q2
        rw [q1, ← q2]
      rw [← hw2]
      clear hw2 d1 d2 d3 HC1 HR1 HG1 HC HR HG
      have hsz : w2.heap.size ≤ w2.heap.size := Nat.le_refl _
      have NB : Hid (some w.heap.size ≠ some b) := by intro q; injection q; omega
      have hs2 := HG2.out.size
      have hl2 := HR2.out.lt
      go_wp2_with (go_at_call 24; refine (JU.out _ _ HC2.out rfl).mono ?_; rintro e w3 ⟨⟨u, rfl⟩, hc3, hg3⟩; have HC3 := Lib.hid hc3; have HG3 := Lib.hid hg3; clear hc3 hg3)
      go_roundw
      case rel =>
        refine ⟨k + 1, by omega, by go_num, ?_, HR2.out.of_block (HG3.out.block _ hl2 NB.out), grown_trans HG2.out HG3.out⟩
        rw [← HS.out]
        exact HC3.out
      case measure => simp [intOf]; omega
    · obtain rfl : k = s.n := by omega
      clear hc hr
      have c5 := HC.out.ref
      have c6 := HC.out.open_ 31
      have b1 := OK.out.ref
      have e5 : (Clk.part s p s.n).ref = s.ref := rfl
      rw [e5] at c5
      have NB : Hid (w.heap.size ≠ b) := by intro q; omega
      clear e5
      go_wp2
      go_ret2
      exact ⟨⟨w.heap.size, Nat.le_refl _, rfl, HR.out.setOther (a := ⟨b, 31, none⟩) NB.out _⟩, HC.out.setRef _, grown_step HG.out (.inl rfl) _⟩
end Go.Proofs.Ythpfkbdbioabaaa
