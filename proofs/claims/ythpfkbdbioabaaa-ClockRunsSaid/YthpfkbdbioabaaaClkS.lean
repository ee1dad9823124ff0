/- Contracts of the document's clocks, on: New, Pass. -/
import Derived.Test.YthpfkbdbioabaaaClkR
import Derived.Deep.Cut
set_option linter.unusedVariables false
set_option linter.unusedSimpArgs false
namespace Go.Proofs.Ythpfkbdbioabaaa
open Go.RowKit
attribute [local go_sem] Dbl.run_fadd Dbl.run_fsub Dbl.run_fmul Dbl.run_fdiv Dbl.run_fmax Dbl.run_fmin Dbl.unary_fneg Dbl.ford_lt Dbl.ford_gt Dbl.ford_eq Dbl.ford_ne Dbl.pick_told Dbl.pickW_told run_store_float

open Clk (St)

theorem hasR_new1 (w : World) (K : Nat) : HasR (((w.alloc (.cells (madeCells #[.int .i64 0] K) 3)).alloc (.cells (madeCells #[.float .f64 0] K) 37)).alloc (.cells #[.slice (some ⟨w.heap.size, 0, none⟩) K K, .slice (some ⟨w.heap.size + 1, 0, none⟩) K K, .int .i64 0, .int .i64 0] 42)) (w.heap.size + 1 + 1) w.heap.size (w.heap.size + 1) (Clk.newK K 0) := by
  refine ⟨?_, ?_, ?_, by omega, by omega, by omega⟩
  · have := World.rowIs_alloc ((w.alloc (.cells (madeCells #[.int .i64 0] K) 3)).alloc (.cells (madeCells #[.float .f64 0] K) 37)) #[.slice (some ⟨w.heap.size, 0, none⟩) K K, .slice (some ⟨w.heap.size + 1, 0, none⟩) K K, .int .i64 0, .int .i64 0] 42 (cellR w.heap.size (w.heap.size + 1) (Clk.newK K 0)) (fun i hi => by
      have hi' : i < 4 := hi
      rcases (by omega : i = 0 ∨ i = 1 ∨ i = 2 ∨ i = 3) with rfl | rfl | rfl | rfl <;> rfl)
    rwa [Go.Deep.nblk_alloc, Go.Deep.nblk_alloc] at this
  · exact ((World.rowIs_made w (.int .i64 0) K 3).alloc _).alloc _
  · have := (World.rowIs_made (w.alloc (.cells (madeCells #[.int .i64 0] K) 3)) (.float .f64 0) K 37).alloc (.cells #[.slice (some ⟨w.heap.size, 0, none⟩) K K, .slice (some ⟨w.heap.size + 1, 0, none⟩) K K, .int .i64 0, .int .i64 0] 42)
    rw [Go.Deep.nblk_alloc] at this
    exact this

theorem hasR_new2 (w : World) (K : Nat) : HasR (((w.alloc (.cells (madeCells #[.float .f64 0] K) 37)).alloc (.cells (madeCells #[.int .i64 0] K) 3)).alloc (.cells #[.slice (some ⟨w.heap.size + 1, 0, none⟩) K K, .slice (some ⟨w.heap.size, 0, none⟩) K K, .int .i64 0, .int .i64 0] 42)) (w.heap.size + 1 + 1) (w.heap.size + 1) w.heap.size (Clk.newK K 0) := by
  refine ⟨?_, ?_, ?_, by omega, by omega, by omega⟩
  · have := World.rowIs_alloc ((w.alloc (.cells (madeCells #[.float .f64 0] K) 37)).alloc (.cells (madeCells #[.int .i64 0] K) 3)) #[.slice (some ⟨w.heap.size + 1, 0, none⟩) K K, .slice (some ⟨w.heap.size, 0, none⟩) K K, .int .i64 0, .int .i64 0] 42 (cellR (w.heap.size + 1) w.heap.size (Clk.newK K 0)) (fun i hi => by
      have hi' : i < 4 := hi
      rcases (by omega : i = 0 ∨ i = 1 ∨ i = 2 ∨ i = 3) with rfl | rfl | rfl | rfl <;> rfl)
    rwa [Go.Deep.nblk_alloc, Go.Deep.nblk_alloc] at this
  · have := (World.rowIs_made (w.alloc (.cells (madeCells #[.float .f64 0] K) 37)) (.int .i64 0) K 3).alloc (.cells #[.slice (some ⟨w.heap.size + 1, 0, none⟩) K K, .slice (some ⟨w.heap.size, 0, none⟩) K K, .int .i64 0, .int .i64 0] 42)
    rw [Go.Deep.nblk_alloc] at this
    exact this
  · exact ((World.rowIs_made w (.float .f64 0) K 37).alloc _).alloc _

theorem RefNew_any (n : Int) (w : World) :
    Calls Try.prog 10 #[.int .i64 n] w fun e w' => ∃ b bs br, e = .returned (pt b) ∧ w.heap.size ≤ b ∧ w.heap.size ≤ bs ∧ w.heap.size ≤ br ∧ HasR w' b bs br (Clk.new n) ∧ Below w.heap.size w w' := by
  obtain ⟨M, hM⟩ : ∃ M : Int, (if n < 0 then 0 else n) = M := ⟨_, rfl⟩
  have hn : Clk.new n = Clk.newK (Clk.clampH n) (Clk.clampH n) := rfl
  obtain ⟨K, hH⟩ : ∃ K : Nat, Clk.clampH n = K := ⟨_, rfl⟩
  have hK : (if 15 < M then 15 else M) = (K : Int) := by
    rw [← hH]
    unfold Clk.clampH
    split at hM <;> split <;> omega
  have hK15 : K ≤ 15 := by rw [← hH]; exact Clk.clampH_le n
  rw [hn, hH]
  clear hn hH
  have mk1 := run_make_row' (P := Try.prog) 31 3 (.int .i64 0) 8 Try.underlying31 infoI rfl .i64 .i64 K (by omega) (by omega)
  have mk2 := run_make_row' (P := Try.prog) 40 37 (.float .f64 0) 8 Try.underlying40 infoF rfl .i64 .i64 K (by omega) (by omega)
  go_enter Try.func10, Try.ntmps10
  go_wp2_with fail
  go_region
  · obtain ⟨b, hb⟩ : ∃ x, x = w.heap.size + 1 + 1 := ⟨_, rfl⟩
    obtain ⟨bs, hbs⟩ : ∃ x, x = w.heap.size := ⟨_, rfl⟩
    obtain ⟨br, hbr⟩ : ∃ x, x = w.heap.size + 1 := ⟨_, rfl⟩
    obtain ⟨wi, hwi⟩ : ∃ x, x = ((w.alloc (.cells (madeCells #[.int .i64 0] K) 3)).alloc (.cells (madeCells #[.float .f64 0] K) 37)).alloc (.cells #[.slice (some ⟨w.heap.size, 0, none⟩) K K, .slice (some ⟨w.heap.size + 1, 0, none⟩) K K, .int .i64 0, .int .i64 0] 42) := ⟨_, rfl⟩
    have H0 : Hid (HasR wi.drew b bs br (Clk.newK K 0)) := by rw [hwi, hb, hbs, hbr]; exact (hasR_new1 w K).drew
    have LB : w.heap.size ≤ b ∧ w.heap.size ≤ bs ∧ w.heap.size ≤ br := by omega
    have HB0 : Hid (Below w.heap.size w wi.drew) := by rw [hwi]; exact (((newAlloc w _).alloc (by rw [Go.Deep.nblk_alloc]; omega) _).alloc (by rw [Go.Deep.nblk_alloc, Go.Deep.nblk_alloc]; omega) _).drew
    rw [← hwi, ← hb, ← hbr, ← hbs]
    clear hwi hb hbs hbr mk1 mk2
    go_wp2_with fail
    go_loopw [4] (fun i wr => ∃ k : Nat, k ≤ K ∧ i = .int .i64 k ∧ HasR wr b bs br (Clk.newK K k) ∧ Below w.heap.size w wr) (fun i _ => K - (intOf i).toNat)
    case atStart => exact ⟨0, by omega, rfl, H0.out, HB0.out⟩
    case round =>
      obtain ⟨k, hk, rfl, hr, hbl⟩ := hrel
      have HR := Lib.hid hr
      have HB := Lib.hid hbl
      clear hbl
      by_cases hlt : k < K
      · have c1 : wr.cell? ⟨b, 1, none⟩ = some (.slice (some ⟨br, 0, none⟩) K K) := hr.c1
        have c2 := hr.rt.cell (i := k) hlt
        have c3 := hr.rt.frozen k
        clear hr
        go_wp2
        go_roundw
        case rel =>
          refine ⟨k + 1, by omega, by go_num, ?_, HB.out.setCell LB.2.2 _⟩
          rw [Clk.newK_succ]
          exact HR.out.setRate k _
        case measure => simp [intOf]; omega
      · obtain rfl : k = K := by omega
        clear hr
        go_wp2
        go_ret
        exact ⟨b, bs, br, rfl, LB.1, LB.2.1, LB.2.2, HR.out, HB.out⟩
  · obtain ⟨b, hb⟩ : ∃ x, x = w.heap.size + 1 + 1 := ⟨_, rfl⟩
    obtain ⟨bs, hbs⟩ : ∃ x, x = w.heap.size + 1 := ⟨_, rfl⟩
    obtain ⟨br, hbr⟩ : ∃ x, x = w.heap.size := ⟨_, rfl⟩
    obtain ⟨wi, hwi⟩ : ∃ x, x = ((w.alloc (.cells (madeCells #[.float .f64 0] K) 37)).alloc (.cells (madeCells #[.int .i64 0] K) 3)).alloc (.cells #[.slice (some ⟨w.heap.size + 1, 0, none⟩) K K, .slice (some ⟨w.heap.size, 0, none⟩) K K, .int .i64 0, .int .i64 0] 42) := ⟨_, rfl⟩
    have H0 : Hid (HasR wi.drew b bs br (Clk.newK K 0)) := by rw [hwi, hb, hbs, hbr]; exact (hasR_new2 w K).drew
    have LB : w.heap.size ≤ b ∧ w.heap.size ≤ bs ∧ w.heap.size ≤ br := by omega
    have HB0 : Hid (Below w.heap.size w wi.drew) := by rw [hwi]; exact (((newAlloc w _).alloc (by rw [Go.Deep.nblk_alloc]; omega) _).alloc (by rw [Go.Deep.nblk_alloc, Go.Deep.nblk_alloc]; omega) _).drew
    rw [← hwi, ← hb, ← hbs, ← hbr]
    clear hwi hb hbs hbr mk1 mk2
    go_wp2_with fail
    go_loopw [4] (fun i wr => ∃ k : Nat, k ≤ K ∧ i = .int .i64 k ∧ HasR wr b bs br (Clk.newK K k) ∧ Below w.heap.size w wr) (fun i _ => K - (intOf i).toNat)
    case atStart => exact ⟨0, by omega, rfl, H0.out, HB0.out⟩
    case round =>
      obtain ⟨k, hk, rfl, hr, hbl⟩ := hrel
      have HR := Lib.hid hr
      have HB := Lib.hid hbl
      clear hbl
      by_cases hlt : k < K
      · have c1 : wr.cell? ⟨b, 1, none⟩ = some (.slice (some ⟨br, 0, none⟩) K K) := hr.c1
        have c2 := hr.rt.cell (i := k) hlt
        have c3 := hr.rt.frozen k
        clear hr
        go_wp2
        go_roundw
        case rel =>
          refine ⟨k + 1, by omega, by go_num, ?_, HB.out.setCell LB.2.2 _⟩
          rw [Clk.newK_succ]
          exact HR.out.setRate k _
        case measure => simp [intOf]; omega
      · obtain rfl : k = K := by omega
        clear hr
        go_wp2
        go_ret
        exact ⟨b, bs, br, rfl, LB.1, LB.2.1, LB.2.2, HR.out, HB.out⟩
end Go.Proofs.Ythpfkbdbioabaaa
