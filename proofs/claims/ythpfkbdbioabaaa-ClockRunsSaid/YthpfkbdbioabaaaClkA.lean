/- Contracts of package clock: New, Len, Ref, Worst, Now, has. -/
import Derived.Test.YthpfkbdbioabaaaRateM
import Derived.Test.YthpfkbdbioabaaaFClk
import Derived.Deep.LoopGhost
set_option linter.unusedVariables false
set_option linter.unusedSimpArgs false
namespace Go.Proofs.Ythpfkbdbioabaaa
open Go.RowKit
attribute [local go_sem] Dbl.run_fadd Dbl.run_fsub Dbl.run_fmul Dbl.run_fdiv Dbl.run_fmax Dbl.run_fmin Dbl.unary_fneg Dbl.ford_lt Dbl.ford_gt Dbl.ford_eq Dbl.ford_ne Dbl.pick_told Dbl.pickW_told

/-- A float stored. -/
theorem run_store_float {P : Program} {w : World} {a : Addr} {m : Mode} (k : FloatKind) (x : Nat) : (store a (.float k x) m).run P w = stored P w a (.float k x) m := run_store P w a _ m rfl
attribute [local go_sem] run_store_float

open Clk (St)

/-- The cells of the program's clocks. -/
def cellC (s : St) (i : Nat) : Value :=
  if i < 30 then (if i % 2 = 0 then .float .f64 (s.rate (i / 2)) else .int .i64 (s.shown (i / 2)))
  else if i = 30 then .int .i64 s.n else if i = 31 then .int .i64 s.ref else .int .i64 s.worst

def HasC (w : World) (b : Nat) (s : St) : Prop := w.rowIs b 57 33 (cellC s)

theorem HasC.rate {w : World} {b : Nat} {s : St} (h : HasC w b s) (i : Nat) (hi : i < 15) : w.cell? ⟨b, i * 2, none⟩ = some (.float .f64 (s.rate i)) := by
  rw [World.rowIs.cell h (show i * 2 < 33 by omega)]
  unfold cellC
  rw [if_pos (by omega), if_pos (by omega), Nat.mul_div_cancel _ (by omega)]
theorem HasC.shown {w : World} {b : Nat} {s : St} (h : HasC w b s) (i : Nat) (hi : i < 15) : w.cell? ⟨b, i * 2 + 1, none⟩ = some (.int .i64 (s.shown i)) := by
  rw [World.rowIs.cell h (show i * 2 + 1 < 33 by omega)]
  unfold cellC
  rw [if_pos (by omega), if_neg (by omega), show (i * 2 + 1) / 2 = i by omega]
theorem HasC.cnt {w : World} {b : Nat} {s : St} (h : HasC w b s) : w.cell? ⟨b, 30, none⟩ = some (.int .i64 s.n) := World.rowIs.cell h (show 30 < 33 by omega)
theorem HasC.ref {w : World} {b : Nat} {s : St} (h : HasC w b s) : w.cell? ⟨b, 31, none⟩ = some (.int .i64 s.ref) := World.rowIs.cell h (show 31 < 33 by omega)
theorem HasC.worst {w : World} {b : Nat} {s : St} (h : HasC w b s) : w.cell? ⟨b, 32, none⟩ = some (.int .i64 s.worst) := World.rowIs.cell h (show 32 < 33 by omega)
theorem HasC.open_ {w : World} {b : Nat} {s : St} (h : HasC w b s) (o : Nat) : w.frozen? ⟨b, o, none⟩ = false := World.rowIs.frozen h o
theorem HasC.lt {w : World} {b : Nat} {s : St} (h : HasC w b s) : b < w.heap.size := World.rowIs.lt h

theorem HasC.setRate {w : World} {b : Nat} {s : St} (h : HasC w b s) (i : Nat) (hi : i < 15) (r : Nat) : HasC (w.setCell ⟨b, i * 2, none⟩ (.float .f64 r)) b { s with rate := Clk.upd s.rate i r } := by
  refine (World.rowIs.set h (i * 2) (.float .f64 r)).congr fun j hj => ?_
  unfold cellC
  by_cases e : j = i * 2
  · rw [if_pos e, if_pos (by omega), if_pos (by omega), show j / 2 = i by omega]
    show _ = Value.float .f64 (Clk.upd s.rate i r i)
    rw [Clk.upd_same]
  · rw [if_neg e]
    by_cases h30 : j < 30
    · rw [if_pos h30, if_pos h30]
      by_cases h2 : j % 2 = 0
      · rw [if_pos h2, if_pos h2]
        show _ = Value.float .f64 (Clk.upd s.rate i r (j / 2))
        rw [Clk.upd_other _ _ _ _ (by omega)]
      · rw [if_neg h2, if_neg h2]
    · rw [if_neg h30, if_neg h30]

theorem HasC.setShown {w : World} {b : Nat} {s : St} (h : HasC w b s) (i : Nat) (hi : i < 15) (r : Int) : HasC (w.setCell ⟨b, i * 2 + 1, none⟩ (.int .i64 r)) b { s with shown := Clk.upd s.shown i r } := by
  refine (World.rowIs.set h (i * 2 + 1) (.int .i64 r)).congr fun j hj => ?_
  unfold cellC
  by_cases e : j = i * 2 + 1
  · rw [if_pos e, if_pos (by omega), if_neg (by omega), show j / 2 = i by omega]
    show _ = Value.int .i64 (Clk.upd s.shown i r i)
    rw [Clk.upd_same]
  · rw [if_neg e]
    by_cases h30 : j < 30
    · rw [if_pos h30, if_pos h30]
      by_cases h2 : j % 2 = 0
      · rw [if_pos h2, if_pos h2]
      · rw [if_neg h2, if_neg h2]
        show _ = Value.int .i64 (Clk.upd s.shown i r (j / 2))
        rw [Clk.upd_other _ _ _ _ (by omega)]
    · rw [if_neg h30, if_neg h30]

theorem HasC.setRef {w : World} {b : Nat} {s : St} (h : HasC w b s) (r : Int) : HasC (w.setCell ⟨b, 31, none⟩ (.int .i64 r)) b { s with ref := r } := by
  refine (World.rowIs.set h 31 (.int .i64 r)).congr fun j hj => ?_
  unfold cellC
  by_cases e : j = 31
  · rw [if_pos e, if_neg (by omega), if_neg (by omega), if_pos e]
  · rw [if_neg e, if_neg e, if_neg e]

theorem HasC.setWorst {w : World} {b : Nat} {s : St} (h : HasC w b s) (r : Int) : HasC (w.setCell ⟨b, 32, none⟩ (.int .i64 r)) b { s with worst := r } := by
  refine (World.rowIs.set h 32 (.int .i64 r)).congr fun j hj => ?_
  unfold cellC
  by_cases e : j = 32
  · rw [if_pos e, if_neg (by omega), if_neg (by omega), if_neg (by omega)]
  · rw [if_neg e]
    by_cases h30 : j < 30
    · rw [if_pos h30, if_pos h30]
    · rw [if_neg h30, if_neg h30]
      by_cases h1 : j = 30
      · rw [if_pos h1, if_pos h1]
      · rw [if_neg h1, if_neg h1, if_pos (by omega), if_pos (by omega)]

theorem HasC.later {w w' : World} {b : Nat} {s : St} (h : HasC w b s) (e : w'.heap[b]? = w.heap[b]?) : HasC w' b s := World.rowIs.of_block h e
theorem HasC.below {w w' : World} {b : Nat} {s : St} (h : HasC w b s) (hb : Below w.heap.size w w') : HasC w' b s := h.later (hb.block b h.lt)

/-- What a new block of clocks holds. -/
theorem hasC_new (w : World) (m : Nat) : HasC (w.alloc (.cells #[.float .f64 0, .int .i64 0, .float .f64 0, .int .i64 0, .float .f64 0, .int .i64 0, .float .f64 0, .int .i64 0, .float .f64 0, .int .i64 0, .float .f64 0, .int .i64 0, .float .f64 0, .int .i64 0, .float .f64 0, .int .i64 0, .float .f64 0, .int .i64 0, .float .f64 0, .int .i64 0, .float .f64 0, .int .i64 0, .float .f64 0, .int .i64 0, .float .f64 0, .int .i64 0, .float .f64 0, .int .i64 0, .float .f64 0, .int .i64 0, .int .i64 m, .int .i64 0, .int .i64 0] 57)) w.heap.size (Clk.newK m 0) := by
  refine World.rowIs_alloc w _ _ _ fun i hi => ?_
  have hi' : i < 33 := hi
  clear hi
  iterate 33 (first | omega | (rcases i with _ | i; · rfl))
  omega

theorem New_any (n : Int) (w : World) :
    Calls Try.prog 9 #[.int .i64 n] w fun e w' => e = .returned (.pointer (some ⟨w.heap.size, 0, none⟩)) ∧ HasC w' w.heap.size (Clk.new n) ∧ Below w.heap.size w w' := by
  have hh := Clk.clampH_le n
  unfold Clk.new
  by_cases hlo : n < 0
  · rw [Clk.clampH_low n hlo] at hh ⊢
    clear hh
    go_enter Try.func9, Try.ntmps9
    go_wp2
    go_loopw [14, 4] (fun i j wr => i = .int .i64 0 ∧ wr = w.alloc (.cells #[.float .f64 0, .int .i64 0, .float .f64 0, .int .i64 0, .float .f64 0, .int .i64 0, .float .f64 0, .int .i64 0, .float .f64 0, .int .i64 0, .float .f64 0, .int .i64 0, .float .f64 0, .int .i64 0, .float .f64 0, .int .i64 0, .float .f64 0, .int .i64 0, .float .f64 0, .int .i64 0, .float .f64 0, .int .i64 0, .float .f64 0, .int .i64 0, .float .f64 0, .int .i64 0, .float .f64 0, .int .i64 0, .float .f64 0, .int .i64 0, .int .i64 0, .int .i64 0, .int .i64 0] 57)) (fun _ _ _ => 0)
    case atStart => exact ⟨rfl, rfl⟩
    case round =>
      obtain ⟨rfl, rfl⟩ := hrel
      go_wp2
      go_ret
      exact ⟨rfl, hasC_new w 0, newAlloc w _⟩
  · obtain ⟨m, hm, hml, hmc⟩ : ∃ m : Nat, min n 15 = (m : Int) ∧ m ≤ 15 ∧ Clk.clampH n = m := ⟨Clk.clampH n, by unfold Clk.clampH; omega, hh, rfl⟩
    rw [hmc]
    clear hh hmc
    by_cases hhi : 15 < n
    · obtain rfl : m = 15 := by omega
      clear hm hml
      go_enter Try.func9, Try.ntmps9
      go_wp2
      go_loopw [14, 4] (fun i j wr => ∃ k : Nat, k ≤ 15 ∧ i = .int .i64 k ∧ HasC wr w.heap.size (Clk.newK 15 k) ∧ Below w.heap.size w wr) (fun i _ _ => 15 - (intOf i).toNat)
      case atStart => exact ⟨0, by omega, rfl, hasC_new w 15, newAlloc w _⟩
      case round =>
        obtain ⟨k, hk, rfl, hc, hb⟩ := hrel
        have HC := Lib.hid hc
        have HB := Lib.hid hb
        clear hb
        by_cases hlt : k < 15
        · have c1 := hc.rate k hlt
          have c2 := hc.open_ (k * 2)
          clear hc
          go_wp2
          go_roundw
          case rel =>
            refine ⟨k + 1, by omega, by go_num, ?_, HB.out.setCell (Nat.le_refl _) _⟩
            rw [Clk.newK_succ]
            exact HC.out.setRate k hlt _
          case measure => simp [intOf]; omega
        · obtain rfl : k = 15 := by omega
          clear hc
          go_wp2
          go_ret
          exact ⟨rfl, HC.out, HB.out⟩
    · obtain rfl : n = m := by omega
      clear hm
      go_enter Try.func9, Try.ntmps9
      go_wp2
      go_loopw [14, 4] (fun i j wr => ∃ k : Nat, k ≤ m ∧ i = .int .i64 k ∧ HasC wr w.heap.size (Clk.newK m k) ∧ Below w.heap.size w wr) (fun i _ _ => m - (intOf i).toNat)
      case atStart => exact ⟨0, by omega, rfl, hasC_new w m, newAlloc w _⟩
      case round =>
        obtain ⟨k, hk, rfl, hc, hb⟩ := hrel
        have HC := Lib.hid hc
        have HB := Lib.hid hb
        clear hb
        by_cases hlt : k < m
        · have c1 := hc.rate k (by omega)
          have c2 := hc.open_ (k * 2)
          clear hc
          go_wp2
          go_roundw
          case rel =>
            refine ⟨k + 1, by omega, by go_num, ?_, HB.out.setCell (Nat.le_refl _) _⟩
            rw [Clk.newK_succ]
            exact HC.out.setRate k (by omega) _
          case measure => simp [intOf]; omega
        · obtain rfl : k = m := by omega
          clear hc
          go_wp2
          go_ret
          exact ⟨rfl, HC.out, HB.out⟩
end Go.Proofs.Ythpfkbdbioabaaa
