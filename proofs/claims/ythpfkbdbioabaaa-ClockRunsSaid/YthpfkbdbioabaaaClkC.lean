/- Contracts of package clock, on: judge, Pass. -/
import Derived.Test.YthpfkbdbioabaaaClkB
set_option linter.unusedVariables false
set_option linter.unusedSimpArgs false
namespace Go.Proofs.Ythpfkbdbioabaaa
open Go.RowKit
attribute [local go_sem] Dbl.run_fadd Dbl.run_fsub Dbl.run_fmul Dbl.run_fdiv Dbl.run_fmax Dbl.run_fmin Dbl.unary_fneg Dbl.ford_lt Dbl.ford_gt Dbl.ford_eq Dbl.ford_ne Dbl.pick_told Dbl.pickW_told run_store_float

open Clk (St)

theorem grown_trans {a b c : World} {r : Option Nat} (h : a.grownBy b r) (k : b.grownBy c r) : a.grownBy c r :=
  ⟨k.os.trans h.os, k.tape.trans h.tape, k.output.trans h.output, Nat.le_trans h.size k.size, fun i hi hne => (k.block i (Nat.lt_of_lt_of_le hi h.size) hne).trans (h.block i hi hne)⟩

theorem within_need (p m v : Int) (h1 : 1 ≤ p) (h2 : p ≤ 1000) (m0 : 0 ≤ m) (m1 : m ≤ 16000) (v0 : 0 ≤ v) (v1 : v ≤ 1000) : withinF p m v = decide (Clk.need p m ≤ v) := by
  unfold withinF
  rw [if_neg (by omega)]
  exact decide_eq_decide.2 (Clk.need_iff p m v h1 v1).symm

theorem judge_any (w : World) (b : Nat) (s : St) (p m : Int) (h : HasC w b s) (h1 : 1 ≤ p) (h2 : p ≤ 1000) (m0 : 0 ≤ m) (m1 : m ≤ 16000) (w0 : 0 ≤ s.worst) (w1 : s.worst ≤ 1001) :
    Calls Try.prog 24 #[pt b, .int .i64 p, .int .i64 m] w fun e w' => (∃ u, e = .returned u) ∧ HasC w' b { s with worst := max s.worst (Clk.need p m) } ∧ w.grownBy w' (some b) := by
  have hn := Clk.need_bounds p m h1
  have C : Hid (∀ v w, Calls Try.prog 22 #[.int .i64 p, .int .i64 m, .int .i64 v] w fun e w' => e = .returned (.bool (withinF p m v)) ∧ w = w') := fun v w => Within_any p m v w
  have WN : Hid (∀ v : Int, 0 ≤ v → v ≤ 1000 → withinF p m v = decide (Clk.need p m ≤ v)) := fun v => within_need p m v h1 h2 m0 m1
  generalize Clk.need p m = nd at *
  have H := Lib.hid h
  clear h
  go_enter Try.func24, Try.ntmps24
  go_wp2
  go_loopg [] (1002 - s.worst).toNat (fun g wr => ∃ v : Int, s.worst ≤ v ∧ v ≤ max s.worst nd ∧ g = (1002 - v).toNat ∧ HasC wr b { s with worst := v } ∧ w.grownBy wr (some b))
  case atStart => exact ⟨s.worst, by omega, by omega, rfl, H.out, World.grownBy.refl _ _⟩
  case round =>
    obtain ⟨v, v0, v1, rfl, hc, hg⟩ := hrel
    have c1 : wr.cell? ⟨b, 32, none⟩ = some (.int .i64 v) := hc.worst
    have c2 := hc.open_ 32
    have HC := Lib.hid hc
    have HG := Lib.hid hg
    clear hc hg
    by_cases hv : v ≤ 1000
    · have hw := WN.out v (by omega) hv
      have C' : Hid (∀ w, Calls Try.prog 22 #[.int .i64 p, .int .i64 m, .int .i64 v] w fun e w' => e = .returned (.bool (decide (nd ≤ v))) ∧ w = w') := fun w => by
        have := C.out v w
        rwa [hw] at this
      clear hw C
      by_cases hd : nd ≤ v
      · have e1 : decide (nd ≤ v) = true := decide_eq_true hd
        rw [e1] at C'
        have FI := Lib.hid (show max s.worst nd = v by omega)
        clear e1
        go_wp2_with (go_at_call 22; refine (C'.out _).mono ?_; rintro e w' ⟨rfl, rfl⟩)
        go_end0
        exact ⟨⟨_, rfl⟩, by rw [FI.out]; exact HC.out, HG.out⟩
      · have e1 : decide (nd ≤ v) = false := decide_eq_false hd
        rw [e1] at C'
        clear e1
        go_wp2_with (go_at_call 22; refine (C'.out _).mono ?_; rintro e w' ⟨rfl, rfl⟩)
        go_roundg (1002 - (v + 1)).toNat
        case measure => omega
        case rel => exact ⟨v + 1, by omega, by omega, rfl, HC.out.setWorst (v + 1), grown_trans HG.out (grown_set _ _ _)⟩
    · obtain rfl : v = 1001 := by omega
      have FI := Lib.hid (show max s.worst nd = 1001 by omega)
      go_wp2
      go_end0
      exact ⟨⟨_, rfl⟩, by rw [FI.out]; exact HC.out, HG.out⟩
end Go.Proofs.Ythpfkbdbioabaaa
