/- What package view answers, as plain functions over numbers. No program is named here. -/
import Derived.Test.YtdocoflcelhmbaaBase
set_option linter.unusedVariables false
set_option maxRecDepth 8000
set_option linter.unusedSimpArgs false
namespace Go.Proofs.Ytdocoflcelhmbaa
open Go.RowKit
namespace Vw

/-- A value told, nothing turned. -/
def Tells (v : Value) (w : World) (e : Ending) (w' : World) : Prop := e = .returned v ∧ w = w'
/-- A value told, nothing that was there has turned. -/
def TellsB (v : Value) (w : World) (e : Ending) (w' : World) : Prop := e = .returned v ∧ Below w.heap.size w w'
theorem Tells.b {v : Value} {w : World} {e : Ending} {w' : World} (h : Tells v w e w') : TellsB v w e w' := by
  obtain ⟨h1, rfl⟩ := h
  exact ⟨h1, Below.refl _ _⟩

def withinF (v a b : Int) : Bool := decide (a ≤ v) && decide (v ≤ b)
def hiF (v : Int) : Bool := withinF v 0 2305843009213693952
def someF (n : Int) : Bool := withinF n 1 7
def quorumF (n : Int) : Int := if someF n then n / 2 + 1 else 0
def leaderF (v n : Int) : Int := if hiF v && someF n then v % n else -1
def ledF (v n h : Int) : Int := if hiF v && someF n && withinF h 0 (n - 1) then v + (h - v % n + n) % n else -1

/-- Doubled so many times, but not beyond m. -/
def dblF (m : Int) : Nat → Int → Int
  | 0, t => min t m
  | k + 1, t => if t < m then dblF m k (2 * t) else m
def okT (b m v : Int) : Bool := decide (1 ≤ b) && decide (b ≤ m) && decide (m ≤ 1000000) && hiF v
def timeF (b m v : Int) : Int := if okT b m v then dblF m v.toNat b else 0

theorem dblF_done {m t : Int} (k : Nat) (h : m ≤ t) : dblF m k t = m := by
  cases k with
  | zero => simp [dblF]; omega
  | succ k => rw [dblF, if_neg (by omega)]

theorem dblF_le (m : Int) (k : Nat) (t : Int) : dblF m k t ≤ m := by
  induction k generalizing t with
  | zero => simp [dblF]; omega
  | succ k ih =>
    rw [dblF]
    by_cases h : t < m
    · rw [if_pos h]; exact ih _
    · rw [if_neg h]; omega

theorem dblF_ge (m : Int) (k : Nat) (t : Int) (ht : 0 ≤ t) (hm : t ≤ m) : t ≤ dblF m k t := by
  induction k generalizing t with
  | zero => simp [dblF]; omega
  | succ k ih =>
    rw [dblF]
    by_cases h : t < m
    · rw [if_pos h]
      by_cases h2 : 2 * t ≤ m
      · have := ih (2 * t) (by omega) h2; omega
      · rw [dblF_done k (by omega)]; omega
    · rw [if_neg h]; omega

theorem dblF_step (m : Int) (k : Nat) (t : Int) : dblF m (k + 1) t = if t < m then dblF m k (2 * t) else m := rfl

/-- Once more: twice as long, but not beyond m. -/
theorem dblF_succ (m : Int) (k : Nat) (t : Int) (hm : 0 ≤ m) : dblF m (k + 1) t = min (2 * dblF m k t) m := by
  induction k generalizing t with
  | zero =>
    rw [dblF_step]
    by_cases h : t < m
    · rw [if_pos h]; simp only [dblF]; omega
    · rw [if_neg h]; simp only [dblF]; omega
  | succ k ih =>
    rw [dblF_step m (k + 1) t, dblF_step m k t]
    by_cases h : t < m
    · rw [if_pos h, if_pos h, ih]
    · rw [if_neg h, if_neg h]; omega

theorem okT_iff {b m v : Int} : okT b m v = true ↔ 1 ≤ b ∧ b ≤ m ∧ m ≤ 1000000 ∧ 0 ≤ v ∧ v ≤ 2305843009213693952 := by
  simp [okT, hiF, withinF]; omega

/-- What is told of the first view that is long enough. -/
def ReachV (b m n k : Int) (ok : Bool) : Prop :=
  (¬(1 ≤ b ∧ b ≤ m ∧ m ≤ 1000000 ∧ n ≤ m) ∧ k = 0 ∧ ok = false) ∨
  ((1 ≤ b ∧ b ≤ m ∧ m ≤ 1000000 ∧ n ≤ m) ∧ ok = true ∧ 0 ≤ k ∧ k ≤ 1000000 ∧ n ≤ dblF m k.toNat b ∧ ∀ j : Nat, j < k.toNat → dblF m j b < n)

theorem ReachV.same {b m n k k' : Int} {o o' : Bool} (h : ReachV b m n k o) (h' : ReachV b m n k' o') : k = k' ∧ o = o' := by
  rcases h with ⟨g, rfl, rfl⟩ | ⟨g, rfl, h0, h1, h2, h3⟩ <;> rcases h' with ⟨g', rfl, rfl⟩ | ⟨g', rfl, h0', h1', h2', h3'⟩
  · exact ⟨rfl, rfl⟩
  · exact absurd g' g
  · exact absurd g g'
  · refine ⟨?_, rfl⟩
    rcases Nat.lt_trichotomy k.toNat k'.toNat with q | q | q
    · have := h3' _ q; omega
    · omega
    · have := h3 _ q; omega

/-- As long as more is wanted each later view is longer. -/
theorem dblF_more (m : Int) (k : Nat) (b n : Int) (hb : 1 ≤ b) (hm : b ≤ m) (hn : n ≤ m) (h : dblF m k b < n) : dblF m k b + 1 ≤ dblF m (k + 1) b := by
  rw [dblF_succ m k b (by omega)]
  have := dblF_ge m k b (by omega) hm
  omega

/-- A setting: its eleven numbers. -/
structure ConfV where
  reps : Int
  clients : Int
  lease : Int
  rho : Int
  base : Int
  cap : Int
  beat : Int
  wait : Int
  sweep : Int
  retry : Int
  keep : Int

def confCells (c : ConfV) : List Value := [.int .i64 c.reps, .int .i64 c.clients, .int .i64 c.lease, .int .i64 c.rho, .int .i64 c.base, .int .i64 c.cap, .int .i64 c.beat, .int .i64 c.wait, .int .i64 c.sweep, .int .i64 c.retry, .int .i64 c.keep]
def confVal (c : ConfV) : Value := .agg #[.int .i64 c.reps, .int .i64 c.clients, .int .i64 c.lease, .int .i64 c.rho, .int .i64 c.base, .int .i64 c.cap, .int .i64 c.beat, .int .i64 c.wait, .int .i64 c.sweep, .int .i64 c.retry, .int .i64 c.keep]

def tickF (v : Int) : Bool := withinF v 1 1000000
def ticksOf (c : ConfV) : List Int := [c.lease, c.base, c.cap, c.beat, c.sweep, c.retry, c.keep]
/-- A setting that may be. -/
def mayC (c : ConfV) : Bool := (ticksOf c).all tickF && (someF c.reps && (c.reps % 2 == 1) && withinF c.clients 1 8 && withinF c.wait 0 1000000 && withinF c.rho 0 200 && decide (c.base ≤ c.cap))

theorem mayC_zero : mayC ⟨0, 0, 0, 0, 0, 0, 0, 0, 0, 0, 0⟩ = false := by decide

theorem rem_cases (v n h : Int) (hv : 0 ≤ v) (hn : 1 ≤ n) (hn7 : n ≤ 7) (h0 : 0 ≤ h) (hh : h ≤ n - 1) (j : Int) (hj : 0 ≤ j) (hjd : j ≤ (h - v % n + n) % n) :
    ((v + j) % n = h) ↔ j = (h - v % n + n) % n := by
  have : n = 1 ∨ n = 2 ∨ n = 3 ∨ n = 4 ∨ n = 5 ∨ n = 6 ∨ n = 7 := by omega
  rcases this with rfl | rfl | rfl | rfl | rfl | rfl | rfl <;> omega

theorem dist_bound (x n : Int) (hn : 1 ≤ n) : 0 ≤ x % n ∧ x % n < n := ⟨Int.emod_nonneg _ (by omega), Int.emod_lt_of_pos _ (by omega)⟩
end Vw
end Go.Proofs.Ytdocoflcelhmbaa
