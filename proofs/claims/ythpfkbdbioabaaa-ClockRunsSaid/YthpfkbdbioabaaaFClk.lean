/- What package clock answers, as plain functions: the clocks' state, what passes, how far off they ever were. No program is named here. -/
import Derived.Test.YthpfkbdbioabaaaFGrow
import Derived.Test.YthpfkbdbioabaaaFFar
import Derived.Deep.OwnRows
set_option linter.unusedVariables false
set_option linter.unusedSimpArgs false
namespace Go.Proofs.Ythpfkbdbioabaaa
open Go.RowKit
namespace Clk

/-- The clocks: how many, the rates, what they show, what passed, the worst. -/
structure St where
  n : Nat
  rate : Nat → Nat
  shown : Nat → Int
  ref : Int
  worst : Int

def upd {α : Type} (f : Nat → α) (i : Nat) (v : α) : Nat → α := fun j => if j = i then v else f j
theorem upd_same {α : Type} (f : Nat → α) (i : Nat) (v : α) : upd f i v i = v := if_pos rfl
theorem upd_other {α : Type} (f : Nat → α) (i j : Nat) (v : α) (h : j ≠ i) : upd f i v j = f j := if_neg h

def clampH (n : Int) : Nat := (min (max n 0) 15).toNat
theorem clampH_le (n : Int) : clampH n ≤ 15 := by unfold clampH; omega
theorem clampH_low (n : Int) (h : n < 0) : clampH n = 0 := by unfold clampH; omega
theorem clampH_high (n : Int) (h : 15 < n) : clampH n = 15 := by unfold clampH; omega
theorem clampH_mid (n : Int) (h0 : ¬ n < 0) (h1 : ¬ 15 < n) : (clampH n : Int) = n := by unfold clampH; omega

/-- The first k of new clocks have the rate 1. -/
def newK (n k : Nat) : St := ⟨n, fun i => if i < k then 4607182418800017408 else 0, fun _ => 0, 0, 0⟩
def new (n : Int) : St := newK (clampH n) (clampH n)

theorem newK_succ (n k : Nat) : (newK n (k + 1)) = { newK n k with rate := upd (newK n k).rate k 4607182418800017408 } := by
  unfold newK upd
  congr 1
  funext i
  simp only
  by_cases h : i = k
  · rw [if_pos (by omega), if_pos h]
  · rw [if_neg h]
    by_cases h2 : i < k
    · rw [if_pos h2, if_pos (by omega)]
    · rw [if_neg h2, if_neg (by omega)]

def set (s : St) (i : Nat) (x : Nat) : St := { s with rate := upd s.rate i (Dbl.cleanF x) }
def setI (s : St) (i : Int) (x : Nat) : St := if 0 ≤ i ∧ i < s.n then set s i.toNat x else s
def nowI (s : St) (i : Int) : Int := if 0 ≤ i ∧ i < s.n then s.shown i.toNat else 0

/-- How a clock moves. -/
def mv (s : St) (p : Int) (i : Nat) : Int := Dbl.moveF (s.rate i) p

/-- The least bound that a move is within; 1001 if there is none. -/
def need (p m : Int) : Int := min ((1000 * max (m - p) (p - m) + p - 1) / p) 1001

def wk (s : St) (p : Int) : Nat → Int
  | 0 => s.worst
  | k + 1 => max (wk s p k) (need p (mv s p k))

/-- The first k clocks have moved. -/
def part (s : St) (p : Int) (k : Nat) : St := { s with shown := fun i => if i < k then s.shown i + mv s p i else s.shown i, worst := wk s p k }
def pass (s : St) (p : Int) : St := { part s p s.n with ref := s.ref + p }

theorem part_zero (s : St) (p : Int) : part s p 0 = s := by
  unfold part
  congr 1

theorem part_succ (s : St) (p : Int) (k : Nat) : part s p (k + 1) = { part s p k with shown := upd (part s p k).shown k ((part s p k).shown k + mv s p k), worst := max (part s p k).worst (need p (mv s p k)) } := by
  unfold part upd
  congr 1
  funext i
  simp only
  by_cases h : i = k
  · subst h
    rw [if_pos (by omega), if_pos rfl, if_neg (by omega)]
  · rw [if_neg h]
    by_cases h2 : i < k
    · rw [if_pos h2, if_pos (by omega)]
    · rw [if_neg h2, if_neg (by omega)]

/-- What a state must be that passes go on from. -/
structure Ok (s : St) (B : Int) : Prop where
  n : s.n ≤ 15
  rate : ∀ i, s.rate i < 18446744073709551616
  shown : ∀ i, 0 ≤ s.shown i ∧ s.shown i ≤ B
  ref : 0 ≤ s.ref ∧ s.ref ≤ B
  worst : 0 ≤ s.worst ∧ s.worst ≤ 1001

theorem Ok.mono {s : St} {B C : Int} (h : Ok s B) (hB : B ≤ C) : Ok s C :=
  ⟨h.n, h.rate, fun i => ⟨(h.shown i).1, by have := (h.shown i).2; omega⟩, ⟨h.ref.1, by have := h.ref.2; omega⟩, h.worst⟩

theorem ok_newK (n k : Nat) (h : n ≤ 15) : Ok (newK n k) 0 := by
  refine ⟨h, fun i => ?_, fun i => ⟨Int.le_refl _, Int.le_refl _⟩, ⟨Int.le_refl _, Int.le_refl _⟩, ⟨Int.le_refl _, by simp [newK]⟩⟩
  show (if i < k then 4607182418800017408 else 0) < 18446744073709551616
  split <;> omega

theorem ok_new (n : Int) : Ok (new n) 0 := ok_newK _ _ (clampH_le n)

theorem clean_lt (x : Nat) (h : x < 18446744073709551616) : Dbl.cleanF x < 18446744073709551616 := by
  have := (Dbl.clean_cl x h).lt
  omega

theorem Ok.set {s : St} {B : Int} (h : Ok s B) (i x : Nat) (hx : x < 18446744073709551616) : Ok (set s i x) B := by
  refine ⟨h.n, fun j => ?_, h.shown, h.ref, h.worst⟩
  show upd s.rate i (Dbl.cleanF x) j < _
  unfold upd
  split
  · exact clean_lt x hx
  · exact h.rate j

theorem Ok.setI {s : St} {B : Int} (h : Ok s B) (i : Int) (x : Nat) (hx : x < 18446744073709551616) : Ok (setI s i x) B := by
  unfold Clk.setI
  split
  · exact h.set _ x hx
  · exact h

theorem move_bounds (x : Nat) (p : Int) (hx : x < 18446744073709551616) : 0 ≤ Dbl.moveF x p ∧ Dbl.moveF x p ≤ 16000 := by
  have := Dbl.moveC_le _ _ (Dbl.clean_cl x hx) (Dbl.clampN_le p)
  unfold Dbl.moveF
  omega

theorem Ok.mv {s : St} {B : Int} (h : Ok s B) (p : Int) (i : Nat) : 0 ≤ mv s p i ∧ mv s p i ≤ 16000 := move_bounds _ p (h.rate i)

theorem need_bounds (p m : Int) (h1 : 1 ≤ p) : 0 ≤ need p m ∧ need p m ≤ 1001 := by
  have h : 0 ≤ (1000 * max (m - p) (p - m) + p - 1) / p := Int.ediv_nonneg (by omega) (by omega)
  unfold need
  omega

theorem wk_bounds (s : St) (p : Int) (h1 : 1 ≤ p) (hw : 0 ≤ s.worst ∧ s.worst ≤ 1001) (k : Nat) : s.worst ≤ wk s p k ∧ wk s p k ≤ 1001 := by
  induction k with
  | zero => exact ⟨Int.le_refl _, hw.2⟩
  | succ k ih =>
    have := need_bounds p (mv s p k) h1
    show s.worst ≤ max _ _ ∧ max _ _ ≤ 1001
    omega

theorem Ok.part {s : St} {B : Int} (h : Ok s B) (p : Int) (h1 : 1 ≤ p) (k : Nat) (hB : 0 ≤ B) : Ok (part s p k) (B + 16000) := by
  refine ⟨h.n, h.rate, fun i => ?_, ⟨h.ref.1, by have := h.ref.2; show s.ref ≤ _; omega⟩, ?_⟩
  · have a := h.shown i
    have b := h.mv p i
    show 0 ≤ (if i < k then s.shown i + Clk.mv s p i else s.shown i) ∧ (if i < k then s.shown i + Clk.mv s p i else s.shown i) ≤ _
    split <;> omega
  · have a := wk_bounds s p h1 h.worst k
    have b := h.worst
    show 0 ≤ wk s p k ∧ wk s p k ≤ 1001
    omega

theorem Ok.pass {s : St} {B : Int} (h : Ok s B) (p : Int) (h1 : 1 ≤ p) (h2 : p ≤ 1000) (hB : 0 ≤ B) : Ok (pass s p) (B + 16000) := by
  have g := h.part p h1 s.n hB
  refine ⟨g.n, g.rate, g.shown, ?_, g.worst⟩
  have a := h.ref
  show 0 ≤ s.ref + p ∧ s.ref + p ≤ _
  omega

/-- Within, by need. -/
theorem need_iff (p m w : Int) (h1 : 1 ≤ p) (w1 : w ≤ 1000) : need p m ≤ w ↔ 1000 * max (m - p) (p - m) ≤ w * p := by
  have hd : (1000 * max (m - p) (p - m) + p - 1) / p ≤ w ↔ 1000 * max (m - p) (p - m) ≤ w * p := by
    rw [← Int.lt_add_one_iff, Int.ediv_lt_iff_lt_mul (by omega), Int.add_mul]
    omega
  unfold need
  rw [← hd]
  omega

/-- What Pass answers. -/
def moves (s : St) (p : Int) : List Value := (List.range s.n).map fun i => Value.int .i64 (mv s p i)
theorem moves_length (s : St) (p : Int) : (moves s p).length = s.n := by simp [moves]
theorem moves_get (s : St) (p : Int) (i : Nat) (h : i < s.n) : (moves s p)[i]? = some (.int .i64 (mv s p i)) := by
  simp [moves, h]
end Clk
end Go.Proofs.Ythpfkbdbioabaaa
