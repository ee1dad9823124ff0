/- Laws of the walk for floats: what an operation gives, a word or any word that is no number. No program is named here. -/
import Derived.Test.YthpfkbdbioabaaaBase
import Derived.Test.YthpfkbdbioabaaaFWord
set_option linter.unusedVariables false
set_option linter.unusedSimpArgs false
namespace Go.Proofs.Ythpfkbdbioabaaa
open Go.RowKit
namespace Dbl
open Ieee

def nanOf (q : Question) (w : World) : Nat := q.cut (w.tape w.drawn q)

theorem cut_nan (t : Nat) (c : Nat) (h : c = t % 2 * 2 ^ 63 + 0x7ff0000000000000 + 1 + (t / 2) % (2 ^ 52 - 1)) : isNan c = true ∧ c < 18446744073709551616 := by
  have h1 : t % 2 < 2 := Nat.mod_lt _ (by omega)
  have h2 : (t / 2) % (2 ^ 52 - 1) < 2 ^ 52 - 1 := Nat.mod_lt _ (by omega)
  generalize t % 2 = a at *
  generalize (t / 2) % (2 ^ 52 - 1) = b at *
  rw [isNan_iff]
  unfold rung
  omega

theorem nan_bits (x y : Nat) (w : World) : isNan (nanOf (.nanBits .f64 x y) w) = true ∧ nanOf (.nanBits .f64 x y) w < 18446744073709551616 := cut_nan _ _ rfl
theorem nan_minmax (m : Bool) (x y : Nat) (w : World) : isNan (nanOf (.nanMinMax .f64 m x y) w) = true ∧ nanOf (.nanMinMax .f64 m x y) w < 18446744073709551616 := cut_nan _ _ rfl

/-- A word told, or, where there is none, one that is no number. -/
def pick (o : Option Nat) (q : Question) (w : World) : Nat := match o with | some r => r | none => nanOf q w
def pickW (o : Option Nat) (w : World) : World := match o with | some _ => w | none => w.drew

def Is (o : Option Nat) (b : Nat) : Prop := b < 18446744073709551616 ∧ match o with | some r => b = r | none => isNan b = true

theorem pickW_below (o : Option Nat) (w : World) : Below w.heap.size w (pickW o w) := by
  unfold pickW
  split
  · exact Below.refl _ _
  · exact (Below.refl _ _).drew

theorem pickW_heap (o : Option Nat) (w : World) : (pickW o w).heap = w.heap := by
  unfold pickW
  split <;> rfl

theorem pickW_cell (o : Option Nat) (w : World) (a : Addr) : (pickW o w).cell? a = w.cell? a := by
  unfold pickW
  split <;> rfl

theorem pickW_some (o : Option Nat) (w : World) (h : o.isSome = true) : pickW o w = w := by
  cases o with
  | none => cases h
  | some r => rfl

theorem pick_is (o : Option Nat) (x y : Nat) (w : World) (h : ∀ r, o = some r → r < 18446744073709551616) : Is o (pick o (.nanBits .f64 x y) w) := by
  cases o with
  | none => exact ⟨(nan_bits x y w).2, (nan_bits x y w).1⟩
  | some r => exact ⟨h r rfl, rfl⟩

theorem pick_is' (o : Option Nat) (m : Bool) (x y : Nat) (w : World) (h : ∀ r, o = some r → r < 18446744073709551616) : Is o (pick o (.nanMinMax .f64 m x y) w) := by
  cases o with
  | none => exact ⟨(nan_minmax m x y w).2, (nan_minmax m x y w).1⟩
  | some r => exact ⟨h r rfl, rfl⟩

/-- The greater of two floats, the lesser; none where one is no number. -/
def fmax (x y : Nat) : Option Nat := if isNan x || isNan y then none else some (if flt x y then y else if flt y x then x else if sgn x then y else x)
def fmin (x y : Nat) : Option Nat := if isNan x || isNan y then none else some (if flt x y then x else if flt y x then y else if sgn x then x else y)

theorem read_neg (x : Nat) : (double.read x).neg = sgn x := by
  rcases parts x with p | p | p
  · obtain ⟨m, e, h, _⟩ := read_fin x p
    rw [h]; rfl
  · rw [read_inf x p]; rfl
  · rw [read_nan x p]; rfl

section
variable {P : Program} (w : World)
theorem run_fadd (t : TypeId) (x y : Nat) : (binOp .add t (.float .f64 x) (.float .f64 y)).run P w = .ok (.float .f64 (pick (double.add x y) (.nanBits .f64 x y) w)) (pickW (double.add x y) w) := by
  unfold pick pickW
  cases h : double.add x y with
  | none =>
    have h' : FloatKind.f64.format.add x y = none := h
    simp [binOp, Op.floatArith, h', Question.forced, nanOf]
  | some r =>
    have h' : FloatKind.f64.format.add x y = some r := h
    simp [binOp, Op.floatArith, h']
theorem run_fsub (t : TypeId) (x y : Nat) : (binOp .sub t (.float .f64 x) (.float .f64 y)).run P w = .ok (.float .f64 (pick (double.sub x y) (.nanBits .f64 x y) w)) (pickW (double.sub x y) w) := by
  unfold pick pickW
  cases h : double.sub x y with
  | none =>
    have h' : FloatKind.f64.format.sub x y = none := h
    simp [binOp, Op.floatArith, h', Question.forced, nanOf]
  | some r =>
    have h' : FloatKind.f64.format.sub x y = some r := h
    simp [binOp, Op.floatArith, h']
theorem run_fmul (t : TypeId) (x y : Nat) : (binOp .mul t (.float .f64 x) (.float .f64 y)).run P w = .ok (.float .f64 (pick (double.mul x y) (.nanBits .f64 x y) w)) (pickW (double.mul x y) w) := by
  unfold pick pickW
  cases h : double.mul x y with
  | none =>
    have h' : FloatKind.f64.format.mul x y = none := h
    simp [binOp, Op.floatArith, h', Question.forced, nanOf]
  | some r =>
    have h' : FloatKind.f64.format.mul x y = some r := h
    simp [binOp, Op.floatArith, h']
theorem run_fdiv (t : TypeId) (x y : Nat) : (binOp .quo t (.float .f64 x) (.float .f64 y)).run P w = .ok (.float .f64 (pick (double.div x y) (.nanBits .f64 x y) w)) (pickW (double.div x y) w) := by
  unfold pick pickW
  cases h : double.div x y with
  | none =>
    have h' : FloatKind.f64.format.div x y = none := h
    simp [binOp, Op.floatArith, h', Question.forced, nanOf]
  | some r =>
    have h' : FloatKind.f64.format.div x y = some r := h
    simp [binOp, Op.floatArith, h']

theorem order_none (x y : Nat) (h : (isNan x || isNan y) = true) : double.order x y = none := by
  cases hx : isNan x with
  | true => exact order_nan_left x y hx
  | false =>
    rw [hx, Bool.false_or] at h
    exact order_nan_right x y h

theorem run_fmax (ts : Array TypeId) (t : TypeId) (x y : Nat) : (Builtin.max_ ts t #[.float .f64 x, .float .f64 y]).run P w = .ok (.float .f64 (pick (fmax x y) (.nanMinMax .f64 true x y) w)) (pickW (fmax x y) w) := by
  unfold fmax pick pickW
  by_cases hn : (isNan x || isNan y) = true
  · have h' : FloatKind.f64.format.order x y = none := order_none x y hn
    rw [if_pos hn]
    simp [Builtin.max_, Builtin.max2, h', Question.forced, nanOf]
  · rw [if_neg hn]
    have hx : isNan x = false := by cases h : isNan x <;> simp_all
    have hy : isNan y = false := by cases h : isNan y <;> simp_all
    have h' : FloatKind.f64.format.order x y = some (compare (val x) (val y)) := order_num x y hx hy
    have hs : FloatKind.f64.decode x = double.read x := rfl
    rw [Int.compare_eq_ite_lt] at h'
    unfold flt
    rw [hx, hy]
    by_cases h1 : val x < val y
    · rw [if_pos h1] at h'
      simp [Builtin.max_, Builtin.max2, h', h1]
    · rw [if_neg h1] at h'
      by_cases h2 : val y < val x
      · rw [if_pos h2] at h'
        simp [Builtin.max_, Builtin.max2, h', h1, h2]
      · rw [if_neg h2] at h'
        simp [Builtin.max_, Builtin.max2, h', h1, h2, hs, read_neg]
theorem run_fmin (ts : Array TypeId) (t : TypeId) (x y : Nat) : (Builtin.min_ ts t #[.float .f64 x, .float .f64 y]).run P w = .ok (.float .f64 (pick (fmin x y) (.nanMinMax .f64 false x y) w)) (pickW (fmin x y) w) := by
  unfold fmin pick pickW
  by_cases hn : (isNan x || isNan y) = true
  · have h' : FloatKind.f64.format.order x y = none := order_none x y hn
    rw [if_pos hn]
    simp [Builtin.min_, Builtin.min2, h', Question.forced, nanOf]
  · rw [if_neg hn]
    have hx : isNan x = false := by cases h : isNan x <;> simp_all
    have hy : isNan y = false := by cases h : isNan y <;> simp_all
    have h' : FloatKind.f64.format.order x y = some (compare (val x) (val y)) := order_num x y hx hy
    have hs : FloatKind.f64.decode x = double.read x := rfl
    rw [Int.compare_eq_ite_lt] at h'
    unfold flt
    rw [hx, hy]
    by_cases h1 : val x < val y
    · rw [if_pos h1] at h'
      simp [Builtin.min_, Builtin.min2, h', h1]
    · rw [if_neg h1] at h'
      by_cases h2 : val y < val x
      · rw [if_pos h2] at h'
        simp [Builtin.min_, Builtin.min2, h', h1, h2]
      · rw [if_neg h2] at h'
        simp [Builtin.min_, Builtin.min2, h', h1, h2, hs, read_neg]

theorem unary_fneg (b : Nat) : Op.unary .neg (.float .f64 b) = pure (.float .f64 (b ^^^ 9223372036854775808)) := rfl
end

theorem ford_lt (x y : Nat) : (FloatKind.f64.format.order x y == some Ordering.lt) = flt x y := order_lt x y
theorem ford_gt (x y : Nat) : (FloatKind.f64.format.order x y == some Ordering.gt) = flt y x := order_gt x y
theorem ford_eq (x y : Nat) : (FloatKind.f64.format.order x y == some Ordering.eq) = feq x y := order_eq x y
theorem ford_ne (x y : Nat) : (FloatKind.f64.format.order x y != some Ordering.eq) = !feq x y := by
  rw [← order_eq]; rfl

theorem pick_told (r : Nat) (q : Question) (w : World) : pick (some r) q w = r := rfl
theorem pickW_told (r : Nat) (w : World) : pickW (some r) w = w := rfl

theorem feq_self (x : Nat) : feq x x = !isNan x := by unfold feq; simp
end Dbl
end Go.Proofs.Ythpfkbdbioabaaa
