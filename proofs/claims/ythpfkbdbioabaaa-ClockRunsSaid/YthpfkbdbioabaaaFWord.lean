/- The words of doubles: how they compare, what +, -, *, / and the ways to whole numbers give. No program is named here. -/
import Derived.Test.YthpfkbdbioabaaaFMath
import Derived.Laws.FloatArith
set_option linter.unusedVariables false
set_option linter.unusedSimpArgs false
namespace Go.Proofs.Ythpfkbdbioabaaa
namespace Dbl
open Ieee

/-- The place of the least unit, counted down. -/
def K : Nat := 1074
theorem K_eq : K = 1074 := rfl

def sgn (x : Nat) : Bool := x / 9223372036854775808 % 2 == 1
def rung (x : Nat) : Nat := x % 9223372036854775808
def isNan (x : Nat) : Bool := decide (9218868437227405312 < rung x)
def isFin (x : Nat) : Bool := decide (rung x < 9218868437227405312)
def val (x : Nat) : Int := if sgn x then -(mag (rung x) : Int) else (mag (rung x) : Int)
def word (s : Bool) (r : Nat) : Nat := if s then 9223372036854775808 + r else r

theorem sw : double.signWeight = 9223372036854775808 := rfl
theorem bn : double.binade = 4503599627370496 := rfl
theorem ir : double.infRung = 9218868437227405312 := rfl
theorem lp : double.leastPlace = -1074 := rfl
theorem word_eq (s : Bool) (r : Nat) : double.word s r = word s r := rfl

theorem isFin_iff (x : Nat) : isFin x = true ↔ rung x < 9218868437227405312 := decide_eq_true_iff
theorem isNan_iff (x : Nat) : isNan x = true ↔ 9218868437227405312 < rung x := decide_eq_true_iff
theorem isNan_not (x : Nat) : isNan x = false ↔ rung x ≤ 9218868437227405312 := by
  have := isNan_iff x
  constructor
  · intro h
    rw [h] at this
    rcases Nat.lt_or_ge 9218868437227405312 (rung x) with g | g
    · have := this.2 g
      cases this
    · exact g
  · intro h
    cases hx : isNan x with
    | false => rfl
    | true => have := this.1 hx; omega

theorem read_eq (x : Nat) : double.read x =
    if rung x < 4503599627370496 then .number (sgn x) (rung x) (-1074)
    else if rung x < 9218868437227405312 then .number (sgn x) (4503599627370496 + rung x % 4503599627370496) (-1074 + ((rung x / 4503599627370496 - 1 : Nat) : Int))
    else if rung x = 9218868437227405312 then .infinity (sgn x)
    else .nan (sgn x) (rung x - 9218868437227405312) := rfl

theorem read_fin (x : Nat) (h : isFin x = true) : ∃ (m e : Nat), double.read x = .number (sgn x) m (-1074 + (e : Int)) ∧ m * 2 ^ e = mag (rung x) := by
  have h' := (isFin_iff x).1 h
  rw [read_eq]
  generalize rung x = r at *
  unfold mag
  by_cases h1 : r < 4503599627370496
  · rw [if_pos h1, if_pos h1]
    exact ⟨r, 0, by simp, by simp⟩
  · rw [if_neg h1, if_pos h', if_neg h1]
    exact ⟨_, _, rfl, rfl⟩

theorem read_inf (x : Nat) (h : rung x = 9218868437227405312) : double.read x = .infinity (sgn x) := by
  rw [read_eq, if_neg (by omega), if_neg (by omega), if_pos h]

theorem read_nan (x : Nat) (h : isNan x = true) : double.read x = .nan (sgn x) (rung x - 9218868437227405312) := by
  have h' := (isNan_iff x).1 h
  rw [read_eq, if_neg (by omega), if_neg (by omega), if_neg (by omega)]

theorem parts (x : Nat) : isFin x = true ∨ rung x = 9218868437227405312 ∨ isNan x = true := by
  rw [isFin_iff, isNan_iff]
  omega

theorem not_nan_cases (x : Nat) (h : isNan x = false) : isFin x = true ∨ rung x = 9218868437227405312 := by
  rw [isNan_not] at h
  rw [isFin_iff]
  omega

theorem isFin_notNan (x : Nat) (h : isFin x = true) : isNan x = false := by
  rw [isFin_iff] at h
  rw [isNan_not]
  omega

theorem signed_scale (s : Bool) (m k : Nat) : signed s m k = if s then -((m * 2 ^ k : Nat) : Int) else ((m * 2 ^ k : Nat) : Int) := by
  unfold signed
  rw [Nat.shiftLeft_eq]

theorem compare_mul (a b c : Int) (hc : 0 < c) : compare (a * c) (b * c) = compare a b := by
  have h1 : a * c < b * c ↔ a < b := by
    constructor
    · intro h
      exact Int.lt_of_mul_lt_mul_right h (Int.le_of_lt hc)
    · intro h
      exact Int.mul_lt_mul_of_pos_right h hc
  have h2 : a * c = b * c ↔ a = b := by
    constructor
    · intro h
      exact Int.eq_of_mul_eq_mul_right (by omega) h
    · rintro rfl
      rfl
  rw [Int.compare_eq_ite_lt, Int.compare_eq_ite_lt]
  have h3 : b * c < a * c ↔ b < a := by
    constructor
    · intro h
      exact Int.lt_of_mul_lt_mul_right h (Int.le_of_lt hc)
    · intro h
      exact Int.mul_lt_mul_of_pos_right h hc
  simp only [h1, h3]

theorem signed_val (s : Bool) (m d c : Nat) : signed s m d * ((2 ^ c : Nat) : Int) = if s then -((m * 2 ^ (d + c) : Nat) : Int) else ((m * 2 ^ (d + c) : Nat) : Int) := by
  rw [signed_scale, Nat.pow_add, ← Nat.mul_assoc]
  cases s
  · simp only [Bool.false_eq_true, if_false]
    rw [Int.natCast_mul (m * 2 ^ d)]
  · simp only [if_true]
    rw [Int.natCast_mul (m * 2 ^ d), Int.neg_mul]

theorem fin_lt_inf (r : Nat) (h : r < 9218868437227405312) : mag r < mag 9218868437227405312 := mag_lt _ _ h

theorem val_pos_inf (x : Nat) (h : rung x = 9218868437227405312) : val x = if sgn x then -(mag 9218868437227405312 : Int) else (mag 9218868437227405312 : Int) := by
  unfold val
  rw [h]

theorem order_num (x y : Nat) (hx : isNan x = false) (hy : isNan y = false) : double.order x y = some (compare (val x) (val y)) := by
  unfold Format.order
  rcases not_nan_cases x hx with fx | ix <;> rcases not_nan_cases y hy with fy | iy
  · obtain ⟨m, e, rx, mx⟩ := read_fin x fx
    obtain ⟨n, f, ry, my⟩ := read_fin y fy
    rw [rx, ry]
    unfold Datum.order
    dsimp only
    congr 1
    have ex : (-1074 + (e : Int) - min (-1074 + (e : Int)) (-1074 + (f : Int))).toNat = e - min e f := by omega
    have ey : (-1074 + (f : Int) - min (-1074 + (e : Int)) (-1074 + (f : Int))).toNat = f - min e f := by omega
    rw [ex, ey, ← compare_mul _ _ ((2 ^ min e f : Nat) : Int) (by have := Nat.two_pow_pos (min e f); omega), signed_val, signed_val]
    rw [show e - min e f + min e f = e by omega, show f - min e f + min e f = f by omega, mx, my]
    rfl
  · obtain ⟨m, e, rx, mx⟩ := read_fin x fx
    rw [rx, read_inf y iy, val_pos_inf y iy]
    have h1 := fin_lt_inf (rung x) ((isFin_iff x).1 fx)
    unfold Datum.order val
    dsimp only
    rw [Int.compare_eq_ite_lt]
    congr 1
    generalize mag 9218868437227405312 = M at *
    generalize mag (rung x) = A at *
    cases sgn x <;> cases sgn y <;> simp <;> (repeat' split) <;> simp <;> omega
  · obtain ⟨m, e, ry, my⟩ := read_fin y fy
    rw [ry, read_inf x ix, val_pos_inf x ix]
    have h1 := fin_lt_inf (rung y) ((isFin_iff y).1 fy)
    unfold Datum.order val
    dsimp only
    rw [Int.compare_eq_ite_lt]
    congr 1
    generalize mag 9218868437227405312 = M at *
    generalize mag (rung y) = A at *
    cases sgn x <;> cases sgn y <;> simp <;> (repeat' split) <;> simp <;> omega
  · rw [read_inf x ix, read_inf y iy, val_pos_inf x ix, val_pos_inf y iy]
    have h1 := mag_lt 0 9218868437227405312 (by omega)
    unfold Datum.order
    dsimp only
    rw [Int.compare_eq_ite_lt]
    congr 1
    have h2 : mag 0 = 0 := rfl
    rw [h2] at h1
    generalize mag 9218868437227405312 = M at *
    cases sgn x <;> cases sgn y <;> simp [compare, compareOfLessAndEq] <;> (repeat' split) <;> simp <;> omega

theorem order_nan_left (x y : Nat) (h : isNan x = true) : double.order x y = none := by
  unfold Format.order
  rw [read_nan x h]
  cases double.read y <;> rfl

theorem order_nan_right (x y : Nat) (h : isNan y = true) : double.order x y = none := by
  unfold Format.order
  rw [read_nan y h]
  cases double.read x <;> rfl

/-- Whether two floats compare so, as Go asks it. -/
def flt (x y : Nat) : Bool := !isNan x && !isNan y && decide (val x < val y)
def feq (x y : Nat) : Bool := !isNan x && !isNan y && decide (val x = val y)

theorem order_lt (x y : Nat) : (double.order x y == some .lt) = flt x y := by
  unfold flt
  by_cases hx : isNan x = true
  · rw [order_nan_left x y hx, hx]; rfl
  · by_cases hy : isNan y = true
    · rw [order_nan_right x y hy, hy]; simp
    · have hx' : isNan x = false := by simpa using hx
      have hy' : isNan y = false := by simpa using hy
      rw [order_num x y hx' hy', hx', hy', Int.compare_eq_ite_lt]
      by_cases h : val x < val y
      · simp [h]
      · simp [h]
        split <;> simp

theorem order_gt (x y : Nat) : (double.order x y == some .gt) = flt y x := by
  unfold flt
  by_cases hx : isNan x = true
  · rw [order_nan_left x y hx, hx]; simp
  · by_cases hy : isNan y = true
    · rw [order_nan_right x y hy, hy]; simp
    · have hx' : isNan x = false := by simpa using hx
      have hy' : isNan y = false := by simpa using hy
      rw [order_num x y hx' hy', hx', hy', Int.compare_eq_ite_lt]
      by_cases h : val x < val y
      · simp [h]; omega
      · simp [h]
        split <;> simp <;> omega

theorem order_eq (x y : Nat) : (double.order x y == some .eq) = feq x y := by
  unfold feq
  by_cases hx : isNan x = true
  · rw [order_nan_left x y hx, hx]; rfl
  · by_cases hy : isNan y = true
    · rw [order_nan_right x y hy, hy]; simp
    · have hx' : isNan x = false := by simpa using hx
      have hy' : isNan y = false := by simpa using hy
      rw [order_num x y hx' hy', hx', hy', Int.compare_eq_ite_lt]
      by_cases h : val x < val y
      · simp [h]; omega
      · simp [h]
        split <;> simp <;> omega

theorem nearest_def (neg : Bool) (m : Nat) (p : Int) : double.nearest neg m p =
    if m = 0 then word neg 0 else word neg (min ((max (p + (m.log2 : Int) - ((52 : Nat) : Int)) (-1074) - -1074).toNat * 4503599627370496 +
      Toward.even.cut neg (m <<< (p - max (p + (m.log2 : Int) - ((52 : Nat) : Int)) (-1074)).toNat) (max (p + (m.log2 : Int) - ((52 : Nat) : Int)) (-1074) - p).toNat) 9218868437227405312) := rfl

theorem nearest_eq (neg : Bool) (m : Nat) (p : Int) (c k : Nat) (h : p = -1074 - (c : Int) + (k : Int)) :
    double.nearest neg m p = word neg (min (near c (m * 2 ^ k)) 9218868437227405312) := by
  rw [nearest_def]
  by_cases h0 : m = 0
  · subst h0
    rw [if_pos rfl, Nat.zero_mul, near_zero]
    rfl
  · rw [if_neg h0]
    unfold near
    rw [log2_mul m k h0, cut_even, Nat.shiftLeft_eq]
    generalize ht : m.log2 + k - (52 + c) = t
    have hlast : max (p + (m.log2 : Int) - ((52 : Nat) : Int)) (-1074) = -1074 + (t : Int) := by omega
    rw [hlast]
    rw [show (-1074 + (t : Int) - -1074).toNat = t by omega]
    congr 3
    rw [h]
    rcases Nat.lt_or_ge k (t + c) with g | g
    · rw [show (-1074 - (c : Int) + (k : Int) - (-1074 + (t : Int))).toNat = 0 by omega, show (-1074 + (t : Int) - (-1074 - (c : Int) + (k : Int))).toNat = t + c - k by omega]
      have : (2 ^ (t + c) : Nat) = 2 ^ (t + c - k) * 2 ^ k := by rw [← Nat.pow_add]; congr 1; omega
      rw [this, rne_scale _ _ _ (Nat.two_pow_pos k)]
      simp
    · rw [show (-1074 - (c : Int) + (k : Int) - (-1074 + (t : Int))).toNat = k - (t + c) by omega, show (-1074 + (t : Int) - (-1074 - (c : Int) + (k : Int))).toNat = 0 by omega]
      have : (2 ^ k : Nat) = 2 ^ (k - (t + c)) * 2 ^ (t + c) := by rw [← Nat.pow_add]; congr 1; omega
      rw [this, ← Nat.mul_assoc, rne_mul _ _ (Nat.two_pow_pos _), Nat.pow_zero]
      have := rne_mul (m * 2 ^ (k - (t + c))) 1 (by omega)
      rwa [Nat.mul_one] at this

theorem sgn_word (s : Bool) (r : Nat) (h : r < 9223372036854775808) : sgn (word s r) = s := by
  unfold sgn word
  cases s
  · have : r / 9223372036854775808 = 0 := by omega
    simp [this]
  · have : (9223372036854775808 + r) / 9223372036854775808 = 1 := by omega
    simp [this]

theorem rung_word (s : Bool) (r : Nat) (h : r < 9223372036854775808) : rung (word s r) = r := by
  unfold rung word
  cases s
  · exact Nat.mod_eq_of_lt h
  · show (9223372036854775808 + r) % 9223372036854775808 = r
    omega

theorem word_lt (s : Bool) (r : Nat) (h : r < 9223372036854775808) : word s r < 18446744073709551616 := by
  unfold word
  split <;> omega

/-- The word nearest to a value of V units, of which 2 ^ c are a least one. -/
def rnd (s : Bool) (c V : Nat) : Nat := word s (min (near c V) 9218868437227405312)

theorem rnd_rung (s : Bool) (c V : Nat) : rung (rnd s c V) = min (near c V) 9218868437227405312 := rung_word _ _ (by omega)
theorem rnd_sgn (s : Bool) (c V : Nat) : sgn (rnd s c V) = s := sgn_word _ _ (by omega)
theorem rnd_notNan (s : Bool) (c V : Nat) : isNan (rnd s c V) = false := by
  rw [isNan_not, rnd_rung]
  omega
theorem rnd_lt (s : Bool) (c V : Nat) : rnd s c V < 18446744073709551616 := word_lt _ _ (by omega)

theorem mul_fin (x y : Nat) (hx : isFin x = true) (hy : isFin y = true) : double.mul x y = some (rnd (sgn x ^^ sgn y) K (mag (rung x) * mag (rung y))) := by
  obtain ⟨m, e, rx, mx⟩ := read_fin x hx
  obtain ⟨n, f, ry, my⟩ := read_fin y hy
  unfold Format.mul
  rw [rx, ry]
  unfold Datum.product
  dsimp only [Option.map]
  unfold Format.write
  dsimp only
  rw [nearest_eq _ _ _ K (e + f) (by have := K_eq; omega)]
  unfold rnd
  rw [← mx, ← my, Nat.pow_add]
  congr 4
  rw [Nat.mul_assoc, Nat.mul_assoc, ← Nat.mul_assoc (2 ^ e), Nat.mul_comm (2 ^ e) n, Nat.mul_assoc]

theorem val_fin (x m e : Nat) (h : m * 2 ^ e = mag (rung x)) : val x = if sgn x then -((m * 2 ^ e : Nat) : Int) else ((m * 2 ^ e : Nat) : Int) := by
  unfold val
  rw [h]

theorem sum_fin (s t : Bool) (m n e f : Nat) : (Datum.sum (.number s m (-1074 + (e : Int))) (.number t n (-1074 + (f : Int)))).map double.write =
    (let T := (if s then -((m * 2 ^ e : Nat) : Int) else ((m * 2 ^ e : Nat) : Int)) + (if t then -((n * 2 ^ f : Nat) : Int) else ((n * 2 ^ f : Nat) : Int))
     some (rnd (if T = 0 then s && t else decide (T < 0)) 0 T.natAbs)) := by
  unfold Datum.sum
  dsimp only [Option.map]
  unfold Format.write
  dsimp only
  have ex : (-1074 + (e : Int) - min (-1074 + (e : Int)) (-1074 + (f : Int))).toNat = e - min e f := by omega
  have ey : (-1074 + (f : Int) - min (-1074 + (e : Int)) (-1074 + (f : Int))).toNat = f - min e f := by omega
  have hmin : min (-1074 + (e : Int)) (-1074 + (f : Int)) = -1074 - ((0 : Nat) : Int) + ((min e f : Nat) : Int) := by omega
  rw [ex, ey, nearest_eq _ _ _ 0 (min e f) hmin]
  unfold rnd
  have k1 := signed_val s m (e - min e f) (min e f)
  have k2 := signed_val t n (f - min e f) (min e f)
  rw [show e - min e f + min e f = e by omega] at k1
  rw [show f - min e f + min e f = f by omega] at k2
  rw [← k1, ← k2, ← Int.add_mul]
  generalize signed s m (e - min e f) + signed t n (f - min e f) = T
  have hp : (0 : Int) < ((2 ^ min e f : Nat) : Int) := by have := Nat.two_pow_pos (min e f); omega
  have h1 : (T * ((2 ^ min e f : Nat) : Int) = 0) ↔ T = 0 := by
    constructor
    · intro h
      rcases Int.mul_eq_zero.1 h with h | h
      · exact h
      · omega
    · rintro rfl
      simp
  have h2 : (T * ((2 ^ min e f : Nat) : Int) < 0) ↔ T < 0 := by
    constructor
    · intro h
      rcases Int.lt_or_le T 0 with g | g
      · exact g
      · have := Int.mul_nonneg g (Int.le_of_lt hp)
        omega
    · intro h
      exact Int.mul_neg_of_neg_of_pos h hp
  simp only [h1, h2, Int.natAbs_mul, Int.natAbs_natCast]

theorem add_fin (x y : Nat) (hx : isFin x = true) (hy : isFin y = true) :
    double.add x y = some (rnd (if val x + val y = 0 then sgn x && sgn y else decide (val x + val y < 0)) 0 (val x + val y).natAbs) := by
  obtain ⟨m, e, rx, mx⟩ := read_fin x hx
  obtain ⟨n, f, ry, my⟩ := read_fin y hy
  unfold Format.add
  rw [rx, ry, sum_fin, val_fin x m e mx, val_fin y n f my]

theorem sub_fin (x y : Nat) (hx : isFin x = true) (hy : isFin y = true) :
    double.sub x y = some (rnd (if val x - val y = 0 then sgn x && !sgn y else decide (val x - val y < 0)) 0 (val x - val y).natAbs) := by
  obtain ⟨m, e, rx, mx⟩ := read_fin x hx
  obtain ⟨n, f, ry, my⟩ := read_fin y hy
  unfold Format.sub
  rw [rx, ry]
  unfold Datum.opposite
  dsimp only
  rw [sum_fin, val_fin x m e mx, val_fin y n f my]
  have : ∀ z : Int, (if (!sgn y) = true then -z else z) = -(if sgn y = true then -z else z) := by
    intro z
    cases sgn y <;> simp
  rw [this, ← Int.sub_eq_add_neg]

theorem cut_small (way : Toward) (n d : Nat) (h : way = .down ∨ way = .zero) : way.cut false n d = n / 2 ^ d := by
  have h1 : way.cut false n d = n / (1 <<< min d (n.log2 + 2)) := by
    unfold Toward.cut
    rcases h with rfl | rfl <;> simp
  rw [h1, Nat.shiftLeft_eq, Nat.one_mul]
  by_cases hd : d ≤ n.log2 + 2
  · rw [Nat.min_eq_left hd]
  · rw [Nat.min_eq_right (by omega)]
    have hl : n < 2 ^ (n.log2 + 1) := Nat.lt_log2_self
    have e1 : 2 ^ (n.log2 + 1) ≤ 2 ^ (n.log2 + 2) := Nat.pow_le_pow_right (by omega) (by omega)
    have e2 : 2 ^ (n.log2 + 2) ≤ 2 ^ d := Nat.pow_le_pow_right (by omega) (by omega)
    rw [Nat.div_eq_of_lt (by omega), Nat.div_eq_of_lt (by omega)]

theorem shift_div (m e : Nat) : (m <<< (-1074 + (e : Int)).toNat) / 2 ^ (-(-1074 + (e : Int))).toNat = m * 2 ^ e / 2 ^ K := by
  have hK := K_eq
  rw [Nat.shiftLeft_eq]
  rcases Nat.lt_or_ge e K with g | g
  · rw [show (-1074 + (e : Int)).toNat = 0 by omega, show (-(-1074 + (e : Int))).toNat = K - e by omega, Nat.pow_zero, Nat.mul_one]
    rw [show (2 : Nat) ^ K = 2 ^ (K - e) * 2 ^ e by rw [← Nat.pow_add]; congr 1; omega, Nat.mul_div_mul_right _ _ (Nat.two_pow_pos e)]
  · rw [show (-1074 + (e : Int)).toNat = e - K by omega, show (-(-1074 + (e : Int))).toNat = 0 by omega, Nat.pow_zero, Nat.div_one]
    rw [show (2 : Nat) ^ e = 2 ^ (e - K) * 2 ^ K by rw [← Nat.pow_add]; congr 1; omega, ← Nat.mul_assoc, Nat.mul_div_cancel _ (Nat.two_pow_pos K)]

theorem integral_fin (way : Toward) (x : Nat) (hx : isFin x = true) (hs : sgn x = false) (h : way = .down ∨ way = .zero) : (double.read x).integral way = .number false (mag (rung x) / 2 ^ K) 0 := by
  obtain ⟨m, e, rx, mx⟩ := read_fin x hx
  rw [rx, hs]
  unfold Datum.integral
  dsimp only
  rw [cut_small way _ _ h, shift_div, mx]

theorem toInt_fin (x : Nat) (hx : isFin x = true) (hs : sgn x = false) : (double.read x).toInt .zero = some ((mag (rung x) / 2 ^ K : Nat) : Int) := by
  unfold Datum.toInt
  rw [integral_fin .zero x hx hs (.inr rfl)]
  simp [signed]

theorem floor_fin (x : Nat) (hx : isFin x = true) (hs : sgn x = false) : double.write ((double.read x).integral .down) = rnd false 0 (mag (rung x) / 2 ^ K * 2 ^ K) := by
  rw [integral_fin .down x hx hs (.inl rfl)]
  unfold Format.write
  dsimp only
  rw [nearest_eq _ _ _ 0 K (by have := K_eq; omega)]
  rfl

theorem ofInt_eq (n : Int) : FloatKind.f64.nearest n = rnd (decide (n < 0)) 0 (n.natAbs * 2 ^ K) := by
  show double.write (.number (n < 0) n.natAbs 0) = _
  unfold Format.write
  dsimp only
  rw [nearest_eq _ _ _ 0 K (by have := K_eq; omega)]
  rfl

theorem mag_inf (t : Nat) (h : t = 2046) : mag 9218868437227405312 = 2 ^ (52 + t) := by
  have e : 9218868437227405312 = t * 4503599627370496 + 4503599627370496 := by omega
  rw [e, mag_kept t 4503599627370496 (by omega) (by omega), Nat.pow_add]

/-- Whole numbers below 2^53 are exact. -/
theorem int_exact (n : Nat) (h : n < 9007199254740992) : mag (near 0 (n * 2 ^ K)) = n * 2 ^ K ∧ near 0 (n * 2 ^ K) < 9218868437227405312 := by
  have hK := K_eq
  by_cases h0 : n = 0
  · subst h0
    rw [Nat.zero_mul, near_zero]
    exact ⟨rfl, by omega⟩
  have hlog : n.log2 ≤ 52 := by
    have := (Nat.log2_lt h0 (k := 53)).2 (by omega)
    omega
  have e1 : mag (near 0 (n * 2 ^ K)) = n * 2 ^ K := by
    rw [mag_near, log2_mul n _ h0, Nat.add_zero, Nat.add_zero]
    generalize ht : n.log2 + K - 52 = t
    have : n * 2 ^ K = n * 2 ^ (52 - n.log2) * 2 ^ t := by
      rw [Nat.mul_assoc, ← Nat.pow_add, show 52 - n.log2 + t = K by omega]
    rw [this, rne_mul _ _ (Nat.two_pow_pos _)]
  refine ⟨e1, ?_⟩
  rw [← mag_lt_iff, e1]
  obtain ⟨t, ht⟩ : ∃ t : Nat, t = 2046 := ⟨_, rfl⟩
  rw [mag_inf t ht]
  have h1 : n * 2 ^ K < 2 ^ 53 * 2 ^ K := Nat.mul_lt_mul_of_pos_right (by omega) (Nat.two_pow_pos K)
  rw [← Nat.pow_add] at h1
  exact Nat.lt_of_lt_of_le h1 (Nat.pow_le_pow_right (by omega) (by omega))

/-- What a whole number is as a float. -/
theorem ofInt_nat (n : Nat) (h : n < 9007199254740992) : isFin (FloatKind.f64.nearest n) = true ∧ sgn (FloatKind.f64.nearest n) = false ∧ mag (rung (FloatKind.f64.nearest n)) = n * 2 ^ K := by
  have h1 := int_exact n h
  have e : FloatKind.f64.nearest n = rnd false 0 (n * 2 ^ K) := by
    rw [ofInt_eq]
    congr 1
  rw [e, isFin_iff, rnd_rung, rnd_sgn, Nat.min_eq_left (by omega)]
  exact ⟨h1.2, rfl, h1.1⟩

end Dbl
end Go.Proofs.Ythpfkbdbioabaaa
