/- What package rate answers, as plain functions, and what holds of them. No program is named here. -/
import Derived.Test.YthpfkbdbioabaaaFlo
set_option linter.unusedVariables false
set_option linter.unusedSimpArgs false
namespace Go.Proofs.Ythpfkbdbioabaaa
namespace Dbl
open Ieee

/-- Clean. 4625196817309499392 is 16. -/
def cleanF (x : Nat) : Nat := if !feq x x || (flt x 0 || feq x 0) then 0 else if flt 4625196817309499392 x then 4625196817309499392 else x

theorem rung_small (x : Nat) (h : x < 9223372036854775808) : rung x = x := Nat.mod_eq_of_lt h
theorem sgn_small (x : Nat) (h : x < 9223372036854775808) : sgn x = false := by
  unfold sgn
  rw [show x / 9223372036854775808 = 0 by omega]
  rfl

theorem mag_sixteen : mag 4625196817309499392 = 16 * 2 ^ K := by
  have e : (4625196817309499392 : Nat) = (K - 48) * 4503599627370496 + 4503599627370496 := by rw [K_eq]
  rw [e, mag_kept _ _ (by omega) (by omega)]
  have hK := K_eq
  rw [show (4503599627370496 : Nat) = 16 * 2 ^ 48 by rfl, Nat.mul_assoc, ← Nat.pow_add]
  congr 2

theorem mag_one : mag 4607182418800017408 = 2 ^ K := by
  have e : (4607182418800017408 : Nat) = (K - 52) * 4503599627370496 + 4503599627370496 := by rw [K_eq]
  rw [e, mag_kept _ _ (by omega) (by omega)]
  have hK := K_eq
  rw [show (4503599627370496 : Nat) = 2 ^ 52 by rfl, ← Nat.pow_add]
  congr 1

theorem val_small (x : Nat) (h : x < 9223372036854775808) : val x = mag x := by
  unfold val
  rw [sgn_small x h, rung_small x h]
  rfl

theorem mag_zero : mag 0 = 0 := rfl
theorem val_zero : val 0 = 0 := rfl

theorem mag_pos (r : Nat) (h : 0 < r) : 0 < mag r := by
  have := mag_lt 0 r h
  rwa [mag_zero] at this

theorem sixteen_lt_inf : mag 4625196817309499392 < mag 9218868437227405312 := mag_lt _ _ (by omega)

/-- What a clean rate is. -/
structure Cl (c : Nat) : Prop where
  fin : isFin c = true
  sgn : sgn c = false
  le : mag (rung c) ≤ 16 * 2 ^ K
  lt : c < 9223372036854775808

theorem Cl.zero : Cl 0 := ⟨rfl, rfl, by rw [show rung 0 = 0 from rfl, mag_zero]; exact Nat.zero_le _, by omega⟩

theorem Cl.sixteen : Cl 4625196817309499392 := by
  refine ⟨?_, sgn_small _ (by omega), ?_, by omega⟩
  · rw [isFin_iff, rung_small _ (by omega)]; omega
  · rw [rung_small _ (by omega), mag_sixteen]; exact Nat.le_refl _

theorem sgn_lt (x : Nat) (h : x < 18446744073709551616) (hs : sgn x = false) : x < 9223372036854775808 := by
  rcases Nat.lt_or_ge x 9223372036854775808 with g | g
  · exact g
  · unfold sgn at hs
    rw [show x / 9223372036854775808 = 1 by omega] at hs
    cases hs

/-- A rate above nought and at most the greatest. -/
theorem Cl.mid (x : Nat) (hx : x < 18446744073709551616) (hn : isNan x = false) (h0 : 0 < val x) (h1 : val x ≤ 16 * 2 ^ K) : Cl x := by
  have hs : Dbl.sgn x = false := by
    unfold val at h0
    cases h : Dbl.sgn x with
    | false => rfl
    | true =>
      rw [h, if_pos rfl] at h0
      omega
  have hl := sgn_lt x hx hs
  have hv : (mag (rung x) : Int) ≤ 16 * 2 ^ K := by
    unfold val at h1
    rw [hs] at h1
    simpa using h1
  have hm : mag (rung x) ≤ 16 * 2 ^ K := by
    have e : (16 * 2 ^ K : Int) = ((16 * 2 ^ K : Nat) : Int) := by
      rw [Int.natCast_mul, Int.natCast_pow]
      rfl
    rw [e] at hv
    exact Int.ofNat_le.1 hv
  refine ⟨?_, hs, hm, hl⟩
  rw [isFin_iff, ← mag_lt_iff]
  have h2 := sixteen_lt_inf
  rw [mag_sixteen] at h2
  exact Nat.lt_of_le_of_lt hm h2

theorem val_sixteen : val 4625196817309499392 = 16 * 2 ^ K := by
  rw [val_small _ (by omega), mag_sixteen, Int.natCast_mul, Int.natCast_pow]
  rfl

theorem feq_not (x y : Nat) (hx : isNan x = false) (hy : isNan y = false) : feq x y = decide (val x = val y) := by
  unfold feq; rw [hx, hy]; rfl
theorem flt_not (x y : Nat) (hx : isNan x = false) (hy : isNan y = false) : flt x y = decide (val x < val y) := by
  unfold flt; rw [hx, hy]; rfl
theorem nan_zero : isNan 0 = false := rfl
theorem nan_sixteen : isNan 4625196817309499392 = false := isFin_notNan _ Cl.sixteen.fin

/-- The three ways that Clean goes. -/
theorem clean_cases (x : Nat) :
    ((isNan x = true ∨ val x ≤ 0) ∧ cleanF x = 0) ∨ (isNan x = false ∧ 16 * 2 ^ K < val x ∧ cleanF x = 4625196817309499392) ∨
    (isNan x = false ∧ 0 < val x ∧ val x ≤ 16 * 2 ^ K ∧ cleanF x = x) := by
  unfold cleanF
  rw [feq_self]
  cases hn : isNan x with
  | true => left; exact ⟨.inl rfl, by simp⟩
  | false =>
    rw [flt_not x 0 hn nan_zero, feq_not x 0 hn nan_zero, flt_not _ x nan_sixteen hn, val_zero, val_sixteen]
    by_cases h0 : val x ≤ 0
    · left
      refine ⟨.inr h0, ?_⟩
      rw [if_pos]
      simp
      omega
    · right
      have hb : (!(!false) || (decide (val x < 0) || decide (val x = 0))) = false := by
        simp
        omega
      rw [hb]
      by_cases h1 : 16 * 2 ^ K < val x
      · left
        exact ⟨rfl, h1, by simp [h1]⟩
      · right
        exact ⟨rfl, by omega, by omega, by simp [h1]⟩

theorem clean_cl (x : Nat) (hx : x < 18446744073709551616) : Cl (cleanF x) := by
  rcases clean_cases x with ⟨_, h⟩ | ⟨_, _, h⟩ | ⟨h1, h2, h3, h⟩
  · rw [h]; exact Cl.zero
  · rw [h]; exact Cl.sixteen
  · rw [h]; exact Cl.mid x hx h1 h2 h3

/-- A clean rate's value. -/
theorem Cl.val_eq {c : Nat} (h : Cl c) : val c = mag (rung c) := by
  unfold Dbl.val
  rw [h.sgn]
  rfl

theorem Cl.rung_eq {c : Nat} (h : Cl c) : rung c = c := rung_small c h.lt

theorem Cl.notNan {c : Nat} (h : Cl c) : isNan c = false := isFin_notNan _ h.fin

theorem clean_of_cl {c : Nat} (h : Cl c) : cleanF c = c := by
  rcases clean_cases c with ⟨h1, h2⟩ | ⟨_, h1, _⟩ | ⟨_, _, _, h2⟩
  · rw [h2]
    rcases h1 with h1 | h1
    · rw [h.notNan] at h1; cases h1
    · rw [h.val_eq, h.rung_eq] at h1
      rcases Nat.eq_zero_or_pos c with g | g
      · exact g.symm
      · have := mag_pos c g
        omega
  · have h3 := h.le
    rw [h.val_eq] at h1
    have e : (16 * 2 ^ K : Int) = ((16 * 2 ^ K : Nat) : Int) := by
      rw [Int.natCast_mul, Int.natCast_pow]
      rfl
    rw [e] at h1
    have := Int.ofNat_lt.1 h1
    omega
  · exact h2

/-- What passes, as Move takes it. -/
def clampN (n : Int) : Nat := (min (max n 0) 1000).toNat
theorem clampN_le (n : Int) : clampN n ≤ 1000 := by unfold clampN; omega

/-- Move: of a clean rate and a number from 0 to 1000. -/
def moveC (c : Nat) (n : Nat) : Nat := mag (near 0 (n * mag (rung c))) / 2 ^ K
def prodC (c n : Nat) : Nat := rnd false 0 (n * mag (rung c))
def moveF (x : Nat) (n : Int) : Int := (moveC (cleanF x) (clampN n) : Int)

theorem prod_near (c n : Nat) (h : Cl c) (hn : n ≤ 1000) : near 0 (n * mag (rung c)) ≤ near 0 (16000 * 2 ^ K) ∧ near 0 (n * mag (rung c)) < 9218868437227405312 := by
  have h1 : n * mag (rung c) ≤ 16000 * 2 ^ K := by
    have e : 16000 * 2 ^ K = 1000 * (16 * 2 ^ K) := by rw [← Nat.mul_assoc]
    rw [e]
    exact Nat.mul_le_mul hn h.le
  have h2 := near_mono 0 _ _ h1
  have h3 := (int_exact 16000 (by omega)).2
  exact ⟨h2, by omega⟩

theorem mul_clean (c n : Nat) (h : Cl c) (hn : n ≤ 1000) : double.mul (FloatKind.f64.nearest n) c = some (prodC c n) := by
  obtain ⟨h1, h2, h3⟩ := ofInt_nat n (by omega)
  rw [mul_fin _ _ h1 h.fin, h2, h.sgn, h3]
  unfold prodC rnd
  have : near K (n * 2 ^ K * mag (rung c)) = near 0 (n * mag (rung c)) := by
    have e := near_scale 0 K (n * mag (rung c))
    rw [Nat.zero_add] at e
    rw [← e, Nat.mul_assoc n (2 ^ K), Nat.mul_comm (2 ^ K), ← Nat.mul_assoc]
  rw [this]
  rfl

theorem prodC_fin (c n : Nat) (h : Cl c) (hn : n ≤ 1000) : isFin (prodC c n) = true ∧ sgn (prodC c n) = false ∧ rung (prodC c n) = near 0 (n * mag (rung c)) ∧ prodC c n < 18446744073709551616 := by
  have h1 := (prod_near c n h hn).2
  unfold prodC
  rw [isFin_iff, rnd_rung, rnd_sgn, Nat.min_eq_left (by omega)]
  exact ⟨h1, rfl, rfl, rnd_lt _ _ _⟩

theorem moveC_le (c n : Nat) (h : Cl c) (hn : n ≤ 1000) : moveC c n ≤ 16000 := by
  have h1 := mag_le _ _ (prod_near c n h hn).1
  rw [(int_exact 16000 (by omega)).1] at h1
  unfold moveC
  refine Nat.div_le_of_le_mul ?_
  generalize 2 ^ K = u at *
  omega

theorem moveC_mono (c d n m : Nat) (h : mag (rung c) ≤ mag (rung d)) (hn : n ≤ m) : moveC c n ≤ moveC d m := by
  unfold moveC
  exact Nat.div_le_div_right (mag_le _ _ (near_mono 0 _ _ (Nat.mul_le_mul hn h)))

/-- The whole part, made a float and an int again. -/
theorem floor_prod (c n : Nat) (h : Cl c) (hn : n ≤ 1000) :
    double.write ((double.read (prodC c n)).integral .down) = FloatKind.f64.nearest (moveC c n) := by
  obtain ⟨h1, h2, h3, _⟩ := prodC_fin c n h hn
  rw [floor_fin _ h1 h2, h3, ofInt_eq]
  have : decide (((moveC c n : Nat) : Int) < 0) = false := by simp
  rw [this, Int.natAbs_natCast]
  unfold moveC
  rfl

theorem toIntVal_fin (x N : Nat) (hx : isFin x = true) (hs : sgn x = false) (hN : mag (rung x) / 2 ^ K = N) (hb : N < 9007199254740992) : floatToIntVal .f64 x .i64 = some (N : Int) := by
  have e : (FloatKind.f64.decode x).toInt .zero = some (N : Int) := by
    show (double.read x).toInt .zero = _
    rw [toInt_fin x hx hs, hN]
  have h1 : IntKind.i64.min = -9223372036854775808 := by decide
  have h2 : IntKind.i64.max = 9223372036854775807 := by decide
  unfold floatToIntVal
  rw [e]
  show (if IntKind.i64.min ≤ (N : Int) ∧ (N : Int) ≤ IntKind.i64.max then some (N : Int) else none) = _
  rw [if_pos (by rw [h1, h2]; omega)]

theorem toInt_prod (c n : Nat) (h : Cl c) (hn : n ≤ 1000) : floatToIntVal .f64 (prodC c n) .i64 = some (moveC c n : Int) := by
  obtain ⟨h1, h2, h3, _⟩ := prodC_fin c n h hn
  have h4 := moveC_le c n h hn
  exact toIntVal_fin _ _ h1 h2 (by rw [h3]; unfold moveC; rfl) (by omega)

theorem toInt_nat (n : Nat) (h : n < 9007199254740992) : floatToIntVal .f64 (FloatKind.f64.nearest n) .i64 = some (n : Int) := by
  obtain ⟨h1, h2, h3⟩ := ofInt_nat n h
  exact toIntVal_fin _ _ h1 h2 (by rw [h3, Nat.mul_div_cancel _ (Nat.two_pow_pos K)]) h
end Dbl
end Go.Proofs.Ythpfkbdbioabaaa
