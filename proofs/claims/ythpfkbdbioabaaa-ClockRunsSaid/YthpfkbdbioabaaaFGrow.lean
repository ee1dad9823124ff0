/- How Move grows, and what a clean rate's least and greatest are. No program is named here. -/
import Derived.Test.YthpfkbdbioabaaaFRate
set_option linter.unusedVariables false
set_option linter.unusedSimpArgs false
namespace Go.Proofs.Ythpfkbdbioabaaa
namespace Dbl

theorem minmax (c d : Nat) (hc : Cl c) (hd : Cl d) : ∃ a b, fmin c d = some a ∧ fmax c d = some b ∧ Cl a ∧ Cl b ∧ mag (rung a) ≤ mag (rung b) := by
  have h1 := hc.val_eq
  have h2 := hd.val_eq
  unfold fmin fmax
  rw [hc.notNan, hd.notNan, flt_not c d hc.notNan hd.notNan, flt_not d c hd.notNan hc.notNan, hc.sgn, h1, h2]
  by_cases g1 : (mag (rung c) : Int) < mag (rung d)
  · refine ⟨c, d, by simp [g1], by simp [g1], hc, hd, by omega⟩
  · by_cases g2 : (mag (rung d) : Int) < mag (rung c)
    · refine ⟨d, c, by simp [g1, g2], by simp [g1, g2], hd, hc, by omega⟩
    · refine ⟨d, c, by simp [g1, g2], by simp [g1, g2], hd, hc, by omega⟩

theorem move_grows (a b : Nat) (n m : Int) (ha : Cl a) (hb : Cl b) (h : mag (rung a) ≤ mag (rung b)) (hn : n ≤ m) :
    moveF a n ≤ moveF b m ∧ 0 ≤ moveF a n ∧ moveF b m ≤ 16000 := by
  unfold moveF
  rw [clean_of_cl ha, clean_of_cl hb]
  have h1 : clampN n ≤ clampN m := by unfold clampN; omega
  have h2 := moveC_mono a b _ _ h h1
  have h3 := moveC_le b (clampN m) hb (clampN_le m)
  omega

theorem one_cl : Cl 4607182418800017408 := by
  refine Cl.mid _ (by omega) ?_ ?_ ?_
  · decide
  · rw [val_small _ (by omega), mag_one]
    have := Nat.two_pow_pos K
    omega
  · rw [val_small _ (by omega), mag_one, Int.natCast_pow]
    have : (0 : Int) < 2 ^ K := Int.pow_pos (by omega)
    show (2 : Int) ^ K ≤ 16 * 2 ^ K
    omega

theorem move_one (k : Int) (h0 : 0 ≤ k) (h1 : k ≤ 1000) : moveF 4607182418800017408 k = k := by
  unfold moveF moveC
  rw [clean_of_cl one_cl, rung_small _ (by omega), mag_one, (int_exact (clampN k) (by have := clampN_le k; omega)).1, Nat.mul_div_cancel _ (Nat.two_pow_pos K)]
  unfold clampN
  omega

theorem move_clean (x : Nat) (k : Int) (hx : x < 18446744073709551616) : moveF (cleanF x) k = moveF x k := by
  unfold moveF
  rw [clean_of_cl (clean_cl x hx)]

theorem move_zero (x : Nat) (k : Int) (h : cleanF x = 0) : moveF x k = 0 := by
  unfold moveF moveC
  rw [h, show rung 0 = 0 from rfl, mag_zero, Nat.mul_zero, near_zero, mag_zero, Nat.zero_div]
  rfl
end Dbl
end Go.Proofs.Ythpfkbdbioabaaa
