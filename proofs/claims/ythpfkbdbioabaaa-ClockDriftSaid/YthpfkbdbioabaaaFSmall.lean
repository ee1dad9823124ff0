/- A thousandth's multiple below 3, divided as floats are: it moves a clock by at most 2 while 1 passes; and what rates move while 1 passes. No program is named here. -/
import Derived.Test.YthpfkbdbioabaaaFOf
import Derived.Test.YthpfkbdbioabaaaFClk
set_option linter.unusedVariables false
set_option linter.unusedSimpArgs false
namespace Go.Proofs.Ythpfkbdbioabaaa
open Go.RowKit
namespace Dbl
open Ieee

theorem move_by_one (c : Nat) : moveC c 1 = mag (rung c) / 2 ^ K := by
  unfold moveC
  have := near_mag 0 (rung c)
  rw [Nat.pow_zero, Nat.mul_one] at this
  rw [Nat.one_mul, this]

theorem thousand : FloatKind.f64.nearest ((1000 : Nat) : Int) = 4652007308841189376 := by decide +kernel

theorem small_rate (m : Nat) (hm : m ≤ 2999) : ∃ q, double.div (FloatKind.f64.nearest (m : Int)) 4652007308841189376 = some q ∧ q < 18446744073709551616 ∧ moveF q 1 ≤ 2 := by
  obtain ⟨q, hq, fq, sq, lq, d1, _⟩ := div_near 1000 m (by omega) (by omega) (by omega)
  rw [thousand] at hq
  refine ⟨q, hq, lq, ?_⟩
  have hc : clampN 1 = 1 := by decide
  unfold moveF
  rw [hc, move_by_one]
  have hq3 : mag (rung q) / 2 ^ K ≤ 2 := by
    have hK : 2 ^ 20 ≤ 2 ^ K := Nat.pow_le_pow_right (by omega) (by have := K_eq; omega)
    have hm2 : m * 2 ^ K ≤ 2999 * 2 ^ K := Nat.mul_le_mul_right _ hm
    have : mag (rung q) / 2 ^ K < 3 := by
      rw [Nat.div_lt_iff_lt_mul (Nat.two_pow_pos K)]
      generalize 2 ^ K = U at *
      generalize m * U = mU at *
      omega
    omega
  have h2 : mag (rung (cleanF q)) / 2 ^ K ≤ 2 := by
    rcases clean_cases q with ⟨_, h⟩ | ⟨_, h, _⟩ | ⟨_, _, _, h⟩
    · rw [h, show rung 0 = 0 from rfl, mag_zero, Nat.zero_div]
      omega
    · exfalso
      have hv : val q = mag (rung q) := by
        unfold val
        rw [sq]
        rfl
      rw [hv] at h
      have e : (16 * 2 ^ K : Int) = ((16 * 2 ^ K : Nat) : Int) := by
        rw [Int.natCast_mul, Int.natCast_pow]
        rfl
      rw [e] at h
      have h := Int.ofNat_lt.1 h
      have h3 : mag (rung q) < 3 * 2 ^ K := by
        rw [← Nat.div_lt_iff_lt_mul (Nat.two_pow_pos K)]
        omega
      generalize 2 ^ K = U at *
      omega
    · rw [h]
      exact hq3
  omega
end Dbl

namespace Clk
/-- While 1 passes no clock goes on by more than 2. -/
def Slow (s : St) : Prop := ∀ j, Dbl.moveF (s.rate j) 1 ≤ 2

theorem slow_new (n : Int) : Slow (new n) := by
  intro j
  show Dbl.moveF (if j < clampH n then 4607182418800017408 else 0) 1 ≤ 2
  split
  · rw [Dbl.move_one 1 (by omega) (by omega)]; omega
  · rw [Dbl.move_zero 0 1 (by decide)]; omega

theorem Slow.setI {s : St} (h : Slow s) (i : Int) (x : Nat) (hx : x < 18446744073709551616) (hm : Dbl.moveF x 1 ≤ 2) : Slow (setI s i x) := by
  unfold Clk.setI
  split
  · intro j
    show Dbl.moveF (upd s.rate i.toNat (Dbl.cleanF x) j) 1 ≤ 2
    unfold upd
    split
    · rw [Dbl.move_clean x 1 hx]
      exact hm
    · exact h j
  · exact h

theorem Slow.pass {s : St} (h : Slow s) (p : Int) : Slow (pass s p) := h

theorem setI_n (s : St) (i : Int) (x : Nat) : (setI s i x).n = s.n := by
  unfold setI
  split <;> rfl

theorem setI_worst (s : St) (i : Int) (x : Nat) : (setI s i x).worst = s.worst := by
  unfold setI
  split <;> rfl

theorem need_one (m : Int) (h0 : 0 ≤ m) (h2 : m ≤ 2) : need 1 m ≤ 1000 := by
  unfold need
  rw [Int.ediv_one]
  omega

/-- The worst behind a clock that is still, while 1 passes. -/
theorem still_worst (s : St) (h : Slow s) (hn : s.n = 2) (hr : ∀ i, s.rate i < 18446744073709551616) : (pass (setI s 0 0) 1).worst = max s.worst 1000 := by
  have hs : setI s 0 0 = set s 0 0 := if_pos ⟨by omega, by omega⟩
  rw [hs]
  show wk (set s 0 0) 1 (set s 0 0).n = _
  rw [show (set s 0 0).n = 2 from hn]
  show max (max s.worst (need 1 (mv (set s 0 0) 1 0))) (need 1 (mv (set s 0 0) 1 1)) = _
  have m0 : mv (set s 0 0) 1 0 = 0 := by
    show Dbl.moveF (upd s.rate 0 (Dbl.cleanF 0) 0) 1 = 0
    rw [upd_same]
    exact Dbl.move_zero _ _ (by decide)
  have m1 : mv (set s 0 0) 1 1 = Dbl.moveF (s.rate 1) 1 := by
    show Dbl.moveF (upd s.rate 0 (Dbl.cleanF 0) 1) 1 = _
    rw [upd_other _ _ _ _ (by omega)]
  rw [m0, m1]
  have b := move_bounds (s.rate 1) 1 (hr 1)
  have n1 := need_one _ b.1 (h 1)
  have n0 : need 1 0 = 1000 := by decide
  rw [n0]
  omega
end Clk
end Go.Proofs.Ythpfkbdbioabaaa
