/- A quotient of small whole numbers, times the lower one, less the upper one. No program is named here. -/
import Derived.Test.YthpfkbdbioabaaaFFar
set_option linter.unusedVariables false
set_option linter.unusedSimpArgs false
namespace Go.Proofs.Ythpfkbdbioabaaa
namespace Dbl
open Ieee

theorem read_fin_lt (x : Nat) (h : isFin x = true) : ∃ (m e : Nat), double.read x = .number (sgn x) m (-1074 + (e : Int)) ∧ m * 2 ^ e = mag (rung x) ∧ m < 9007199254740992 := by
  have h' := (isFin_iff x).1 h
  rw [read_eq]
  generalize rung x = r at *
  unfold mag
  by_cases h1 : r < 4503599627370496
  · rw [if_pos h1, if_pos h1]
    exact ⟨r, 0, by simp, by simp, by omega⟩
  · rw [if_neg h1, if_pos h', if_neg h1]
    exact ⟨_, _, rfl, rfl, by omega⟩

theorem near_K (V : Nat) : near K (V * 2 ^ K) = near 0 V := by
  have e := near_scale 0 K V
  rwa [Nat.zero_add] at e

/-- What the division's steps make, over any whole numbers. -/
theorem quot_parts (M N more : Nat) (hN : 0 < N) :
    (2 * ((M <<< more) / N) + ((M <<< more) % N != 0).toNat) * N ≤ 2 * M * 2 ^ more + N ∧ 2 * M * 2 ^ more ≤ (2 * ((M <<< more) / N) + ((M <<< more) % N != 0).toNat) * N + N := by
  rw [Nat.shiftLeft_eq]
  have e1 := Nat.div_add_mod (M * 2 ^ more) N
  have e2 := Nat.mod_lt (M * 2 ^ more) hN
  rw [Nat.mul_assoc 2 M]
  generalize M * 2 ^ more = D at *
  rw [Nat.add_mul, Nat.mul_assoc, Nat.mul_comm (D / N) N]
  generalize N * (D / N) = B at *
  generalize D % N = R at *
  by_cases h : R = 0
  · subst h
    simp
    omega
  · have : (R != 0) = true := by simp [h]
    rw [this]
    simp
    omega

/-- The same, over the floats' own units. -/
theorem quot_bounds (m k M N i j more U : Nat) (hM : M * 2 ^ i = m * U) (hN : N * 2 ^ j = k * U) (hMl : M < 9007199254740992) (hM0 : M ≠ 0) (hN0 : N ≠ 0) (hmore : more = 54 + N.log2 - M.log2) (hU : 0 < U) (Q V T : Nat)
    (hQ : Q = 2 * ((M <<< more) / N) + ((M <<< more) % N != 0).toNat) (hV : V = Q * (U * 2 ^ i)) (hT : T = 2 ^ (j + more + 1)) :
    k * V ≤ m * U * T + k * U * 2 ^ i ∧ m * U * T ≤ k * V + k * U * 2 ^ i ∧ 2 ^ 54 * (k * U * 2 ^ i) ≤ m * U * T := by
  obtain ⟨q1, q2⟩ := quot_parts M N more (Nat.pos_of_ne_zero hN0)
  rw [← hQ] at q1 q2
  have a : 0 < U * 2 ^ i * 2 ^ j := Nat.mul_pos (Nat.mul_pos hU (Nat.two_pow_pos i)) (Nat.two_pow_pos j)
  have r1 : k * V * U = Q * N * (U * 2 ^ i * 2 ^ j) := by
    have : k * V * U = (k * U) * V := by rw [Nat.mul_assoc, Nat.mul_comm V U, ← Nat.mul_assoc]
    rw [this, ← hN, hV]
    simp only [Nat.mul_assoc, Nat.mul_left_comm, Nat.mul_comm]
  have r2 : m * U * T * U = 2 * M * 2 ^ more * (U * 2 ^ i * 2 ^ j) := by
    rw [← hM, hT, Nat.pow_succ, Nat.pow_add]
    simp only [Nat.mul_assoc, Nat.mul_left_comm, Nat.mul_comm]
  have r3 : k * U * 2 ^ i * U = N * (U * 2 ^ i * 2 ^ j) := by
    rw [← hN]
    simp only [Nat.mul_assoc, Nat.mul_left_comm, Nat.mul_comm]
  refine ⟨?_, ?_, ?_⟩
  · refine Nat.le_of_mul_le_mul_right ?_ hU
    rw [Nat.add_mul, r1, r2, r3, ← Nat.add_mul]
    exact Nat.mul_le_mul_right _ q1
  · refine Nat.le_of_mul_le_mul_right ?_ hU
    rw [Nat.add_mul, r1, r2, r3, ← Nat.add_mul]
    exact Nat.mul_le_mul_right _ q2
  · refine Nat.le_of_mul_le_mul_right ?_ hU
    rw [Nat.mul_assoc, r2, r3, ← Nat.mul_assoc]
    refine Nat.mul_le_mul_right _ ?_
    have hlM : M.log2 ≤ 52 := by
      have := (Nat.log2_lt hM0 (k := 53)).2 (by omega)
      omega
    have e1 : 2 ^ more * 2 ^ M.log2 = 2 ^ 54 * 2 ^ N.log2 := by
      rw [← Nat.pow_add, ← Nat.pow_add]
      congr 1
      omega
    have h1 := Nat.log2_self_le hM0
    have h2 : N < 2 ^ (N.log2 + 1) := Nat.lt_log2_self
    rw [Nat.pow_succ] at h2
    have h3 : 2 ^ more * 2 ^ M.log2 ≤ 2 ^ more * M := Nat.mul_le_mul_left _ h1
    rw [e1] at h3
    have h4 : 2 ^ 54 * N ≤ 2 ^ 54 * (2 ^ N.log2 * 2) := Nat.mul_le_mul_left _ (by omega)
    have h5 : 2 * M * 2 ^ more = 2 * (2 ^ more * M) := by rw [Nat.mul_assoc, Nat.mul_comm M]
    rw [h5]
    generalize 2 ^ more * M = A at *
    generalize 2 ^ N.log2 = B at *
    omega

theorem div_read (x y : Nat) (hx : isFin x = true) (hy : isFin y = true) (sx : sgn x = false) (sy : sgn y = false) (h0 : mag (rung x) ≠ 0) (h1 : mag (rung y) ≠ 0) :
    ∃ M N i j : Nat, M * 2 ^ i = mag (rung x) ∧ N * 2 ^ j = mag (rung y) ∧ M < 9007199254740992 ∧ M ≠ 0 ∧ N ≠ 0 ∧
      double.div x y = some (rnd false (j + (54 + N.log2 - M.log2) + 1) ((2 * ((M <<< (54 + N.log2 - M.log2)) / N) + ((M <<< (54 + N.log2 - M.log2)) % N != 0).toNat) * (2 ^ K * 2 ^ i))) := by
  obtain ⟨M, i, rx, mx, hM⟩ := read_fin_lt x hx
  obtain ⟨N, j, ry, my, _⟩ := read_fin_lt y hy
  have hM0 : M ≠ 0 := by
    intro h
    rw [h, Nat.zero_mul] at mx
    exact h0 mx.symm
  have hN0 : N ≠ 0 := by
    intro h
    rw [h, Nat.zero_mul] at my
    exact h1 my.symm
  refine ⟨M, N, i, j, mx, my, hM, hM0, hN0, ?_⟩
  unfold Format.div
  rw [rx, ry, sx, sy]
  unfold Datum.quotient
  dsimp only
  rw [if_neg hN0]
  dsimp only [Option.map]
  unfold Format.write
  dsimp only
  have hf : double.fractionBits + 2 = 54 := rfl
  rw [hf]
  have hK := K_eq
  rw [nearest_eq _ _ _ (j + (54 + N.log2 - M.log2) + 1) (K + i) (by omega), Nat.pow_add]
  rfl

/-- One step of the reckoning, all numbers plain. -/
theorem reckon (Z X Y E S V : Nat) (k T : Nat) (hS : S = k * T) (hY : Y = k * V) (G : Nat) (hZ : Z = k * (G * T)) (hk : 1 ≤ k)
    (h1 : 2 * (G * T) ≤ 2 * V + max T (V / 4503599627370496)) (h2 : 2 * V ≤ 2 * (G * T) + max T (V / 4503599627370496))
    (a1 : Y ≤ X + E) (a2 : X ≤ Y + E) (a3 : 2 ^ 54 * E ≤ X) :
    1125899906842624 * Z ≤ 1125899906842625 * X + 1125899906842624 * S ∧ 1125899906842624 * X ≤ 1125899906842624 * Z + X + 1125899906842624 * S := by
  have b1 : 9007199254740992 * (G * T) ≤ 9007199254740992 * V + 4503599627370496 * T + V := by omega
  have b2 : 9007199254740992 * V ≤ 9007199254740992 * (G * T) + 4503599627370496 * T + V := by omega
  have c1 := Nat.mul_le_mul_left k b1
  have c2 := Nat.mul_le_mul_left k b2
  simp only [Nat.mul_add] at c1 c2
  have e1 : k * (9007199254740992 * (G * T)) = 9007199254740992 * Z := by rw [hZ, Nat.mul_left_comm]
  have e2 : k * (9007199254740992 * V) = 9007199254740992 * Y := by rw [hY, Nat.mul_left_comm]
  have e3 : k * (4503599627370496 * T) = 4503599627370496 * S := by rw [hS, Nat.mul_left_comm]
  rw [e1, e2, e3, ← hY] at c1 c2
  clear b1 b2 h1 h2 hZ hS
  omega

/-- The quotient, times the lower number: near the upper one. -/
theorem div_near (k m : Nat) (hk : 1 ≤ k) (hk2 : k ≤ 1000) (hm : m ≤ 3000) :
    ∃ q, double.div (FloatKind.f64.nearest m) (FloatKind.f64.nearest k) = some q ∧ isFin q = true ∧ sgn q = false ∧ q < 18446744073709551616 ∧
      1125899906842624 * (k * mag (rung q)) ≤ 1125899906842625 * (m * 2 ^ K) + 1125899906842624 * k ∧
      1125899906842624 * (m * 2 ^ K) ≤ 1125899906842624 * (k * mag (rung q)) + m * 2 ^ K + 1125899906842624 * k := by
  obtain ⟨fm, sm, mm⟩ := ofInt_nat m (by omega)
  obtain ⟨fk, sk, mk⟩ := ofInt_nat k (by omega)
  have hU : 0 < 2 ^ K := Nat.two_pow_pos K
  by_cases hm0 : m = 0
  · subst hm0
    refine ⟨0, ?_, rfl, rfl, by omega, ?_, ?_⟩
    · obtain ⟨N, j, ry, my, _⟩ := read_fin_lt _ fk
      have hN0 : N ≠ 0 := by
        intro h
        rw [h, Nat.zero_mul, mk] at my
        rcases Nat.mul_eq_zero.1 my.symm with h | h <;> omega
      have r0 : double.read (FloatKind.f64.nearest ((0 : Nat) : Int)) = .number false 0 (-1074) := by decide
      unfold Format.div
      rw [r0, ry, sk]
      unfold Datum.quotient
      dsimp only
      rw [if_neg hN0]
      dsimp only [Option.map]
      have z : ∀ s : Nat, (0 <<< s : Nat) = 0 := fun s => by rw [Nat.shiftLeft_eq, Nat.zero_mul]
      rw [z, Nat.zero_div, Nat.zero_mod]
      unfold Format.write
      dsimp only
      rw [nearest_def]
      rfl
    · rw [show rung 0 = 0 from rfl, mag_zero]
      omega
    · rw [show rung 0 = 0 from rfl, mag_zero]
      omega
  · have h0 : mag (rung (FloatKind.f64.nearest (m : Int))) ≠ 0 := by
      rw [mm]
      intro h
      rcases Nat.mul_eq_zero.1 h with h | h <;> omega
    have h1 : mag (rung (FloatKind.f64.nearest (k : Int))) ≠ 0 := by
      rw [mk]
      intro h
      rcases Nat.mul_eq_zero.1 h with h | h <;> omega
    obtain ⟨M, N, i, j, eM, eN, hM, hM0, hN0, hd⟩ := div_read _ _ fm fk sm sk h0 h1
    rw [mm] at eM
    rw [mk] at eN
    generalize hmore : 54 + N.log2 - M.log2 = more at hd
    generalize hQ : 2 * ((M <<< more) / N) + ((M <<< more) % N != 0).toNat = Q at hd
    obtain ⟨a1, a2, a3⟩ := quot_bounds m k M N i j more (2 ^ K) eM eN hM hM0 hN0 hmore.symm hU Q _ _ hQ.symm rfl rfl
    obtain ⟨n1, n2⟩ := near_off (j + more + 1) (Q * (2 ^ K * 2 ^ i))
    have hT : 0 < 2 ^ (j + more + 1) := Nat.two_pow_pos _
    generalize Q * (2 ^ K * 2 ^ i) = V at *
    unfold rnd at hd
    generalize hc : j + more + 1 = c at *
    generalize hG : near c V = g at *
    generalize hTT : 2 ^ c = T at *
    obtain ⟨b1, b2⟩ := reckon (k * (mag g * T)) (m * 2 ^ K * T) (k * V) (k * 2 ^ K * 2 ^ i) (k * T) V k T rfl rfl (mag g) rfl hk n1 n2 a1 a2 a3
    have d1 : 1125899906842624 * (k * mag g) ≤ 1125899906842625 * (m * 2 ^ K) + 1125899906842624 * k := by
      refine Nat.le_of_mul_le_mul_right ?_ hT
      rw [Nat.add_mul, Nat.mul_assoc 1125899906842624 (k * mag g) T, Nat.mul_assoc k (mag g) T, Nat.mul_assoc 1125899906842625 (m * 2 ^ K) T, Nat.mul_assoc 1125899906842624 k T]
      exact b1
    have d2 : 1125899906842624 * (m * 2 ^ K) ≤ 1125899906842624 * (k * mag g) + m * 2 ^ K + 1125899906842624 * k := by
      refine Nat.le_of_mul_le_mul_right ?_ hT
      rw [Nat.add_mul, Nat.add_mul, Nat.mul_assoc 1125899906842624 (m * 2 ^ K) T, Nat.mul_assoc 1125899906842624 (k * mag g) T, Nat.mul_assoc k (mag g) T, Nat.mul_assoc 1125899906842624 k T]
      exact b2
    have hgi : g < 9218868437227405312 := by
      rw [← mag_lt_iff]
      obtain ⟨t, ht⟩ : ∃ t : Nat, t = 2046 := ⟨_, rfl⟩
      rw [mag_inf t ht]
      have hKt : 2 ^ K * 2 ^ 20 ≤ 2 ^ (52 + t) := by
        rw [← Nat.pow_add]
        exact Nat.pow_le_pow_right (by omega) (by have := K_eq; omega)
      have hmU : m * 2 ^ K ≤ 3000 * 2 ^ K := Nat.mul_le_mul_right _ hm
      have hkg : mag g ≤ k * mag g := Nat.le_mul_of_pos_left _ (by omega)
      generalize 2 ^ K = U at *
      generalize m * U = mU at *
      generalize k * mag g = kg at *
      omega
    refine ⟨word false (min g 9218868437227405312), by rw [hd], ?_, sgn_word _ _ (by omega), word_lt _ _ (by omega), ?_, ?_⟩
    · rw [isFin_iff, rung_word _ _ (by omega)]
      omega
    · rw [rung_word _ _ (by omega), Nat.min_eq_left (by omega)]
      exact d1
    · rw [rung_word _ _ (by omega), Nat.min_eq_left (by omega)]
      exact d2

theorem mag_tiny : mag 4517110426252607488 = 2 ^ (K - 20) := by
  have e : (4517110426252607488 : Nat) = (K - 72) * 4503599627370496 + 4503599627370496 := by rw [K_eq]
  rw [e, mag_kept _ _ (by omega) (by omega)]
  have hK := K_eq
  rw [show (4503599627370496 : Nat) = 2 ^ 52 by rfl, ← Nat.pow_add]
  congr 1

/-- RateOf's first test: |q * k - m| is at most a millionth. -/
theorem of_near (k m : Nat) (hk : 1 ≤ k) (hk2 : k ≤ 1000) (hm : m ≤ 2000) :
    ∃ q p d, double.div (FloatKind.f64.nearest m) (FloatKind.f64.nearest k) = some q ∧ double.mul q (FloatKind.f64.nearest k) = some p ∧ double.sub p (FloatKind.f64.nearest m) = some d ∧
      d < 18446744073709551616 ∧ flt 4517329193108106637 (rung d) = false := by
  obtain ⟨q, hq, fq, sq, lq, d1, d2⟩ := div_near k m hk hk2 (by omega)
  obtain ⟨fm, sm, mm⟩ := ofInt_nat m (by omega)
  obtain ⟨fk, sk, mk⟩ := ofInt_nat k (by omega)
  have hp := mul_fin q _ fq fk
  have hnk : near K (mag (rung q) * (k * 2 ^ K)) = near 0 (k * mag (rung q)) := by
    rw [← near_K (k * mag (rung q)), ← Nat.mul_assoc, Nat.mul_comm (mag (rung q)) k]
  unfold rnd at hp
  rw [sq, sk, mk, hnk] at hp
  have hmU : m * 2 ^ K ≤ 2000 * 2 ^ K := Nat.mul_le_mul_right _ hm
  obtain ⟨n1, n2⟩ := near_off 0 (k * mag (rung q))
  rw [Nat.pow_zero, Nat.mul_one] at n1 n2
  have hW : ∃ W, 2 ^ K = 1152921504606846976 * W ∧ 2 ^ (K - 20) = 1099511627776 * W ∧ 1152921504606846976 ≤ W := by
    refine ⟨2 ^ (K - 60), ?_, ?_, ?_⟩
    · rw [show (1152921504606846976 : Nat) = 2 ^ 60 by rfl, ← Nat.pow_add]
      congr 1
    · rw [show (1099511627776 : Nat) = 2 ^ 40 by rfl, ← Nat.pow_add]
      congr 1
    · rw [show (1152921504606846976 : Nat) = 2 ^ 60 by rfl]
      exact Nat.pow_le_pow_right (by omega) (by have := K_eq; omega)
  obtain ⟨W, hW1, hW2, hW3⟩ := hW
  have hgi : near 0 (k * mag (rung q)) < 9218868437227405312 := by
    rw [← mag_lt_iff]
    obtain ⟨t, ht⟩ : ∃ t : Nat, t = 2046 := ⟨_, rfl⟩
    rw [mag_inf t ht]
    have hKt : 2 ^ K * 2 ^ 20 ≤ 2 ^ (52 + t) := by
      rw [← Nat.pow_add]
      exact Nat.pow_le_pow_right (by omega) (by have := K_eq; omega)
    generalize 2 ^ (52 + t) = top at *
    generalize mag (near 0 (k * mag (rung q))) = P at *
    generalize k * mag (rung q) = kg at *
    generalize 2 ^ K = U at *
    generalize m * U = mU at *
    omega
  have fp : isFin (word false (near 0 (k * mag (rung q)))) = true := by
    rw [isFin_iff, rung_word _ _ (by omega)]
    exact hgi
  rw [Nat.min_eq_left (by omega)] at hp
  have hs := sub_fin _ _ fp fm
  refine ⟨q, _, _, hq, hp, hs, rnd_lt _ _ _, ?_⟩
  have vp : val (word false (near 0 (k * mag (rung q)))) = mag (near 0 (k * mag (rung q))) := by
    unfold val
    rw [sgn_word _ _ (by omega), rung_word _ _ (by omega)]
    rfl
  have vm : val (FloatKind.f64.nearest (m : Int)) = ((m * 2 ^ K : Nat) : Int) := by
    unfold val
    rw [sm, mm]
    rfl
  rw [vp, vm, rnd_rung]
  have hD : ((mag (near 0 (k * mag (rung q))) : Int) - ((m * 2 ^ K : Nat) : Int)).natAbs ≤ 2 ^ (K - 20) := by
    clear hs hp hq vp vm fp hgi
    rw [hW2]
    rw [hW1] at hmU d1 d2 ⊢
    generalize mag (near 0 (k * mag (rung q))) = P at *
    generalize k * mag (rung q) = kg at *
    generalize m * (1152921504606846976 * W) = mU at *
    omega
  have hle := near_mono 0 _ _ hD
  have ht := near_mag 0 4517110426252607488
  rw [mag_tiny, Nat.pow_zero, Nat.mul_one] at ht
  rw [ht] at hle
  generalize near 0 ((mag (near 0 (k * mag (rung q))) : Int) - ((m * 2 ^ K : Nat) : Int)).natAbs = g at *
  have hn1 : isNan 4517329193108106637 = false := by decide
  have hn2 : isNan (min g 9218868437227405312) = false := by
    rw [isNan_not, rung_small _ (by omega)]
    omega
  rw [flt_not _ _ hn1 hn2, val_small _ (by omega), val_small _ (by omega)]
  have := mag_le (min g 9218868437227405312) 4517329193108106637 (by omega)
  simp
  omega

theorem div_nought (x : Nat) (hx : isFin x = true) (h0 : mag (rung x) ≠ 0) : double.div x 0 = some (word (sgn x) 9218868437227405312) := by
  obtain ⟨m, e, rx, mx⟩ := read_fin x hx
  have hm : m ≠ 0 := by
    intro h
    rw [h, Nat.zero_mul] at mx
    exact h0 mx.symm
  have r0 : double.read 0 = .number false 0 (-1074) := by decide
  unfold Format.div
  rw [rx, r0]
  unfold Datum.quotient
  dsimp only
  rw [if_pos rfl, if_neg hm]
  cases sgn x <;> rfl

theorem near_nought : FloatKind.f64.nearest 0 = 0 := by decide

theorem nat_pos (n : Nat) (h0 : 0 < n) (h : n < 9007199254740992) : double.div (FloatKind.f64.nearest n) (FloatKind.f64.nearest 0) = some 9218868437227405312 := by
  obtain ⟨h1, h2, h3⟩ := ofInt_nat n h
  rw [near_nought, div_nought _ h1 (by rw [h3]; intro q; rcases Nat.mul_eq_zero.1 q with q | q <;> have := Nat.two_pow_pos K <;> omega), h2]
  rfl

theorem nat_neg (n : Nat) (h0 : 0 < n) (h : n < 9007199254740992) : double.div (FloatKind.f64.nearest (-(n : Int))) (FloatKind.f64.nearest 0) = some 18442240474082181120 := by
  have h1 := int_exact n h
  have e : FloatKind.f64.nearest (-(n : Int)) = word true (near 0 (n * 2 ^ K)) := by
    rw [ofInt_eq, Int.natAbs_neg, Int.natAbs_natCast]
    unfold rnd
    rw [Nat.min_eq_left (by omega), show decide (-(n : Int) < 0) = true by simp; omega]
  have f1 : isFin (word true (near 0 (n * 2 ^ K))) = true := by
    rw [isFin_iff, rung_word _ _ (by omega)]
    exact h1.2
  rw [e, near_nought, div_nought _ f1 (by rw [rung_word _ _ (by omega), h1.1]; intro q; rcases Nat.mul_eq_zero.1 q with q | q <;> have := Nat.two_pow_pos K <;> omega), sgn_word _ _ (by omega)]
  rfl

theorem div_none : double.div (FloatKind.f64.nearest 0) (FloatKind.f64.nearest 0) = none := by decide
end Dbl
end Go.Proofs.Ythpfkbdbioabaaa
