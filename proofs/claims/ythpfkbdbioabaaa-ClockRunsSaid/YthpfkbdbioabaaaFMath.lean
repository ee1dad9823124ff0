/- The doubles of the standard as plain numbers: what a word weighs, what rounding does. No program is named here. -/
import Ieee.Arith
set_option linter.unusedVariables false
set_option linter.unusedSimpArgs false
namespace Go.Proofs.Ythpfkbdbioabaaa
namespace Dbl

/-- A number over another one, to the nearest, of two the even one. -/
def rne (n g : Nat) : Nat := n / g + (if g < 2 * (n % g) ∨ (g = 2 * (n % g) ∧ n / g % 2 = 1) then 1 else 0)

theorem cut_even (neg : Bool) (n d : Nat) : Ieee.Toward.even.cut neg n d = rne n (2 ^ d) := by
  have h1 : Ieee.Toward.even.cut neg n d = rne n (1 <<< min d (n.log2 + 2)) := by
    unfold Ieee.Toward.cut rne
    dsimp only
    congr 1
    generalize 1 <<< min d (n.log2 + 2) = g
    by_cases h : g < 2 * (n % g) ∨ (g = 2 * (n % g) ∧ n / g % 2 = 1)
    · rw [if_pos h]
      rcases h with h | ⟨h, k⟩
      · simp [h]
      · simp [← h, k]
    · rw [if_neg h]
      have h2 : ¬ g < 2 * (n % g) := fun q => h (.inl q)
      have h3 : ¬ (g = 2 * (n % g) ∧ n / g % 2 = 1) := fun q => h (.inr q)
      simp [h2]
      intro a
      have := fun b => h3 ⟨a, b⟩
      omega
  rw [h1, Nat.shiftLeft_eq, Nat.one_mul]
  by_cases hd : d ≤ n.log2 + 2
  · rw [Nat.min_eq_left hd]
  · rw [Nat.min_eq_right (by omega)]
    have key : ∀ g, 2 * n < g → rne n g = 0 := by
      intro g hg
      unfold rne
      rw [Nat.div_eq_of_lt (by omega), Nat.mod_eq_of_lt (by omega), if_neg (by omega)]
    have hl : n < 2 ^ (n.log2 + 1) := Nat.lt_log2_self
    have e1 : 2 ^ (n.log2 + 2) = 2 * 2 ^ (n.log2 + 1) := by rw [Nat.pow_succ]; omega
    have e2 : 2 ^ (n.log2 + 2) ≤ 2 ^ d := Nat.pow_le_pow_right (by omega) (by omega)
    rw [key _ (by omega), key _ (by omega)]

theorem rne_mono (n n' g : Nat) (hg : 0 < g) (h : n ≤ n') : rne n g ≤ rne n' g := by
  unfold rne
  have h1 := Nat.div_le_div_right (c := g) h
  have e1 := Nat.div_add_mod n g
  have e2 := Nat.div_add_mod n' g
  rcases Nat.lt_or_ge (n / g) (n' / g) with hl | hl
  · split <;> split <;> omega
  · have he : n / g = n' / g := by omega
    rw [he] at e1 ⊢
    generalize n' / g = q at *
    generalize n % g = a at *
    generalize n' % g = b at *
    generalize g * q = gq at *
    split <;> split <;> omega

theorem rne_mul (q g : Nat) (hg : 0 < g) : rne (q * g) g = q := by
  unfold rne
  rw [Nat.mul_div_cancel _ hg, Nat.mul_mod_left, if_neg (by omega)]
  omega

theorem rne_scale (n g c : Nat) (hc : 0 < c) : rne (n * c) (g * c) = rne n g := by
  unfold rne
  rw [Nat.mul_div_mul_right _ _ hc, Nat.mul_mod_mul_right]
  congr 1
  have h1 : g * c < 2 * (n % g * c) ↔ g < 2 * (n % g) := by
    rw [← Nat.mul_assoc]; exact Nat.mul_lt_mul_right hc
  have h2 : g * c = 2 * (n % g * c) ↔ g = 2 * (n % g) := by
    rw [← Nat.mul_assoc]; exact Nat.mul_right_cancel_iff hc
  simp only [h1, h2]

/-- How far off it is: at most a half. -/
theorem rne_near (n g : Nat) (hg : 0 < g) : 2 * (rne n g * g) ≤ 2 * n + g ∧ 2 * n ≤ 2 * (rne n g * g) + g := by
  unfold rne
  have e1 := Nat.div_add_mod n g
  have e2 := Nat.mod_lt n hg
  rw [Nat.add_mul, Nat.mul_comm (n / g) g]
  generalize n % g = a at *
  generalize g * (n / g) = b at *
  split <;> omega

/-- What the magnitude with number r is, in units of the least one. -/
def mag (r : Nat) : Nat := if r < 4503599627370496 then r else (4503599627370496 + r % 4503599627370496) * 2 ^ (r / 4503599627370496 - 1)

theorem mag_kept (t k : Nat) (h : t = 0 ∨ 4503599627370496 ≤ k) (hk : k ≤ 9007199254740992) : mag (t * 4503599627370496 + k) = k * 2 ^ t := by
  unfold mag
  by_cases h1 : k < 4503599627370496
  · have : t = 0 := by omega
    subst this
    rw [if_pos (by omega)]
    omega
  · rw [if_neg (by omega)]
    by_cases h2 : k < 9007199254740992
    · rw [show (t * 4503599627370496 + k) % 4503599627370496 = k - 4503599627370496 by omega, show (t * 4503599627370496 + k) / 4503599627370496 - 1 = t by omega,
        show 4503599627370496 + (k - 4503599627370496) = k by omega]
    · obtain rfl : k = 9007199254740992 := by omega
      rw [show (t * 4503599627370496 + 9007199254740992) % 4503599627370496 = 0 by omega, show (t * 4503599627370496 + 9007199254740992) / 4503599627370496 - 1 = t + 1 by omega, Nat.pow_succ]
      omega

/-- Each magnitude's digits and place. -/
theorem mag_split (r : Nat) : ∃ t k, r = t * 4503599627370496 + k ∧ (t = 0 ∨ 4503599627370496 ≤ k) ∧ k < 9007199254740992 := by
  by_cases h : r < 4503599627370496
  · exact ⟨0, r, by omega, .inl rfl, by omega⟩
  · exact ⟨r / 4503599627370496 - 1, 4503599627370496 + r % 4503599627370496, by omega, .inr (by omega), by omega⟩

theorem mag_succ (r : Nat) : mag r < mag (r + 1) := by
  obtain ⟨t, k, rfl, h, hk⟩ := mag_split r
  rw [mag_kept t k h (by omega), Nat.add_assoc, mag_kept t (k + 1) (by omega) (by omega)]
  exact Nat.mul_lt_mul_of_pos_right (by omega) (Nat.two_pow_pos t)

theorem mag_lt (r s : Nat) (h : r < s) : mag r < mag s := by
  induction s with
  | zero => omega
  | succ s ih =>
    have h1 := mag_succ s
    rcases Nat.lt_or_ge r s with g | g
    · have := ih g; omega
    · have : r = s := by omega
      subst this
      exact h1

theorem mag_le (r s : Nat) (h : r ≤ s) : mag r ≤ mag s := by
  rcases Nat.lt_or_ge r s with g | g
  · exact Nat.le_of_lt (mag_lt _ _ g)
  · have : r = s := by omega
    subst this
    exact Nat.le_refl _

theorem mag_lt_iff (r s : Nat) : mag r < mag s ↔ r < s := by
  constructor
  · intro h
    rcases Nat.lt_or_ge r s with g | g
    · exact g
    · have := mag_le s r g; omega
  · exact mag_lt r s

theorem mag_inj (r s : Nat) (h : mag r = mag s) : r = s := by
  have h1 := mag_lt_iff r s
  have h2 := mag_lt_iff s r
  omega

/-- The magnitude nearest to V units of which 2 ^ c are a least one. -/
def near (c V : Nat) : Nat := (V.log2 - (52 + c)) * 4503599627370496 + rne V (2 ^ (V.log2 - (52 + c) + c))

theorem near_kept (c V : Nat) : (V.log2 - (52 + c) = 0 ∨ 4503599627370496 ≤ rne V (2 ^ (V.log2 - (52 + c) + c))) ∧ rne V (2 ^ (V.log2 - (52 + c) + c)) ≤ 9007199254740992 := by
  have hg : 0 < 2 ^ (V.log2 - (52 + c) + c) := Nat.two_pow_pos _
  constructor
  · by_cases h : V.log2 - (52 + c) = 0
    · exact .inl h
    · refine .inr ?_
      have hV : V ≠ 0 := by intro q; subst q; simp at h
      have hl := Nat.log2_self_le hV
      have e : 2 ^ V.log2 = 4503599627370496 * 2 ^ (V.log2 - (52 + c) + c) := by
        rw [show (4503599627370496 : Nat) = 2 ^ 52 by rfl, ← Nat.pow_add]
        congr 1
        omega
      rw [e] at hl
      have := rne_mono _ _ _ hg hl
      rwa [rne_mul _ _ hg] at this
  · have hl : V < 2 ^ (V.log2 + 1) := Nat.lt_log2_self
    have e : 2 ^ (V.log2 + 1) ≤ 9007199254740992 * 2 ^ (V.log2 - (52 + c) + c) := by
      rw [show (9007199254740992 : Nat) = 2 ^ 53 by rfl, ← Nat.pow_add]
      exact Nat.pow_le_pow_right (by omega) (by omega)
    have := rne_mono _ _ _ hg (Nat.le_of_lt (Nat.lt_of_lt_of_le hl e))
    rwa [rne_mul _ _ hg] at this

theorem mag_near (c V : Nat) : mag (near c V) = rne V (2 ^ (V.log2 - (52 + c) + c)) * 2 ^ (V.log2 - (52 + c)) := by
  unfold near
  exact mag_kept _ _ (near_kept c V).1 (near_kept c V).2

theorem near_zero (c : Nat) : near c 0 = 0 := by
  unfold near rne
  simp

theorem near_mono (c V W : Nat) (h : V ≤ W) : near c V ≤ near c W := by
  by_cases hV : V = 0
  · subst hV; rw [near_zero]; exact Nat.zero_le _
  have hl : V.log2 ≤ W.log2 := by
    rw [Nat.le_log2 (by omega)]
    exact Nat.le_trans (Nat.log2_self_le hV) h
  have k1 := near_kept c V
  have k2 := near_kept c W
  unfold near
  rcases Nat.lt_or_ge (V.log2 - (52 + c)) (W.log2 - (52 + c)) with g | g
  · generalize rne V (2 ^ (V.log2 - (52 + c) + c)) = x at *
    generalize rne W (2 ^ (W.log2 - (52 + c) + c)) = y at *
    omega
  · have e : V.log2 - (52 + c) = W.log2 - (52 + c) := by omega
    rw [e]
    have := rne_mono V W (2 ^ (W.log2 - (52 + c) + c)) (Nat.two_pow_pos _) h
    omega

theorem log2_mul (k j : Nat) (hk : k ≠ 0) : (k * 2 ^ j).log2 = k.log2 + j := by
  have hp : 0 < 2 ^ j := Nat.two_pow_pos j
  rw [Nat.log2_eq_iff (by
    intro h
    rcases Nat.mul_eq_zero.1 h with h | h <;> omega)]
  have h1 := Nat.log2_self_le hk
  have h2 : k < 2 ^ (k.log2 + 1) := Nat.lt_log2_self
  constructor
  · rw [Nat.pow_add]
    exact Nat.mul_le_mul_right _ h1
  · rw [show k.log2 + j + 1 = (k.log2 + 1) + j by omega, Nat.pow_add]
    exact Nat.mul_lt_mul_of_pos_right h2 hp

/-- What a magnitude is stays as it is. -/
theorem near_mag (c r : Nat) : near c (mag r * 2 ^ c) = r := by
  obtain ⟨t, k, rfl, h, hk⟩ := mag_split r
  rw [mag_kept t k h (by omega)]
  by_cases h0 : k = 0
  · subst h0
    have : t = 0 := by omega
    subst this
    simp [near_zero]
  rw [Nat.mul_assoc, ← Nat.pow_add]
  unfold near
  rw [log2_mul k _ h0]
  have hlog : k.log2 ≤ 52 := by
    have := (Nat.log2_lt h0 (k := 53)).2 (by omega)
    omega
  have ht : k.log2 + (t + c) - (52 + c) = t := by
    rcases h with rfl | h
    · omega
    · have : 52 ≤ k.log2 := by rw [Nat.le_log2 h0]; omega
      omega
  rw [ht, rne_mul _ _ (Nat.two_pow_pos _)]

/-- A finer unit is as good. -/
theorem near_scale (c d V : Nat) : near (c + d) (V * 2 ^ d) = near c V := by
  by_cases h0 : V = 0
  · subst h0; simp [near_zero]
  unfold near
  rw [log2_mul V d h0, show V.log2 + d - (52 + (c + d)) = V.log2 - (52 + c) by omega, ← Nat.add_assoc, Nat.pow_add 2 _ d, rne_scale _ _ _ (Nat.two_pow_pos d)]

/-- How far off the nearest is. -/
theorem near_off (c V : Nat) : 2 * (mag (near c V) * 2 ^ c) ≤ 2 * V + max (2 ^ c) (V / 4503599627370496) ∧ 2 * V ≤ 2 * (mag (near c V) * 2 ^ c) + max (2 ^ c) (V / 4503599627370496) := by
  rw [mag_near, Nat.mul_assoc, ← Nat.pow_add]
  have h := rne_near V (2 ^ (V.log2 - (52 + c) + c)) (Nat.two_pow_pos _)
  have hm : 2 ^ (V.log2 - (52 + c) + c) ≤ max (2 ^ c) (V / 4503599627370496) := by
    by_cases h0 : V.log2 - (52 + c) = 0
    · rw [h0, Nat.zero_add]; omega
    · have hV : V ≠ 0 := by intro q; subst q; simp at h0
      have hl := Nat.log2_self_le hV
      have e : 2 ^ V.log2 = 2 ^ (V.log2 - (52 + c) + c) * 4503599627370496 := by
        rw [show (4503599627370496 : Nat) = 2 ^ 52 by rfl, ← Nat.pow_add]
        congr 1
        omega
      rw [e] at hl
      have : 2 ^ (V.log2 - (52 + c) + c) ≤ V / 4503599627370496 := (Nat.le_div_iff_mul_le (by omega)).2 hl
      omega
  generalize rne V (2 ^ (V.log2 - (52 + c) + c)) * 2 ^ (V.log2 - (52 + c) + c) = x at *
  omega

end Dbl
end Go.Proofs.Ythpfkbdbioabaaa
