/- Pure: who leads in turn, and which of them were seen, as bits of a number. No program is named here. -/
import Derived.Test.YtdocoflcelhmbaaVewD
set_option linter.unusedVariables false
set_option maxRecDepth 8000
set_option linter.unusedSimpArgs false
namespace Go.Proofs.Ytdocoflcelhmbaa
open Go.RowKit
namespace Vw

/-- Those that lead i views from one on that r leads, as bits. -/
def maskF (k r : Nat) : Nat → Nat
  | 0 => 0
  | i + 1 => maskF k r i ||| (1 <<< ((r + i) % k))

theorem mask_free' : ∀ k : Fin 8, ∀ r : Fin 8, ∀ i : Fin 8, i.val < k.val → (bits .and .i64 ((maskF k.val r.val i.val : Int) / 2 ^ ((r.val + i.val) % k.val)) 1 == 1) = false := by decide +kernel
theorem mask_next' : ∀ k : Fin 8, ∀ r : Fin 8, ∀ i : Fin 8, i.val < k.val → bits .or .i64 (maskF k.val r.val i.val : Int) (2 ^ ((r.val + i.val) % k.val)) = (maskF k.val r.val (i.val + 1) : Int) := by decide +kernel
theorem mask_small' : ∀ k : Fin 8, ∀ r : Fin 8, ∀ i : Fin 9, i.val ≤ k.val → maskF k.val r.val i.val < 128 := by decide +kernel

theorem mask_free {k r i : Nat} (hk : k < 8) (hr : r < 8) (hi : i < k) : (bits .and .i64 ((maskF k r i : Int) / 2 ^ ((r + i) % k)) 1 == 1) = false := mask_free' ⟨k, hk⟩ ⟨r, hr⟩ ⟨i, by omega⟩ hi
theorem mask_next {k r i : Nat} (hk : k < 8) (hr : r < 8) (hi : i < k) : bits .or .i64 (maskF k r i : Int) (2 ^ ((r + i) % k)) = (maskF k r (i + 1) : Int) := mask_next' ⟨k, hk⟩ ⟨r, hr⟩ ⟨i, by omega⟩ hi
theorem mask_small {k r i : Nat} (hk : k < 8) (hr : r < 8) (hi : i ≤ k) : maskF k r i < 128 := mask_small' ⟨k, hk⟩ ⟨r, hr⟩ ⟨i, by omega⟩ hi

theorem wrap_pow' : ∀ h : Fin 8, wrap64 (2 ^ h.val) = 2 ^ h.val := by decide +kernel
theorem wrap_pow {h : Nat} (hh : h < 8) : wrap64 (2 ^ h) = 2 ^ h := wrap_pow' ⟨h, hh⟩

theorem lead_turn (v k r i : Nat) (hv : v < 4294967296) (hk1 : 1 ≤ k) (hk : k < 8) (hr : v % k = r) (hi : i ≤ k) : leaderF ((v : Int) + (i : Int)) (k : Int) = (((r + i) % k : Nat) : Int) := by
  rw [leaderF_in (hiF_iff.2 (by omega)) (someF_iff.2 (by omega)), ← hr]
  rw [show (v : Int) + (i : Int) = ((v + i : Nat) : Int) by omega, ← Int.natCast_emod]
  congr 1
  rw [Nat.mod_add_mod]

theorem led_turn (v k r i : Nat) (hv : v < 4294967296) (hk1 : 1 ≤ k) (hk : k < 8) (hr : v % k = r) (hi : i < k) : ledF (v : Int) (k : Int) (((r + i) % k : Nat) : Int) = (v : Int) + (i : Int) := by
  have hlt : (r + i) % k < k := Nat.mod_lt _ (by omega)
  have hrk : r < k := by rw [← hr]; exact Nat.mod_lt _ (by omega)
  rw [ledF_in (by rw [hiF_iff.2 (by omega), someF_iff.2 (by omega)]; generalize (r + i) % k = d at *; simp [withinF]; omega)]
  have hr' : (v : Int) % (k : Int) = (r : Int) := by rw [← hr]; omega
  rw [hr']
  have : (r + i) % k = r + i ∨ ((r + i) % k = r + i - k ∧ k ≤ r + i) := by
    rcases Nat.lt_or_ge (r + i) k with h | h
    · exact .inl (Nat.mod_eq_of_lt h)
    · exact .inr ⟨by rw [Nat.mod_eq_sub_mod h, Nat.mod_eq_of_lt (by omega)], h⟩
  rcases this with h | ⟨h, h'⟩
  · rw [h, show ((r + i : Nat) : Int) - (r : Int) + (k : Int) = (i : Int) + (k : Int) by omega, Int.add_emod_right, Int.emod_eq_of_lt (by omega) (by omega)]
  · rw [h, show ((r + i - k : Nat) : Int) - (r : Int) + (k : Int) = (i : Int) by omega, Int.emod_eq_of_lt (by omega) (by omega)]
end Vw
end Go.Proofs.Ytdocoflcelhmbaa
