/- Contracts of the document's answers for layer 1: numbers, and what is put. -/
import Derived.Test.YtgpiaibklokhmaaRefA
set_option linter.unusedVariables false
set_option linter.unusedSimpArgs false
namespace Go.Proofs.Ytgpiaibklokhmaa
open Go.RowKit
namespace Ref1

theorem val_cons_lt (x : UInt8) (l : List UInt8) (h : x.toNat < 64) : val (x :: l) < 64 * 256 ^ l.length := by
  have h1 := val_go l x.toNat
  have h2 : (x.toNat + 1) * 256 ^ l.length ≤ 64 * 256 ^ l.length := Nat.mul_le_mul_right _ (by omega)
  have e : val (x :: l) = l.foldl (fun a x => a * 256 + x.toNat) x.toNat := by simp [val]
  rw [e]
  exact Nat.lt_of_lt_of_le h1 h2

theorem val_cons_ge (l : List UInt8) (a : Nat) : a * 256 ^ l.length ≤ l.foldl (fun a x => a * 256 + x.toNat) a := by
  induction l generalizing a with
  | nil => simp
  | cons x l ih =>
    have h1 := ih (a * 256 + x.toNat)
    have h2 : a * 256 * 256 ^ l.length ≤ (a * 256 + x.toNat) * 256 ^ l.length := Nat.mul_le_mul_right _ (by omega)
    rw [List.foldl_cons, List.length_cons, Nat.pow_succ, Nat.mul_comm (256 ^ l.length) 256, ← Nat.mul_assoc]
    exact Nat.le_trans h2 h1

/-- The first of eight bytes tells whether the number is below 2^62. -/
theorem first_small (bs : List UInt8) (k : Nat) (h : k + 8 ≤ bs.length) : val (sub bs k 8) < 2 ^ 62 ↔ (bs.getD k 0).toNat < 64 := by
  have hl := sub_length bs k 8 h
  have h0 := sub_getD bs k 8 0 (by omega)
  match hs : sub bs k 8, hl with
  | x :: l, hl =>
    rw [hs] at h0
    simp only [List.getD_cons_zero, Nat.add_zero] at h0
    simp only [List.length_cons] at hl
    have hl' : l.length = 7 := by omega
    rw [← h0]
    constructor
    · intro hv
      have := val_cons_ge l x.toNat
      rw [hl'] at this
      have e : val (x :: l) = l.foldl (fun a x => a * 256 + x.toNat) x.toNat := by simp [val]
      rw [e] at hv
      omega
    · intro hx
      have := val_cons_lt x l hx
      rw [hl'] at this
      omega

theorem part_small (bs : List UInt8) (k j : Nat) (h : k + 8 ≤ bs.length) (hj : j < 8) (hx : (bs.getD k 0).toNat < 64) : val (sub bs k j) < 18014398509481984 := by
  match j, hj with
  | 0, _ => simp [sub, val]
  | j + 1, hj =>
    have hl := sub_length bs k (j + 1) (by omega)
    have h0 := sub_getD bs k (j + 1) 0 (by omega)
    match hs : sub bs k (j + 1), hl with
    | x :: l, hl =>
      rw [hs] at h0
      simp only [List.getD_cons_zero, Nat.add_zero] at h0
      simp only [List.length_cons] at hl
      have := val_cons_lt x l (by rw [h0]; exact hx)
      have h2 : 64 * 256 ^ l.length ≤ 64 * 256 ^ 6 := Nat.mul_le_mul_left _ (Nat.pow_le_pow_right (by omega) (by omega))
      omega












end Ref1
end Go.Proofs.Ytgpiaibklokhmaa
