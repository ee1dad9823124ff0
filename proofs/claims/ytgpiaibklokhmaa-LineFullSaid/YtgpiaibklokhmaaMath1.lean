/- Plain facts on bytes of numbers. -/
import Derived.Test.YtgpiaibklokhmaaLawA
set_option linter.unusedVariables false
set_option linter.unusedSimpArgs false
namespace Go.Proofs.Ytgpiaibklokhmaa
open Go.RowKit

/-- The number that bytes are, by the first one. -/
def valr : List UInt8 → Nat
  | [] => 0
  | x :: l => x.toNat * 256 ^ l.length + valr l

theorem valr_lt (l : List UInt8) : valr l < 256 ^ l.length := by
  induction l with
  | nil => simp [valr]
  | cons x l ih =>
    have hx := UInt8.toNat_lt x
    have h2 : (x.toNat + 1) * 256 ^ l.length ≤ 256 * 256 ^ l.length := Nat.mul_le_mul_right _ (by omega)
    rw [valr, List.length_cons, Nat.pow_succ, Nat.mul_comm (256 ^ l.length) 256]
    rw [Nat.add_mul] at h2
    omega

theorem val_valr (l : List UInt8) (a : Nat) : l.foldl (fun a x => a * 256 + x.toNat) a = a * 256 ^ l.length + valr l := by
  induction l generalizing a with
  | nil => simp [valr]
  | cons x l ih =>
    rw [List.foldl_cons, ih, valr, List.length_cons, Nat.pow_succ, Nat.add_mul, Nat.mul_comm (256 ^ l.length) 256, Nat.mul_assoc, Nat.add_assoc]

theorem val_eq (l : List UInt8) : val l = valr l := by
  have := val_valr l 0
  simpa [val] using this

theorem less_val (a b : List UInt8) (h : a.length = b.length) : Op.bytesLess a b = decide (valr a < valr b) := by
  induction a generalizing b with
  | nil =>
    have : b = [] := List.length_eq_zero_iff.1 h.symm
    subst this
    simp [Op.bytesLess, valr]
  | cons x a ih =>
    match b, h with
    | y :: b, h =>
      have hl : a.length = b.length := by simpa using h
      have ha := valr_lt a
      have hb := valr_lt b
      rw [Op.bytesLess, ih b hl, valr, valr, hl]
      rw [hl] at ha
      generalize valr a = p at ha ⊢
      generalize valr b = q at hb ⊢
      generalize 256 ^ b.length = m at ha hb ⊢
      by_cases h1 : x < y
      · have h1' : x.toNat < y.toNat := UInt8.lt_iff_toNat_lt.1 h1
        have : (x.toNat + 1) * m ≤ y.toNat * m := Nat.mul_le_mul_right _ h1'
        rw [Nat.add_mul] at this
        simp [h1]
        omega
      · by_cases h2 : x = y
        · subst h2
          simp [h1]
        · have h1' : ¬ x.toNat < y.toNat := fun q => h1 (UInt8.lt_iff_toNat_lt.2 q)
          have h2' : x.toNat ≠ y.toNat := fun q => h2 (UInt8.toNat_inj.1 q)
          have : (y.toNat + 1) * m ≤ x.toNat * m := Nat.mul_le_mul_right _ (by omega)
          rw [Nat.add_mul] at this
          have hno : ¬ (x.toNat * m + p < y.toNat * m + q) := by omega
          simp [h1, h2, hno]

theorem val_be8 (n : Nat) (h : n < 2 ^ 64) : val (be8 n) = n := by
  have t := fun i => toNat_byte (beByte n i) (beByte_lt n i)
  simp only [val, be8, List.foldl_cons, List.foldl_nil, t]
  simp only [beByte]
  omega

theorem be8_inj (n m : Nat) (hn : n < 2 ^ 64) (hm : m < 2 ^ 64) : (be8 n == be8 m) = decide (n = m) := by
  by_cases h : n = m
  · subst h; simp
  · have : be8 n ≠ be8 m := fun q => h (by rw [← val_be8 n hn, ← val_be8 m hm, q])
    simp [h, this]

theorem be8_less (n m : Nat) (hn : n < 2 ^ 64) (hm : m < 2 ^ 64) : Op.bytesLess (be8 n) (be8 m) = decide (n < m) := by
  rw [less_val (be8 n) (be8 m) rfl, ← val_eq, ← val_eq, val_be8 n hn, val_be8 m hm]

theorem rd8 (w : World) (n : Nat) : Rd (w.alloc (.cells (beArr n 8) 5)) (.slice (some ⟨w.heap.size, 0, none⟩) 8 8) (be8 n) :=
  rd_lit w _ (be8 n) (beArr_cells n) (by rw [be8_length]; unfold maxLen; omega)

theorem rd_zero (K : Nat) (w2 w3 : World) (h : w3.ownsRow w2.heap.size 5 1 (.slice (some ⟨w2.heap.size, 0, none⟩) K K) K (madeCells (Value.int .u8 0).cells (K * 1)).toList) :
    Rd w3 (.slice (some ⟨w2.heap.size, 0, none⟩) K K) (List.replicate K 0) := by
  have e : (madeCells (Value.int .u8 0).cells (K * 1)).toList = cellsOf (List.replicate K 0) := by
    rw [show (Value.int .u8 0).cells = #[.int .u8 0] from rfl, toList_madeCells_one, Nat.mul_one]
    simp [cellsOf]
  rw [e] at h
  have hl : (List.replicate K (0 : UInt8)).length = K := List.length_replicate
  refine Rd.own (base := w2.heap.size) (e := 5) ?_
  rw [hl]; exact h

theorem rdL3 (w : World) (C : Nat) (h : C < 256) : Rd (w.alloc (.cells #[.int .u8 (C : Int), .int .u8 1, .int .u8 2] 5)) (.slice (some ⟨w.heap.size, 0, none⟩) 3 3) [UInt8.ofNat C, 1, 2] :=
  rd_lit w _ [UInt8.ofNat C, 1, 2] (by simp [cellsOf]; omega) (by simp [maxLen])

theorem rdL8 (w : World) (C : Nat) (h : C < 256) : Rd (w.alloc (.cells #[.int .u8 (C : Int), .int .u8 0, .int .u8 0, .int .u8 0, .int .u8 0, .int .u8 0, .int .u8 0, .int .u8 0] 5)) (.slice (some ⟨w.heap.size, 0, none⟩) 8 8) [UInt8.ofNat C, 0, 0, 0, 0, 0, 0, 0] :=
  rd_lit w _ [UInt8.ofNat C, 0, 0, 0, 0, 0, 0, 0] (by simp [cellsOf]; omega) (by simp [maxLen])
end Go.Proofs.Ytgpiaibklokhmaa
