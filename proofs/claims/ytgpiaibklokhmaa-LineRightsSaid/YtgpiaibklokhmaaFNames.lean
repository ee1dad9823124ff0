/- Names: which bytes they are made of; one of them turned, one more. No program is named here. -/
import Derived.Test.YtgpiaibklokhmaaFCmd
set_option linter.unusedVariables false
set_option linter.unusedSimpArgs false
namespace Go.Proofs.Ytgpiaibklokhmaa
open Go.RowKit
namespace Cm

/-- The bytes of "abcdefghijklmnopqrstuvwxyz0123456789-". -/
def alpha : List UInt8 := [97, 98, 99, 100, 101, 102, 103, 104, 105, 106, 107, 108, 109, 110, 111, 112, 113, 114, 115, 116, 117, 118, 119, 120, 121, 122, 48, 49, 50, 51, 52, 53, 54, 55, 56, 57, 45]

theorem alpha_length : alpha.length = 37 := rfl
theorem alpha_all : ∀ c ∈ alpha, nameB c = true := by decide

theorem alpha_get (i : Nat) (h : i < 37) : nameB (alpha.getD i 0) = true := by
  refine alpha_all _ ?_
  have : alpha.getD i 0 = alpha[i]'(by rw [alpha_length]; exact h) := by simp [List.getD, List.getElem?_eq_getElem (show i < alpha.length by rw [alpha_length]; exact h)]
  rw [this]
  exact List.getElem_mem _

theorem mem_all : (List.range 256).all (fun n => nameB (UInt8.ofNat n) == decide (UInt8.ofNat n ∈ alpha)) = true := by decide +kernel

/-- A byte may stand in a name just if it is one of these. -/
theorem nameB_mem (c : UInt8) : nameB c = decide (c ∈ alpha) := by
  have h := List.all_eq_true.1 mem_all c.toNat (List.mem_range.2 (UInt8.toNat_lt c))
  rw [UInt8.ofNat_toNat] at h
  exact eq_of_beq h

theorem name_all (s : List UInt8) (h1 : 1 ≤ s.length) (h2 : s.length ≤ 12) (ha : ∀ c ∈ s, nameB c = true) : nameF s = true := by
  unfold nameF
  rw [decide_eq_true h1, decide_eq_true h2, List.all_eq_true.2 ha]
  rfl

/-- One byte turned. -/
theorem name_turned (s : List UInt8) (k : Nat) (by_ : UInt8) (hk : k < s.length) (h2 : s.length ≤ 12) (ha : ∀ c ∈ s, nameB c = true) : nameF (s.take k ++ [by_] ++ s.drop (k + 1)) = nameB by_ := by
  have hl : (s.take k ++ [by_] ++ s.drop (k + 1)).length = s.length := by simp; omega
  unfold nameF
  rw [hl, decide_eq_true (show 1 ≤ s.length by omega), decide_eq_true h2, List.all_append, List.all_append]
  have t1 : (s.take k).all nameB = true := List.all_eq_true.2 fun c hc => ha c (List.mem_of_mem_take hc)
  have t2 : (s.drop (k + 1)).all nameB = true := List.all_eq_true.2 fun c hc => ha c (List.mem_of_mem_drop hc)
  rw [t1, t2]
  simp

/-- One more. -/
theorem name_more (s : List UInt8) (h1 : 1 ≤ s.length) (h2 : s.length ≤ 12) (ha : ∀ c ∈ s, nameB c = true) : nameF (s ++ [120]) = decide (s.length < 12) := by
  unfold nameF
  have hx : (s ++ [120]).all nameB = true := List.all_eq_true.2 fun c hc => by
    rcases List.mem_append.1 hc with q | q
    · exact ha c q
    · rw [List.mem_singleton.1 q]; decide
  have hl : (s ++ [120]).length = s.length + 1 := by simp
  rw [hx, hl, Bool.and_true, decide_eq_true (Nat.le_add_left 1 s.length), Bool.true_and]
  exact decide_eq_decide.2 (by omega)

/-- No name: nothing; noughts. -/
theorem name_none (n : Nat) : nameF (List.replicate n 0) = false := by
  rcases Nat.eq_zero_or_pos n with q | q
  · subst q; rfl
  · unfold nameF
    have : (List.replicate n (0 : UInt8)).all nameB = false := by
      rw [List.all_eq_false]
      exact ⟨0, by simp; omega, by decide⟩
    rw [this, Bool.and_false]

/-- The first k letters that were taken tell whether a byte is one of them. -/
def isOne (by_ : UInt8) (k : Nat) : Bool := (alpha.take k).any fun c => c == by_
theorem isOne_zero (by_ : UInt8) : isOne by_ 0 = false := rfl
theorem isOne_succ (by_ : UInt8) (k : Nat) (h : k < 37) : isOne by_ (k + 1) = (isOne by_ k || (alpha.getD k 0 == by_)) := by
  unfold isOne
  have hk : k < alpha.length := h
  rw [List.take_succ_eq_append_getElem hk, List.any_append]
  simp [List.getD, List.getElem?_eq_getElem hk]
theorem isOne_all (by_ : UInt8) : isOne by_ 37 = nameB by_ := by
  rw [nameB_mem]
  unfold isOne
  have : alpha.take 37 = alpha := List.take_of_length_le (Nat.le_of_eq alpha_length)
  rw [this]
  by_cases h : by_ ∈ alpha
  · rw [decide_eq_true h]
    exact List.any_eq_true.2 ⟨by_, h, by simp⟩
  · rw [decide_eq_false h]
    rw [List.any_eq_false]
    intro c hc
    simp
    intro e
    exact h (e ▸ hc)
end Cm
end Go.Proofs.Ytgpiaibklokhmaa
