/- Contracts of package cmd, and of the document's answers for it: letters, numbers, names, commands that may be. -/
import Derived.Test.YtgpiaibklokhmaaFReq
import Derived.Test.YtgpiaibklokhmaaFNames
set_option linter.unusedVariables false
set_option linter.unusedSimpArgs false
namespace Go.Proofs.Ytgpiaibklokhmaa
open Go.RowKit
namespace Cm

/-- A truth told, nothing turned. -/
def Says (r : Bool) (w : World) (e : Ending) (w' : World) : Prop := e = .returned (.bool r) ∧ w = w'

/-- A truth told, nothing that was there has turned. -/
def SaysB (r : Bool) (w : World) (e : Ending) (w' : World) : Prop := e = .returned (.bool r) ∧ Below w.heap.size w w'

theorem Says.b {r : Bool} {w : World} {e : Ending} {w' : World} (h : Says r w e w') : SaysB r w e w' := by
  obtain ⟨h1, rfl⟩ := h
  exact ⟨h1, Below.refl _ _⟩




/-- All of the first k letters may stand in a name. -/
theorem all_take_succ (s : List UInt8) (k : Nat) (h : k < s.length) : (s.take (k + 1)).all nameB = ((s.take k).all nameB && nameB (s.getD k 0)) := by
  rw [List.take_succ_eq_append_getElem h, List.all_append]
  simp [List.getD, List.getElem?_eq_getElem h]

theorem all_false_of (s : List UInt8) (k : Nat) (h : k < s.length) (hb : nameB (s.getD k 0) = false) : s.all nameB = false := by
  rw [List.all_eq_false]
  have e : s.getD k 0 = s[k] := by simp [List.getD, List.getElem?_eq_getElem h]
  exact ⟨s[k], List.getElem_mem h, by rw [← e, hb]; simp⟩

theorem bstr_get (s : List UInt8) (k : Nat) (h : k < s.length) (h' : k < (bstr s).size) : (bstr s)[k]'h' = s.getD k 0 := by
  simp only [List.getD, List.getElem?_eq_getElem h, Option.getD_some]
  rfl


/-- Where a letter lies, and whether it may stand in a name. -/
theorem letter (c : UInt8) : (decide (97 ≤ (c.toNat : Int)) = true ∧ decide ((c.toNat : Int) ≤ 122) = true ∧ nameB c = true) ∨
    (decide (97 ≤ (c.toNat : Int)) = false ∧ decide (48 ≤ (c.toNat : Int)) = true ∧ decide ((c.toNat : Int) ≤ 57) = true ∧ nameB c = true) ∨
    (decide (97 ≤ (c.toNat : Int)) = false ∧ decide (48 ≤ (c.toNat : Int)) = false ∧ ((c.toNat : Int) == 45) = true ∧ nameB c = true) ∨
    (decide (97 ≤ (c.toNat : Int)) = false ∧ decide (48 ≤ (c.toNat : Int)) = false ∧ ((c.toNat : Int) == 45) = false ∧ nameB c = false) ∨
    (decide (97 ≤ (c.toNat : Int)) = false ∧ decide (48 ≤ (c.toNat : Int)) = true ∧ decide ((c.toNat : Int) ≤ 57) = false ∧ ((c.toNat : Int) == 45) = false ∧ nameB c = false) ∨
    (decide (97 ≤ (c.toNat : Int)) = true ∧ decide ((c.toNat : Int) ≤ 122) = false ∧ decide (48 ≤ (c.toNat : Int)) = true ∧ decide ((c.toNat : Int) ≤ 57) = false ∧ ((c.toNat : Int) == 45) = false ∧ nameB c = false) := by
  have hc := UInt8.toNat_lt c
  unfold nameB
  generalize c.toNat = n at hc ⊢
  simp only [decide_eq_true_eq, decide_eq_false_iff_not, beq_iff_eq, beq_eq_false_iff_ne, Bool.or_eq_true, Bool.and_eq_true, Bool.or_eq_false_iff, Bool.and_eq_false_imp]
  omega


end Cm
end Go.Proofs.Ytgpiaibklokhmaa
