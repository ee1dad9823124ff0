/- Contracts: slices.IndexFunc, slices.ContainsFunc over sessions, whatever the test. -/
import Derived.Test.YtgpiaibklokhmaaSesG
import Derived.Shelf.Abstract
set_option linter.unusedVariables false
set_option linter.unusedSimpArgs false
namespace Go.Proofs.Ytgpiaibklokhmaa
open Go.RowKit Go.Shelf
namespace Cm

/-- The place of the first that meets the test, or -1. -/
def idxI {α : Type} (p : α → Bool) (l : List α) : Int := if l.findIdx p < l.length then (l.findIdx p : Int) else -1

theorem idxI_hit {α : Type} (p : α → Bool) (l : List α) (k : Nat) (h : k < l.length) (hp : p l[k] = true) (hb : ∀ j (hj : j < k), p (l[j]'(by omega)) = false) : idxI p l = k := by
  have e : l.findIdx p = k := (List.findIdx_eq h).2 ⟨hp, hb⟩
  unfold idxI
  rw [e, if_pos h]

theorem idxI_miss {α : Type} (p : α → Bool) (l : List α) (hb : ∀ j (hj : j < l.length), p l[j] = false) : idxI p l = -1 := by
  have : ¬ l.findIdx p < l.length := fun q => by
    have h1 := List.findIdx_getElem (w := q)
    rw [hb _ q] at h1
    cases h1
  unfold idxI
  rw [if_neg this]

theorem idxI_ge {α : Type} (p : α → Bool) (l : List α) : -1 ≤ idxI p l := by unfold idxI; split <;> omega
theorem idxI_lt {α : Type} (p : α → Bool) (l : List α) : idxI p l < l.length := by unfold idxI; split <;> omega

theorem idxI_any {α : Type} (p : α → Bool) (l : List α) : decide (0 ≤ idxI p l) = l.any p := by
  unfold idxI
  by_cases h : l.findIdx p < l.length
  · rw [if_pos h, decide_eq_true (by omega), Eq.comm, List.any_eq_true]
    exact ⟨l[l.findIdx p], List.getElem_mem _, List.findIdx_getElem (w := h)⟩
  · rw [if_neg h, decide_eq_false (by omega), Eq.comm, List.any_eq_false]
    intro x hx q
    exact h (List.findIdx_lt_length_of_exists ⟨x, hx, q⟩)

/-- A number told, new blocks laid. -/
def SaysI (r : Int) (w : World) (e : Ending) (w' : World) : Prop := e = .returned (.int .i64 r) ∧ Below w.heap.size w w'



end Cm
end Go.Proofs.Ytgpiaibklokhmaa
