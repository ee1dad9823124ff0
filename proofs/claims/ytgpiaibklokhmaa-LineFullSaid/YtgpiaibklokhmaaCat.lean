/- Contracts: slices.Grow and slices.Concat over bytes. -/
import Derived.Test.YtgpiaibklokhmaaMath2
import Derived.Lib.AppendZeros
set_option linter.unusedVariables false
set_option linter.unusedSimpArgs false
namespace Go.Proofs.Ytgpiaibklokhmaa
open Go.RowKit

theorem owns_new (w : World) (cs : Array Value) (cap : Nat) (hc : cs.size = cap) (hm : cap ≤ maxLen) :
    (w.alloc (.cells cs 5)).drew.ownsRow w.heap.size 5 1 (.slice (some ⟨w.heap.size, 0, none⟩) 0 cap) 0 [] := by
  refine ⟨rfl, .inr ⟨w.heap.size, cap, cs, rfl, Nat.le_refl _, ?_, Nat.zero_le _, hm, by omega, by simp⟩⟩
  show (w.heap.push (.cells cs 5))[w.heap.size]? = _
  simp


/-- Bytes of bytes, one behind the other. -/
def flat (l : List (Value × List UInt8)) : List UInt8 := l.flatMap (·.2)
theorem flat_take_succ (l : List (Value × List UInt8)) (j : Nat) (h : j < l.length) : flat (l.take (j + 1)) = flat (l.take j) ++ (l[j]).2 := by
  unfold flat
  rw [List.take_succ_eq_append_getElem h, List.flatMap_append]
  simp
theorem flat_take_le (l : List (Value × List UInt8)) (j : Nat) : (flat (l.take j)).length ≤ (flat l).length := by
  conv => rhs; rw [← List.take_append_drop j l]
  unfold flat
  rw [List.flatMap_append, List.length_append]
  omega

/-- Bytes told, in new memory of the call's own. -/
def MadeOne (bs : List UInt8) (w : World) (e : Ending) (w' : World) : Prop :=
  ∃ v, e = .returned v ∧ w'.ownsRow w.heap.size 5 1 v bs.length (cellsOf bs) ∧ Below w.heap.size w w'



end Go.Proofs.Ytgpiaibklokhmaa
