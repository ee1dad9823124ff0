/- Contracts: padlockref6's OpenSession. -/
import Derived.Test.YtgpiaibklokhmaaSesC
set_option linter.unusedVariables false
set_option linter.unusedSimpArgs false
namespace Go.Proofs.Ytgpiaibklokhmaa
open Go.RowKit
namespace Cm




theorem takenS_drop (l : List SesV) (c n : Int) (j : Nat) (h : j < l.length) : takenS (l.drop j) c n = ((decide (l[j].num = n) && !decide (l[j].client = c)) || takenS (l.drop (j + 1)) c n) := by
  rw [List.drop_eq_getElem_cons h]
  rfl

theorem cellsS_one (s : SesV) : ∀ u ∈ cellsS s, u.oneCell' = true := by
  intro u hu
  unfold cellsS at hu
  simp only [List.mem_cons, List.not_mem_nil, or_false] at hu
  rcases hu with rfl | rfl | rfl <;> rfl


end Cm
end Go.Proofs.Ytgpiaibklokhmaa
