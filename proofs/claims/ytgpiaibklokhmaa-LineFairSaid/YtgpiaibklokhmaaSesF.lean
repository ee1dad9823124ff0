/- Contracts: padlockref6's RenewSession. -/
import Derived.Test.YtgpiaibklokhmaaSesE
set_option linter.unusedVariables false
set_option linter.unusedSimpArgs false
namespace Go.Proofs.Ytgpiaibklokhmaa
open Go.RowKit
namespace Cm



/-- The first k are renewed. -/
def renN (l : List SesV) (c t : Int) (k : Nat) : List SesV := (l.take k).map (renewE c t) ++ l.drop k

theorem renN_zero (l : List SesV) (c t : Int) : renN l c t 0 = l := by simp [renN]
theorem renN_all (l : List SesV) (c t : Int) : renN l c t l.length = l.map (renewE c t) := by simp [renN]
theorem renN_length (l : List SesV) (c t : Int) (k : Nat) (h : k ≤ l.length) : (renN l c t k).length = l.length := by
  unfold renN
  rw [List.length_append, List.length_map, List.length_take, List.length_drop]
  omega

theorem renN_get (l : List SesV) (c t : Int) (k : Nat) (h : k < l.length) (h' : k < (renN l c t k).length) : (renN l c t k)[k] = l[k] := by
  unfold renN at h' ⊢
  rw [List.getElem_append_right (by rw [List.length_map, List.length_take]; omega)]
  simp only [List.length_map, List.length_take, List.getElem_drop]
  congr 1
  omega

theorem renN_succ (l : List SesV) (c t : Int) (k : Nat) (h : k < l.length) : renN l c t (k + 1) = (renN l c t k).set k (renewE c t l[k]) := by
  unfold renN
  have hk : ((l.take k).map (renewE c t)).length = k := by rw [List.length_map, List.length_take]; omega
  rw [List.take_succ_eq_append_getElem h, List.map_append, List.set_append_right _ _ (by omega), hk, Nat.sub_self, List.append_assoc]
  congr 1
  have e := List.drop_eq_getElem_cons h
  rw [e]
  rfl

theorem renN_same (l : List SesV) (c t : Int) (k : Nat) (h : k < l.length) : (renN l c t k).set k l[k] = renN l c t k := by
  have h' : k < (renN l c t k).length := by rw [renN_length l c t k (by omega)]; exact h
  have := renN_get l c t k h h'
  rw [← this]
  exact List.set_getElem_self h'


end Cm
end Go.Proofs.Ytgpiaibklokhmaa
