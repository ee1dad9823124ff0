/- Contracts: padlockref6's RightSessions. -/
import Derived.Test.YtgpiaibklokhmaaSesB
set_option linter.unusedVariables false
set_option linter.unusedSimpArgs false
namespace Go.Proofs.Ytgpiaibklokhmaa
open Go.RowKit
namespace Cm

theorem quiet_eq6 {P : Program} {f : FuncId} {args : Array Value} {w : World} {n : Nat} {v : Value}
    (h : Calls P f args (w.drewN n) fun e w' => e = .returned v ∧ w.drewN n = w') : Calls P f args (w.drewN n) fun e w'' => e = .returned v ∧ ∃ m, w'' = w.drewN m :=
  h.mono fun _ _ ⟨he, hm⟩ => ⟨he, n, hm.symm⟩

theorem rightGo_drop (l : List SesV) (j : Nat) (h : j < l.length) : rightGo (l.take j) (l.drop j) = (sesOk (l.take j) l[j] && rightGo (l.take (j + 1)) (l.drop (j + 1))) := by
  rw [List.drop_eq_getElem_cons h, List.take_succ_eq_append_getElem h]
  rfl

def allN (l : List SesV) (n : Int) : Bool := l.all fun p => !decide (p.num = n)

theorem allN_drop (l : List SesV) (n : Int) (j k : Nat) (hj : j ≤ l.length) (h : k < j) : allN ((l.take j).drop k) n = (!decide ((l[k]'(by omega)).num = n) && allN ((l.take j).drop (k + 1)) n) := by
  have hk : k < (l.take j).length := by rw [List.length_take]; omega
  rw [List.drop_eq_getElem_cons hk]
  have e : (l.take j)[k] = l[k]'(by omega) := List.getElem_take
  unfold allN
  rw [List.all_cons, e]

theorem sesOk_first (s : SesV) : sesOk [] s = (clientF s.client && (highF s.num 1 && (highF s.ren 0 && allN [] s.num))) := by
  unfold sesOk allN
  simp [Bool.and_assoc]

theorem sesOk_next (l : List SesV) (q : Nat) (h : q < l.length) (s : SesV) : sesOk (l.take (q + 1)) s = (clientF s.client && (highF s.num 1 && (highF s.ren 0 && (decide (l[q].client < s.client) && allN (l.take (q + 1)) s.num)))) := by
  unfold sesOk allN
  have e : (l.take (q + 1)).getLast? = some l[q] := by rw [List.take_succ_eq_append_getElem h, List.getLast?_append]; simp
  rw [e]
  simp [Bool.and_assoc]


end Cm
end Go.Proofs.Ytgpiaibklokhmaa
