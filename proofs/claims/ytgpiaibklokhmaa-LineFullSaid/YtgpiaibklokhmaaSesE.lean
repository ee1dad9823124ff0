/- Contracts: padlockref6's CloseSession, Due. -/
import Derived.Test.YtgpiaibklokhmaaSesD
set_option linter.unusedVariables false
set_option linter.unusedSimpArgs false
namespace Go.Proofs.Ytgpiaibklokhmaa
open Go.RowKit
namespace Cm

theorem infoN : (Try.prog.info? 3).map (fun i => (i.zero, i.size, i.bytes)) = some (some (.int .i64 0), 1, 8) := by kernel_rfl

theorem cellsI_one (x : Int) : ∀ u ∈ cellsI x, u.oneCell' = true := by
  intro u hu
  unfold cellsI at hu
  rw [List.mem_singleton] at hu
  subst hu
  rfl

theorem filter_take_succ {α : Type} (l : List α) (p : α → Bool) (j : Nat) (h : j < l.length) : (l.take (j + 1)).filter p = (l.take j).filter p ++ if p l[j] then [l[j]] else [] := by
  rw [List.take_succ_eq_append_getElem h, List.filter_append]
  congr 1
  by_cases q : p l[j] = true
  · simp [q]
  · simp [q]

def keepsS (c : Int) (s : SesV) : Bool := !decide (s.client = c)


/-- Numbers told, in new memory. -/
def GetsN (r : List Int) (w : World) (e : Ending) (w' : World) : Prop :=
  ∃ v, e = .returned v ∧ w'.ownsRow w.heap.size 3 1 v r.length (flatX cellsI r) ∧ Below w.heap.size w w'

theorem map_filter_take (l : List SesV) (p : SesV → Bool) (j : Nat) (h : j < l.length) : ((l.take (j + 1)).filter p).map (·.client) = ((l.take j).filter p).map (·.client) ++ if p l[j] then [l[j].client] else [] := by
  rw [filter_take_succ l p j h, List.map_append]
  congr 1
  by_cases q : p l[j] = true <;> simp [q]

def lateS (t d : Int) (s : SesV) : Bool := decide (d ≤ t - s.ren)


end Cm
end Go.Proofs.Ytgpiaibklokhmaa
