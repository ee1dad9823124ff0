/- SessionBack's three ways, as plain facts. -/
import Derived.Test.YtkhcnhfdcbellaaLaw6
set_option linter.unusedVariables false
set_option linter.unusedSimpArgs false
namespace Go.Proofs.Ytkhcnhfdcbellaa
open Go.RowKit
namespace Cm

theorem back_cases (l : List SesV) (hf : Fine l) (c T : Int) (hc : 0 ≤ c ∧ c < 8) (hT : 0 ≤ T ∧ T ≤ 65535) :
    ((findS l c).2 = true ∧ openS l c 9999 T = ([], 7) ∧ renewS l c T = (l.map (renewE c T), 0) ∧ rightS (l.map (renewE c T)) = true ∧ ∃ K, closeS l c = (K, 0) ∧ K.length + 1 = l.length ∧ rightS K = true) ∨
    ((findS l c).2 = false ∧ l.length = 5 ∧ openS l c 9999 T = ([], 5)) ∨
    ((findS l c).2 = false ∧ l.length < 5 ∧ ∃ M, openS l c 9999 T = (M, 0) ∧ rightS M = true ∧ closeS M c = (l, 0) ∧ findS M c = (⟨c, 9999, T⟩, true)) := by
  have h1 : (clientF c && highF 9999 1 && highF T 0) = true := by unfold clientF highF; simp; omega
  have hT0 : highF T 0 = true := by unfold highF; simp; omega
  have h2 : takenS l c 9999 = false := (takenS_none l c 9999).2 fun s hs e => by have := (hf.ok s hs).1; omega
  have h5 := ((rightS_iff l).1 hf.right).1
  cases hfd : (findS l c).2 with
  | true =>
    refine .inl ⟨rfl, ?_, ?_, ?_, l.filter (fun s => !decide (s.client = c)), ?_, ?_, ?_⟩
    · unfold openS
      rw [if_neg (by rw [h1]; simp), if_neg (by rw [h2]; simp), if_pos hfd]
    · unfold renewS
      rw [if_neg (by rw [hT0]; simp), if_neg (by rw [hfd]; simp)]
    · have e : renewS l c T = (l.map (renewE c T), 0) := by
        unfold renewS
        rw [if_neg (by rw [hT0]; simp), if_neg (by rw [hfd]; simp)]
      have := renewS_right l c T hf.right (by rw [e])
      rw [e] at this
      exact this
    · unfold closeS
      rw [if_neg (by rw [hfd]; simp)]
    · exact close_length (right_up hf.right) c (find_has l c hfd)
    · have e : closeS l c = (l.filter (fun s => !decide (s.client = c)), 0) := by
        unfold closeS
        rw [if_neg (by rw [hfd]; simp)]
      have := closeS_right l c hf.right (by rw [e])
      rw [e] at this
      exact this
  | false =>
    have hn := (findS_none l c).1 hfd
    by_cases hl : l.length = 5
    · refine .inr (.inl ⟨rfl, hl, ?_⟩)
      unfold openS
      rw [if_neg (by rw [h1]; simp), if_neg (by rw [h2]; simp), if_neg (by rw [hfd]; simp), if_pos (by omega)]
    · have e : openS l c 9999 T = (putS ⟨c, 9999, T⟩ l, 0) := by
        unfold openS
        rw [if_neg (by rw [h1]; simp), if_neg (by rw [h2]; simp), if_neg (by rw [hfd]; simp), if_neg (by omega)]
      have hp := put_find ⟨c, 9999, T⟩ l hn
      dsimp only at hp
      refine .inr (.inr ⟨rfl, by omega, putS ⟨c, 9999, T⟩ l, e, ?_, ?_, hp⟩)
      · have := openS_right l c 9999 T hf.right (by rw [e])
        rw [e] at this
        exact this
      · unfold closeS
        rw [hp, if_neg (by simp)]
        rw [put_close ⟨c, 9999, T⟩ l hn]
end Cm
end Go.Proofs.Ytkhcnhfdcbellaa
