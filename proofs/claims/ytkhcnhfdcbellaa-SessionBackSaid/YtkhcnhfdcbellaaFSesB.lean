/- Who is due, what a renewal, an opening, a closing change: plain facts of lists of sessions. No program is named here. -/
import Derived.Test.YtkhcnhfdcbellaaFSes
set_option linter.unusedVariables false
set_option linter.unusedSimpArgs false
namespace Go.Proofs.Ytkhcnhfdcbellaa
open Go.RowKit
namespace Cm

theorem same_client {l : List SesV} (hu : l.Pairwise fun a b => a.client < b.client) : ∀ a ∈ l, ∀ b ∈ l, a.client = b.client → a = b := by
  induction l with
  | nil => intro a ha; cases ha
  | cons x l ih =>
    obtain ⟨h1, h2⟩ := List.pairwise_cons.1 hu
    intro a ha b hb e
    rcases List.mem_cons.1 ha with e1 | ha'
    · rcases List.mem_cons.1 hb with e2 | hb'
      · rw [e1, e2]
      · rw [e1] at e
        have := h1 b hb'; omega
    · rcases List.mem_cons.1 hb with e2 | hb'
      · rw [e2] at e
        have := h1 a ha'; omega
      · exact ih h2 a ha' b hb' e

theorem right_up {l : List SesV} (h : rightS l = true) : l.Pairwise fun a b => a.client < b.client := ((rightS_iff l).1 h).2.up

/-- Who has a session is due just where it was not renewed for a lease. -/
theorem due_has {l : List SesV} (hr : rightS l = true) {t d : Int} (ht : highF t 0 = true) (hd : highF d 0 = true) {s : SesV} (hs : s ∈ l) :
    ((dueS l t d).any fun y => decide (y = s.client)) = decide (d ≤ t - s.ren) := by
  unfold dueS
  rw [if_neg (by simp [ht, hd])]
  by_cases q : d ≤ t - s.ren
  · rw [decide_eq_true q, List.any_eq_true]
    exact ⟨s.client, List.mem_map.2 ⟨s, List.mem_filter.2 ⟨hs, decide_eq_true q⟩, rfl⟩, by simp⟩
  · rw [decide_eq_false q, List.any_eq_false]
    intro x hx
    obtain ⟨s', hs', rfl⟩ := List.mem_map.1 hx
    obtain ⟨h1, h2⟩ := List.mem_filter.1 hs'
    simp only [decide_eq_true_eq] at h2 ⊢
    intro e
    rw [same_client (right_up hr) s' h1 s hs e] at h2
    exact q h2

theorem due_none (l : List SesV) (t d : Int) (h : (highF t 0 && highF d 0) = false) : dueS l t d = [] := by
  unfold dueS
  rw [if_pos h]

theorem due_length (l : List SesV) (t d : Int) : (dueS l t d).length ≤ l.length := by
  unfold dueS
  split
  · simp
  · rw [List.length_map]
    exact List.length_filter_le _ _

/-- Renewed: a code, or the session of c is there, renewed at t or later; no later than 255 or t. -/
theorem renew_has (l : List SesV) (c t : Int) (ht : highF t 0 = true) (hl : ∀ s ∈ l, s.ren ≤ 255) :
    (renewS l c t).2 ≠ 0 ∨ ((renewS l c t).2 = 0 ∧ ∃ s ∈ (renewS l c t).1, s.client = c ∧ t ≤ s.ren ∧ (255 ≤ t → s.ren = t)) := by
  unfold renewS
  rw [if_neg (by simp [ht])]
  by_cases h : (findS l c).2 = false
  · rw [if_pos h]
    exact .inl (by simp)
  · rw [if_neg h]
    refine .inr ⟨rfl, ?_⟩
    have h2 : ¬ ∀ s ∈ l, s.client ≠ c := fun q => h ((findS_none l c).2 q)
    have h3 : ∃ s ∈ l, s.client = c := Classical.byContradiction fun q => h2 fun s hs e => q ⟨s, hs, e⟩
    obtain ⟨s, hs, e⟩ := h3
    have := hl s hs
    refine ⟨renewE c t s, List.mem_map.2 ⟨s, hs, rfl⟩, ?_, ?_, ?_⟩
    · rw [(renewE_keeps c t s).1]; exact e
    · unfold renewE
      rw [if_pos e]
      dsimp only
      split <;> omega
    · intro q
      unfold renewE
      rw [if_pos e]
      dsimp only
      split <;> omega

theorem find_has (l : List SesV) (c : Int) (h : (findS l c).2 = true) : ∃ s ∈ l, s.client = c := by
  have h2 : ¬ ∀ s ∈ l, s.client ≠ c := fun q => by rw [(findS_none l c).2 q] at h; cases h
  exact Classical.byContradiction fun q => h2 fun s hs e => q ⟨s, hs, e⟩

/-- Closed: one less. -/
theorem close_length {l : List SesV} (hu : l.Pairwise fun a b => a.client < b.client) (c : Int) (h : ∃ s ∈ l, s.client = c) : (l.filter fun s => !decide (s.client = c)).length + 1 = l.length := by
  induction l with
  | nil => obtain ⟨s, hs, _⟩ := h; cases hs
  | cons x l ih =>
    obtain ⟨h1, h2⟩ := List.pairwise_cons.1 hu
    by_cases e : x.client = c
    · have : l.filter (fun s => !decide (s.client = c)) = l := by
        rw [List.filter_eq_self]
        intro a ha
        have := h1 a ha
        simp
        omega
      rw [List.filter_cons]
      simp [e, this]
    · have h3 : ∃ s ∈ l, s.client = c := by
        obtain ⟨s, hs, q⟩ := h
        rcases List.mem_cons.1 hs with rfl | hs
        · exact absurd q e
        · exact ⟨s, hs, q⟩
      have := ih h2 h3
      rw [List.filter_cons]
      simp [e]
      omega

/-- Opened and closed again. -/
theorem put_close (x : SesV) (l : List SesV) (h : ∀ s ∈ l, s.client ≠ x.client) : (putS x l).filter (fun s => !decide (s.client = x.client)) = l := by
  induction l with
  | nil => simp [putS]
  | cons s l ih =>
    have h1 := h s (by simp)
    have h2 := fun a ha => h a (List.mem_cons_of_mem _ ha)
    have hf : (s :: l).filter (fun s => !decide (s.client = x.client)) = s :: l := by
      rw [List.filter_eq_self]
      intro a ha
      simpa using h a ha
    unfold putS
    split
    · rw [List.filter_cons]
      simp only [decide_true, Bool.not_true, Bool.false_eq_true, if_false]
      exact hf
    · rw [List.filter_cons, ih h2]
      simp [h1]

theorem put_find (x : SesV) (l : List SesV) (h : ∀ s ∈ l, s.client ≠ x.client) : findS (putS x l) x.client = (x, true) := by
  induction l with
  | nil => simp [putS, findS]
  | cons s l ih =>
    have h1 := h s (by simp)
    have h2 := fun a ha => h a (List.mem_cons_of_mem _ ha)
    unfold putS
    split
    · simp [findS]
    · unfold findS
      rw [if_neg h1, ih h2]
end Cm
end Go.Proofs.Ytkhcnhfdcbellaa
