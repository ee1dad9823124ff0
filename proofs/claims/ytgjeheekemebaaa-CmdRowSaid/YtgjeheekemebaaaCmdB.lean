/- Contracts: which commands and requests may be. -/
import Derived.Test.YtgjeheekemebaaaCmdA
set_option linter.unusedVariables false
set_option linter.unusedSimpArgs false
namespace Go.Proofs.Ytgjeheekemebaaa
open Go.RowKit
namespace Cm

/-- A command, a request, as the machine holds it. -/
def cmdVal (c : CmdV) : Value := .agg #[.int .i64 c.kind, .int .i64 c.session, .string (bstr c.name)]
def reqVal (r : ReqV) : Value := .agg #[.int .i64 r.client, .int .i64 r.seq, .int .i64 r.cmd.kind, .int .i64 r.cmd.session, .string (bstr r.cmd.name)]

theorem bstr_empty (n : List UInt8) : (bstr n).toList.isEmpty = decide (n = []) := by
  rw [ByteArray.toList_eq, bstr_toList]
  cases n <;> rfl

theorem May_any (c : CmdV) (w : World) : Calls Try.prog 14 #[cmdVal c] w (SaysB (mayF c) w) := by
  obtain ⟨k, s, n⟩ := c
  unfold cmdVal mayF
  dsimp only
  have C1 := Lib.hid (fun w => isNumber_any s w)
  have C2 := Lib.hid (fun w => Name_any n w)
  have E := Lib.hid (bstr_empty n)
  by_cases h1 : k = 1
  · subst h1
    rw [if_pos rfl]
    by_cases hs : s = 0
    · subst hs
      go_enter Try.func14, Try.ntmps14
      go_wp2
      go_ret
      exact ⟨by rw [E.out]; rfl, newAlloc _ _⟩
    · have d : (s == 0) = false := by simpa using hs
      go_enter Try.func14, Try.ntmps14
      go_wp2
      go_ret
      exact ⟨by simp [hs], newAlloc _ _⟩
  rw [if_neg h1]
  by_cases h2 : k = 2 ∨ k = 6
  · rw [if_pos h2]
    clear h1
    rcases h2 with rfl | rfl
    all_goals
      cases hh : highF s 1
      all_goals
        have H := Lib.hid hh
        clear hh
        go_enter Try.func14, Try.ntmps14
        go_wp2_with (go_at_call 37; refine (C1.out _).mono ?_; rw [H.out]; rintro e w' ⟨rfl, rfl⟩)
        go_ret
        exact ⟨by first | rfl | (rw [E.out]; rfl), newAlloc _ _⟩
  rw [if_neg h2]
  by_cases h3 : k = 3 ∨ k = 4 ∨ k = 5
  · rw [if_pos h3]
    clear h1 h2
    rcases h3 with rfl | rfl | rfl
    all_goals
      cases hh : highF s 1
      all_goals
        have H := Lib.hid hh
        clear hh
        go_enter Try.func14, Try.ntmps14
        go_wp2_with (first
          | (go_at_call 37; refine (C1.out _).mono ?_; rw [H.out]; rintro e w' ⟨rfl, rfl⟩)
          | (go_at_call 16; refine (C2.out _).mono ?_; rintro e w' ⟨rfl, rfl⟩))
        go_ret
        exact ⟨by simp, newAlloc _ _⟩
  rw [if_neg h3]
  have d1 : (k == 1) = false := by simp; omega
  have d2 : (k == 2) = false := by simp; omega
  have d3 : (k == 3) = false := by simp; omega
  have d4 : (k == 4) = false := by simp; omega
  have d5 : (k == 5) = false := by simp; omega
  have d6 : (k == 6) = false := by simp; omega
  clear h1 h2 h3
  go_enter Try.func14, Try.ntmps14
  go_wp2
  go_ret
  exact ⟨rfl, newAlloc _ _⟩

theorem RefMay_any (c : CmdV) (w : World) : Calls Try.prog 15 #[cmdVal c] w (SaysB (mayF c) w) := by
  obtain ⟨k, s, n⟩ := c
  unfold cmdVal mayF
  dsimp only
  have C1 := Lib.hid (fun w => high_any s 1 w)
  have C2 := Lib.hid (fun w => RefName_any n w)
  have E := Lib.hid (bstr_empty n)
  by_cases h1 : k = 1
  · subst h1
    rw [if_pos rfl]
    by_cases hs : s = 0
    · subst hs
      go_enter Try.func15, Try.ntmps15
      go_wp2
      go_ret
      exact ⟨by rw [E.out]; rfl, newAlloc _ _⟩
    · have d : (s == 0) = false := by simpa using hs
      go_enter Try.func15, Try.ntmps15
      go_wp2
      go_ret
      exact ⟨by simp [hs], newAlloc _ _⟩
  rw [if_neg h1]
  by_cases h2 : k = 2 ∨ k = 6
  · rw [if_pos h2]
    clear h1
    rcases h2 with rfl | rfl
    all_goals
      cases hh : highF s 1
      all_goals
        have H := Lib.hid hh
        clear hh
        go_enter Try.func15, Try.ntmps15
        go_wp2_with (go_at_call 38; refine (C1.out _).mono ?_; rw [H.out]; rintro e w' ⟨rfl, rfl⟩)
        go_ret
        exact ⟨by first | rfl | (rw [E.out]; rfl), newAlloc _ _⟩
  rw [if_neg h2]
  by_cases h3 : k = 3 ∨ k = 4 ∨ k = 5
  · rw [if_pos h3]
    clear h1 h2
    rcases h3 with rfl | rfl | rfl
    all_goals
      cases hh : highF s 1
      all_goals
        have H := Lib.hid hh
        clear hh
        go_enter Try.func15, Try.ntmps15
        go_wp2_with (first
          | (go_at_call 38; refine (C1.out _).mono ?_; rw [H.out]; rintro e w' ⟨rfl, rfl⟩)
          | (go_at_call 17; refine (C2.out _).mono ?_; rintro e w' ⟨rfl, rfl⟩))
        go_ret
        exact ⟨by simp, newAlloc _ _⟩
  rw [if_neg h3]
  have d1 : (k == 1) = false := by simp; omega
  have d2 : (k == 2) = false := by simp; omega
  have d3 : (k == 3) = false := by simp; omega
  have d4 : (k == 4) = false := by simp; omega
  have d5 : (k == 5) = false := by simp; omega
  have d6 : (k == 6) = false := by simp; omega
  clear h1 h2 h3
  go_enter Try.func15, Try.ntmps15
  go_wp2
  go_ret
  exact ⟨rfl, newAlloc _ _⟩

theorem MayReq_any (r : ReqV) (w : World) : Calls Try.prog 22 #[reqVal r] w (SaysB (mayR r) w) := by
  obtain ⟨c, q, m⟩ := r
  have C1 := Lib.hid (fun w => isNumber_any q w)
  have C2 := Lib.hid (fun w => May_any m w)
  unfold reqVal mayR
  unfold cmdVal at C2
  obtain ⟨k, s, n⟩ := m
  dsimp only at C2 ⊢
  by_cases h0 : 0 ≤ c
  · have d0 : decide (0 ≤ c) = true := decide_eq_true h0
    by_cases h1 : c < 8
    · have d1 : decide (c < 8) = true := decide_eq_true h1
      cases hh : highF q 1
      all_goals
        have H := Lib.hid hh
        clear hh
        go_enter Try.func22, Try.ntmps22
        go_wp2_with (first
          | (go_at_call 37; refine (C1.out _).mono ?_; rw [H.out]; rintro e w' ⟨rfl, rfl⟩)
          | (go_at_call 14; refine (C2.out _).mono ?_; rintro e w' ⟨rfl, hb⟩))
        go_ret
        first
          | exact ⟨by simp [h0, h1], newAlloc _ _⟩
          | exact ⟨by simp [h0, h1], step (newAlloc _ _) hb⟩
    · have d1 : decide (c < 8) = false := decide_eq_false h1
      go_enter Try.func22, Try.ntmps22
      go_wp2
      go_ret
      exact ⟨by simp [h0, h1], newAlloc _ _⟩
  · have d0 : decide (0 ≤ c) = false := decide_eq_false h0
    go_enter Try.func22, Try.ntmps22
    go_wp2
    go_ret
    exact ⟨by simp [h0], newAlloc _ _⟩

theorem RefMayReq_any (r : ReqV) (w : World) : Calls Try.prog 23 #[reqVal r] w (SaysB (mayR r) w) := by
  obtain ⟨c, q, m⟩ := r
  have C1 := Lib.hid (fun w => high_any q 1 w)
  have C2 := Lib.hid (fun w => RefMay_any m w)
  unfold reqVal mayR
  unfold cmdVal at C2
  obtain ⟨k, s, n⟩ := m
  dsimp only at C2 ⊢
  by_cases h0 : 0 ≤ c
  · have d0 : decide (0 ≤ c) = true := decide_eq_true h0
    by_cases h1 : c < 8
    · have d1 : decide (c < 8) = true := decide_eq_true h1
      cases hh : highF q 1
      all_goals
        have H := Lib.hid hh
        clear hh
        go_enter Try.func23, Try.ntmps23
        go_wp2_with (first
          | (go_at_call 38; refine (C1.out _).mono ?_; rw [H.out]; rintro e w' ⟨rfl, rfl⟩)
          | (go_at_call 15; refine (C2.out _).mono ?_; rintro e w' ⟨rfl, hb⟩))
        go_ret
        first
          | exact ⟨by simp [h0, h1], newAlloc _ _⟩
          | exact ⟨by simp [h0, h1], step (newAlloc _ _) hb⟩
    · have d1 : decide (c < 8) = false := decide_eq_false h1
      go_enter Try.func23, Try.ntmps23
      go_wp2
      go_ret
      exact ⟨by simp [h0, h1], newAlloc _ _⟩
  · have d0 : decide (0 ≤ c) = false := decide_eq_false h0
    go_enter Try.func23, Try.ntmps23
    go_wp2
    go_ret
    exact ⟨by simp [h0], newAlloc _ _⟩

end Cm
end Go.Proofs.Ytgjeheekemebaaa
