/- Contracts of package cmd, and of the document's answers for it: letters, numbers, names, commands that may be. -/
import Derived.Test.YtklnopgnlnfbnaaFReq
import Derived.Test.YtklnopgnlnfbnaaFNames
set_option linter.unusedVariables false
set_option linter.unusedSimpArgs false
namespace Go.Proofs.Ytklnopgnlnfbnaa
open Go.RowKit
namespace Cm

/-- A truth told, nothing turned. -/
def Says (r : Bool) (w : World) (e : Ending) (w' : World) : Prop := e = .returned (.bool r) ∧ w = w'

/-- A truth told, nothing that was there has turned. -/
def SaysB (r : Bool) (w : World) (e : Ending) (w' : World) : Prop := e = .returned (.bool r) ∧ Below w.heap.size w w'

theorem Says.b {r : Bool} {w : World} {e : Ending} {w' : World} (h : Says r w e w') : SaysB r w e w' := by
  obtain ⟨h1, rfl⟩ := h
  exact ⟨h1, Below.refl _ _⟩

theorem inName_any (c : UInt8) (w : World) : Calls Try.prog 56 #[.int .u8 (c.toNat : Int)] w (Says (nameB c) w) := by
  have hc := UInt8.toNat_lt c
  unfold nameB
  generalize c.toNat = n at hc ⊢
  by_cases h1 : 97 ≤ n <;> by_cases h2 : n ≤ 122 <;> by_cases h3 : 48 ≤ n <;> by_cases h4 : n ≤ 57 <;> by_cases h5 : n = 45 <;> first
    | (exfalso; omega)
    | (go_enter Try.func56, Try.ntmps56
       go_wp2
       go_ret
       exact ⟨by simp [h1, h2, h3, h4, h5] <;> omega, rfl⟩)


theorem high_any (v least : Int) (w : World) : Calls Try.prog 40 #[.int .i64 v, .int .i64 least] w (Says (highF v least) w) := by
  unfold highF
  by_cases h1 : least ≤ v <;> by_cases h2 : v ≤ 2305843009213693952 <;>
    (go_enter Try.func40, Try.ntmps40
     go_wp2
     go_ret
     exact ⟨by simp [h1, h2] <;> omega, rfl⟩)

/-- All of the first k letters may stand in a name. -/
theorem all_take_succ (s : List UInt8) (k : Nat) (h : k < s.length) : (s.take (k + 1)).all nameB = ((s.take k).all nameB && nameB (s.getD k 0)) := by
  rw [List.take_succ_eq_append_getElem h, List.all_append]
  simp [List.getD, List.getElem?_eq_getElem h]

theorem all_false_of (s : List UInt8) (k : Nat) (h : k < s.length) (hb : nameB (s.getD k 0) = false) : s.all nameB = false := by
  rw [List.all_eq_false]
  have e : s.getD k 0 = s[k] := by simp [List.getD, List.getElem?_eq_getElem h]
  exact ⟨s[k], List.getElem_mem h, by rw [← e, hb]; simp⟩

theorem bstr_get (s : List UInt8) (k : Nat) (h : k < s.length) (h' : k < (bstr s).size) : (bstr s)[k]'h' = s.getD k 0 := by
  simp only [List.getD, List.getElem?_eq_getElem h, Option.getD_some]
  rfl

theorem Name_any (s : List UInt8) (w : World) : Calls Try.prog 53 #[.string (bstr s)] w (Says (nameF s) w) := by
  have hs := bstr_size s
  unfold nameF
  by_cases h1 : s.length < 1
  · rw [decide_eq_false (by omega)]
    go_enter Try.func53, Try.ntmps53
    go_wp2
    go_ret
    exact ⟨rfl, rfl⟩
  by_cases h2 : 12 < s.length
  · rw [decide_eq_false (show ¬ s.length ≤ 12 by omega)]
    go_enter Try.func53, Try.ntmps53
    go_wp2
    go_ret
    exact ⟨by simp, rfl⟩
  rw [decide_eq_true (show 1 ≤ s.length by omega), decide_eq_true (show s.length ≤ 12 by omega)]
  go_enter Try.func53, Try.ntmps53
  go_wp2
  go_loop [14] (fun i => ∃ j : Nat, j ≤ s.length ∧ i = .int .i64 j ∧ (s.take j).all nameB = true) (fun i => s.length - (intOf i).toNat)
  case atStart => exact ⟨0, by omega, rfl, rfl⟩
  case round =>
    obtain ⟨j, hj, rfl, ha⟩ := hrel
    by_cases hlt : j < s.length
    · have hget := bstr_get s j hlt
      have HA := Lib.hid (all_take_succ s j hlt)
      have HF := Lib.hid (all_false_of s j hlt)
      generalize s.getD j 0 = c at hget HA HF
      cases hn : nameB c
      · have HN := Lib.hid hn
        clear hn
        go_wp2_with (go_at_call 56; refine (inName_any c _).mono ?_; rw [HN.out]; rintro e w' ⟨rfl, rfl⟩)
        go_ret
        exact ⟨by rw [HF.out HN.out]; rfl, rfl⟩
      · have HN := Lib.hid hn
        clear hn
        go_wp2_with (go_at_call 56; refine (inName_any c _).mono ?_; rw [HN.out]; rintro e w' ⟨rfl, rfl⟩)
        go_round
        case rel => exact ⟨j + 1, by omega, by go_num, by rw [HA.out, HN.out, ha]; rfl⟩
        case measure => simp [intOf]; omega
    · obtain rfl : j = s.length := by omega
      go_wp2
      go_ret
      rw [List.take_length] at ha
      exact ⟨by rw [ha]; rfl, rfl⟩

/-- Where a letter lies, and whether it may stand in a name. -/
theorem letter (c : UInt8) : (decide (97 ≤ (c.toNat : Int)) = true ∧ decide ((c.toNat : Int) ≤ 122) = true ∧ nameB c = true) ∨
    (decide (97 ≤ (c.toNat : Int)) = false ∧ decide (48 ≤ (c.toNat : Int)) = true ∧ decide ((c.toNat : Int) ≤ 57) = true ∧ nameB c = true) ∨
    (decide (97 ≤ (c.toNat : Int)) = false ∧ decide (48 ≤ (c.toNat : Int)) = false ∧ ((c.toNat : Int) == 45) = true ∧ nameB c = true) ∨
    (decide (97 ≤ (c.toNat : Int)) = false ∧ decide (48 ≤ (c.toNat : Int)) = false ∧ ((c.toNat : Int) == 45) = false ∧ nameB c = false) ∨
    (decide (97 ≤ (c.toNat : Int)) = false ∧ decide (48 ≤ (c.toNat : Int)) = true ∧ decide ((c.toNat : Int) ≤ 57) = false ∧ ((c.toNat : Int) == 45) = false ∧ nameB c = false) ∨
    (decide (97 ≤ (c.toNat : Int)) = true ∧ decide ((c.toNat : Int) ≤ 122) = false ∧ decide (48 ≤ (c.toNat : Int)) = true ∧ decide ((c.toNat : Int) ≤ 57) = false ∧ ((c.toNat : Int) == 45) = false ∧ nameB c = false) := by
  have hc := UInt8.toNat_lt c
  unfold nameB
  generalize c.toNat = n at hc ⊢
  simp only [decide_eq_true_eq, decide_eq_false_iff_not, beq_iff_eq, beq_eq_false_iff_ne, Bool.or_eq_true, Bool.and_eq_true, Bool.or_eq_false_iff, Bool.and_eq_false_imp]
  omega

theorem RefName_any (s : List UInt8) (w : World) : Calls Try.prog 41 #[.string (bstr s)] w (Says (nameF s) w) := by
  have hs := bstr_size s
  unfold nameF
  by_cases h1 : s.length < 1
  · rw [decide_eq_false (by omega)]
    go_enter Try.func41, Try.ntmps41
    go_wp2
    go_ret
    exact ⟨rfl, rfl⟩
  by_cases h2 : 12 < s.length
  · rw [decide_eq_false (show ¬ s.length ≤ 12 by omega)]
    go_enter Try.func41, Try.ntmps41
    go_wp2
    go_ret
    exact ⟨by simp, rfl⟩
  rw [decide_eq_true (show 1 ≤ s.length by omega), decide_eq_true (show s.length ≤ 12 by omega)]
  go_enter Try.func41, Try.ntmps41
  go_wp2
  go_loop [3] (fun i => ∃ j : Nat, j ≤ s.length ∧ i = .int .i64 j ∧ (s.take j).all nameB = true) (fun i => s.length - (intOf i).toNat)
  case atStart => exact ⟨0, by omega, rfl, rfl⟩
  case round =>
    obtain ⟨j, hj, rfl, ha⟩ := hrel
    by_cases hlt : j < s.length
    · have hget := bstr_get s j hlt
      have HA := Lib.hid (all_take_succ s j hlt)
      have HF := Lib.hid (all_false_of s j hlt)
      have HL := letter (s.getD j 0)
      generalize s.getD j 0 = c at hget HA HF HL
      have yes : nameB c = true → (s.take (j + 1)).all nameB = true := fun hn => by rw [HA.out, hn, ha]; rfl
      have YES := Lib.hid yes
      clear yes HA
      rcases HL with ⟨q1, q2, hn⟩ | ⟨q1, q2, q3, hn⟩ | ⟨q1, q2, q3, hn⟩ | ⟨q1, q2, q3, hn⟩ | ⟨q1, q2, q3, q4, hn⟩ | ⟨q1, q2, q3, q4, q5, hn⟩
      all_goals
        have HN := Lib.hid hn
        clear hn
        go_wp2
        first
          | (go_ret
             exact ⟨by rw [HF.out HN.out]; rfl, rfl⟩)
          | (go_round
             case rel => exact ⟨j + 1, by omega, by go_num, YES.out HN.out⟩
             case measure => simp [intOf]; omega)
    · obtain rfl : j = s.length := by omega
      go_wp2
      go_ret
      rw [List.take_length] at ha
      exact ⟨by rw [ha]; rfl, rfl⟩
end Cm
end Go.Proofs.Ytklnopgnlnfbnaa
