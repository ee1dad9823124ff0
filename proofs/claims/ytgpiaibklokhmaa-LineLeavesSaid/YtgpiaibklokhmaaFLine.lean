/- What package line answers, as plain functions over lists of numbers. No program is named here but in the contracts' forms. -/
import Derived.Test.YtgpiaibklokhmaaIdx
set_option linter.unusedVariables false
set_option linter.unusedSimpArgs false
namespace Go.Proofs.Ytgpiaibklokhmaa
open Go.RowKit
namespace Cm

def hasL (l : List Int) (c : Int) : Bool := l.any fun y => decide (y = c)

def isN (c : Int) (y : Int) : Bool := decide (y = c)
theorem hasL_idx (l : List Int) (c : Int) : hasL l c = decide (0 ≤ idxI (isN c) l) := (idxI_any (isN c) l).symm

/-- Its place, and whether it is there. -/
def aheadL (l : List Int) (c : Int) : Int × Bool := if idxI (isN c) l < 0 then (0, false) else (idxI (isN c) l, true)
theorem aheadL_has (l : List Int) (c : Int) : (aheadL l c).2 = hasL l c := by
  rw [hasL_idx]
  unfold aheadL
  split
  · exact (decide_eq_false (by omega)).symm
  · exact (decide_eq_true (by omega)).symm

def lineGo (pre : List Int) : List Int → Bool
  | [] => true
  | c :: l => clientF c && !hasL pre c && lineGo (pre ++ [c]) l
def rightL (l : List Int) : Bool := decide (l.length ≤ 3) && lineGo [] l

def joinL (l : List Int) (c : Int) : List Int × Int × Int :=
  if clientF c = false then ([], 0, 1) else if hasL l c = true then ([], 0, 7) else if 3 ≤ l.length then ([], 0, 5) else (l ++ [c], l.length, 0)

def withoutL (l gone : List Int) : List Int := l.filter fun x => !hasL gone x

/-! ### Right lines, as a relation -/
structure Rl (l : List Int) : Prop where
  ok : ∀ c ∈ l, clientF c = true
  apart : l.Pairwise fun a b => a ≠ b

theorem hasL_iff (l : List Int) (c : Int) : hasL l c = true ↔ c ∈ l := by
  unfold hasL
  rw [List.any_eq_true]
  constructor
  · rintro ⟨x, hx, h⟩
    rw [decide_eq_true_eq] at h
    rw [← h]; exact hx
  · intro h
    exact ⟨c, h, by simp⟩
theorem hasL_not (l : List Int) (c : Int) : hasL l c = false ↔ c ∉ l := by
  rw [← hasL_iff]
  simp

theorem lineGo_iff (l : List Int) : ∀ pre, Rl pre → (lineGo pre l = true ↔ Rl (pre ++ l)) := by
  induction l with
  | nil => intro pre h; simp [lineGo, h]
  | cons c l ih =>
    intro pre h
    have e : pre ++ c :: l = (pre ++ [c]) ++ l := by simp
    have hs : Rl (pre ++ [c]) ↔ clientF c = true ∧ c ∉ pre := by
      constructor
      · intro q
        refine ⟨q.ok c (by simp), fun hm => ?_⟩
        exact (List.pairwise_append.1 q.apart).2.2 c hm c (by simp) rfl
      · rintro ⟨q1, q2⟩
        refine ⟨fun x hx => ?_, List.pairwise_append.2 ⟨h.apart, List.pairwise_singleton _ _, fun a ha b hb => ?_⟩⟩
        · rcases List.mem_append.1 hx with g | g
          · exact h.ok x g
          · rw [List.mem_singleton] at g; rw [g]; exact q1
        · rw [List.mem_singleton] at hb; subst hb
          intro e2; exact q2 (e2 ▸ ha)
    unfold lineGo
    rw [Bool.and_eq_true, Bool.and_eq_true, e]
    constructor
    · rintro ⟨⟨h1, h2⟩, h3⟩
      have h4 : Rl (pre ++ [c]) := hs.2 ⟨h1, (hasL_not _ _).1 (by simpa using h2)⟩
      exact (ih _ h4).1 h3
    · intro q
      have h4 : Rl (pre ++ [c]) := ⟨fun x hx => q.ok x (List.mem_append_left _ hx), (List.pairwise_append.1 q.apart).1⟩
      obtain ⟨h1, h2⟩ := hs.1 h4
      exact ⟨⟨h1, by rw [(hasL_not _ _).2 h2]; rfl⟩, (ih _ h4).2 q⟩

theorem rightL_iff (l : List Int) : rightL l = true ↔ l.length ≤ 3 ∧ Rl l := by
  unfold rightL
  rw [Bool.and_eq_true, decide_eq_true_eq, lineGo_iff l [] ⟨(fun c hc => by cases hc), List.Pairwise.nil⟩, List.nil_append]

/-- The line goes by its first so many. -/
theorem lineGo_drop (l : List Int) (j : Nat) (h : j < l.length) : lineGo (l.take j) (l.drop j) = (clientF l[j] && !hasL (l.take j) l[j] && lineGo (l.take (j + 1)) (l.drop (j + 1))) := by
  rw [List.drop_eq_getElem_cons h]
  have : l.take (j + 1) = l.take j ++ [l[j]] := List.take_succ_eq_append_getElem h
  rw [this]
  rfl

theorem withoutL_succ (l gone : List Int) (j : Nat) (h : j < l.length) : withoutL (l.take (j + 1)) gone = withoutL (l.take j) gone ++ if hasL gone l[j] then [] else [l[j]] := by
  unfold withoutL
  rw [List.take_succ_eq_append_getElem h, List.filter_append]
  congr 1
  cases q : hasL gone l[j] <;> simp [q]

theorem join_right (l : List Int) (c : Int) (h : rightL l = true) (hj : (joinL l c).2.2 = 0) : rightL (joinL l c).1 = true := by
  obtain ⟨h3, hr⟩ := (rightL_iff l).1 h
  unfold joinL at hj ⊢
  split at hj
  · cases hj
  · rename_i h1
    rw [if_neg h1]
    split at hj
    · cases hj
    · rename_i h2
      rw [if_neg h2]
      split at hj
      · cases hj
      · rename_i h4
        rw [if_neg h4]
        dsimp only
        refine (rightL_iff _).2 ⟨by rw [List.length_append, List.length_singleton]; omega, fun x hx => ?_, List.pairwise_append.2 ⟨hr.apart, List.pairwise_singleton _ _, fun a ha b hb => ?_⟩⟩
        · rcases List.mem_append.1 hx with g | g
          · exact hr.ok x g
          · rw [List.mem_singleton] at g; rw [g]; simpa using h1
        · rw [List.mem_singleton] at hb; subst hb
          intro e; exact h2 ((hasL_iff _ _).2 (e ▸ ha))

theorem without_right (l gone : List Int) (h : rightL l = true) : rightL (withoutL l gone) = true := by
  obtain ⟨h3, hr⟩ := (rightL_iff l).1 h
  refine (rightL_iff _).2 ⟨?_, fun x hx => hr.ok x (List.mem_filter.1 hx).1, hr.apart.filter _⟩
  have := List.length_filter_le (fun x => !hasL gone x) l
  unfold withoutL
  omega

theorem tail_right (l : List Int) (h : rightL l = true) : rightL (l.drop 1) = true := by
  obtain ⟨h3, hr⟩ := (rightL_iff l).1 h
  exact (rightL_iff _).2 ⟨by rw [List.length_drop]; omega, fun x hx => hr.ok x (List.mem_of_mem_drop hx), hr.apart.sublist (List.drop_sublist 1 l)⟩

theorem nil_right : rightL [] = true := by decide
end Cm
end Go.Proofs.Ytgpiaibklokhmaa
