/- The farthest of some: as far as one of them, and no one is farther. No program is named here. -/
import Derived.Test.YtkfkmkdpogkhhaaFOf
set_option linter.unusedVariables false
set_option linter.unusedSimpArgs false
namespace Go.Proofs.Ytkfkmkdpogkhhaa
namespace Dbl
open Ieee

theorem flt_small (f r : Nat) (hf : f < 9223372036854775808) (hr : r < 9223372036854775808) (nf : isNan f = false) (nr : isNan r = false) : flt f r = decide (f < r) := by
  rw [flt_not f r nf nr, val_small f hf, val_small r hr, decide_eq_decide]
  have := mag_lt_iff f r
  omega

theorem step_some (f a : Nat) (hf : Good (some f)) (ha : Good (some a)) : farStep (some f) (some a) = some (max f a) := by
  obtain ⟨h1, h2⟩ := hf f rfl
  obtain ⟨h3, h4⟩ := ha a rfl
  unfold farStep
  dsimp only
  rw [flt_small f a h1 h3 h2 h4]
  by_cases h : f < a
  · rw [if_pos (by simpa using h)]
    congr 1
    omega
  · rw [if_neg (by simpa using h)]
    congr 1
    omega

theorem far_one (x : Nat) : farF [x] = absOf x := by
  show farStep (some 0) (absOf x) = absOf x
  have hg := abs_good x
  cases h : absOf x with
  | none => rfl
  | some r =>
    rw [h] at hg
    rw [step_some 0 r good_zero hg, Nat.zero_max]

theorem fold_one_of (xs : List Nat) (f : Option Nat) (hf : Good f) :
    xs.foldl (fun f x => farStep f (absOf x)) f = f ∨ ∃ x ∈ xs, xs.foldl (fun f x => farStep f (absOf x)) f = absOf x := by
  induction xs generalizing f with
  | nil => exact .inl rfl
  | cons x xs ih =>
    have hg := abs_good x
    have key : farStep f (absOf x) = f ∨ farStep f (absOf x) = absOf x := by
      cases f with
      | none => exact .inl rfl
      | some f =>
        cases h : absOf x with
        | none => exact .inr rfl
        | some r =>
          rw [h] at hg
          rw [step_some f r hf hg]
          by_cases q : f ≤ r
          · exact .inr (by congr 1; omega)
          · exact .inl (by congr 1; omega)
    rcases ih (farStep f (absOf x)) (step_good _ _ hf hg) with h | ⟨y, hy, h⟩
    · rcases key with k | k
      · left
        show xs.foldl (fun f x => farStep f (absOf x)) (farStep f (absOf x)) = f
        rw [h, k]
      · right
        refine ⟨x, List.mem_cons_self, ?_⟩
        show xs.foldl (fun f x => farStep f (absOf x)) (farStep f (absOf x)) = absOf x
        rw [h, k]
    · right
      exact ⟨y, List.mem_cons_of_mem _ hy, h⟩

theorem fold_bound (xs : List Nat) (f : Option Nat) (hf : Good f) (g : Nat) (h : xs.foldl (fun f x => farStep f (absOf x)) f = some g) :
    (∃ r, f = some r ∧ r ≤ g) ∧ ∀ x ∈ xs, ∃ r, absOf x = some r ∧ r ≤ g := by
  induction xs generalizing f with
  | nil =>
    have h' : f = some g := h
    exact ⟨⟨g, h', Nat.le_refl _⟩, fun x hx => by cases hx⟩
  | cons x xs ih =>
    have hg := abs_good x
    obtain ⟨⟨r, hr, hrg⟩, hall⟩ := ih (farStep f (absOf x)) (step_good _ _ hf hg) h
    cases f with
    | none => cases hr
    | some f =>
      cases ha : absOf x with
      | none => rw [ha] at hr; cases hr
      | some a =>
        rw [ha] at hr hg
        rw [step_some f a hf hg] at hr
        injection hr with hr
        refine ⟨⟨f, rfl, by omega⟩, fun y hy => ?_⟩
        rcases List.mem_cons.1 hy with rfl | hy
        · exact ⟨a, ha, by omega⟩
        · exact hall y hy

/-- No one is farther. -/
theorem far_bound (xs : List Nat) (g : Nat) (h : farF xs = some g) (x : Nat) (hx : x ∈ xs) : ∃ r, farF [x] = some r ∧ r ≤ g := by
  rw [far_one]
  exact (fold_bound xs _ good_zero g h).2 x hx

/-- As far as one of them. -/
theorem far_attained (xs : List Nat) (h : xs ≠ []) : ∃ x ∈ xs, farF [x] = farF xs := by
  rcases fold_one_of xs (some 0) good_zero with q | ⟨x, hx, q⟩
  · have q' : farF xs = some 0 := q
    cases xs with
    | nil => exact absurd rfl h
    | cons y ys =>
      obtain ⟨r, hr, hr0⟩ := far_bound (y :: ys) 0 q' y List.mem_cons_self
      refine ⟨y, List.mem_cons_self, ?_⟩
      rw [hr, q']
      congr 1
      omega
  · exact ⟨x, hx, by rw [far_one]; exact q.symm⟩

theorem alike_opt (A F : Option Nat) (c b : Nat) (hc : Is A c) (hb : Is F b) (gA : Good A) (gF : Good F) : alikeF c b = (A == F) := by
  unfold alikeF
  cases A with
  | none =>
    have h1 : isNan c = true := hc.2
    cases F with
    | none =>
      have h2 : isNan b = true := hb.2
      rw [h1, h2]
      rfl
    | some f =>
      have h2 : b = f := hb.2
      rw [h1, h2, (gF f rfl).2]
      rfl
  | some a =>
    have h1 : c = a := hc.2
    cases F with
    | none =>
      have h2 : isNan b = true := hb.2
      rw [h1, h2, (gA a rfl).2]
      rfl
    | some f =>
      have h2 : b = f := hb.2
      rw [h1, h2, (gA a rfl).2, (gF f rfl).2]
      simp

/-- Whether one of the first j is as far as the farthest. -/
def oneOf (xs : List Nat) (j : Nat) : Bool := decide (xs.length = 0) || (xs.take j).any fun x => farF [x] == farF xs

theorem oneOf_zero (xs : List Nat) : oneOf xs 0 = decide (xs.length = 0) := by simp [oneOf]

theorem oneOf_succ (xs : List Nat) (j : Nat) (h : j < xs.length) : oneOf xs (j + 1) = (oneOf xs j || (farF [xs.getD j 0] == farF xs)) := by
  unfold oneOf
  rw [List.take_succ_eq_append_getElem h, List.any_append]
  simp [List.getD, List.getElem?_eq_getElem h, Bool.or_assoc]

theorem oneOf_all (xs : List Nat) : oneOf xs xs.length = true := by
  unfold oneOf
  rw [List.take_length]
  by_cases h : xs = []
  · subst h; rfl
  · obtain ⟨x, hx, e⟩ := far_attained xs h
    have : (xs.any fun x => farF [x] == farF xs) = true := List.any_eq_true.2 ⟨x, hx, by simp [e]⟩
    rw [this]
    simp

/-- The test in the round says no. -/
theorem round_no (xs : List Nat) (x b c : Nat) (hx : x ∈ xs) (hb : Is (farF xs) b) (hc : Is (farF [x]) c) : flt b c = false ∧ (feq c c = true ∨ feq b b = false) := by
  cases hF : farF xs with
  | none =>
    rw [hF] at hb
    have h1 : isNan b = true := hb.2
    refine ⟨?_, .inr ?_⟩
    · unfold flt; rw [h1]; rfl
    · rw [feq_self, h1]; rfl
  | some f =>
    obtain ⟨r, hr, hle⟩ := far_bound xs f hF x hx
    have g1 := far_good xs f hF
    have g2 := far_good [x] r hr
    rw [hF] at hb
    rw [hr] at hc
    have h1 : b = f := hb.2
    have h2 : c = r := hc.2
    rw [h1, h2]
    refine ⟨?_, .inl ?_⟩
    · rw [flt_small f r g1.1 g2.1 g1.2 g2.2]
      simp
      exact hle
    · rw [feq_self, g2.2]; rfl
end Dbl
end Go.Proofs.Ytkfkmkdpogkhhaa
