/- LineLeaves: who leaves, as plain facts; rows of numbers written over. -/
import Derived.Test.YtgpiaibklokhmaaLaw7B
set_option linter.unusedVariables false
set_option linter.unusedSimpArgs false
namespace Go.Proofs.Ytgpiaibklokhmaa
open Go.RowKit
namespace Cm

theorem leave_none (l : List Int) (c : Int) (h : hasL l c = false) : withoutL l [c] = l := by
  unfold withoutL
  rw [List.filter_eq_self]
  intro a ha
  have : a ≠ c := fun q => (hasL_not _ _).1 h (q ▸ ha)
  simp [hasL]
  exact fun q => this q.symm

theorem leave_length (l : List Int) (c : Int) (hr : rightL l = true) (h : hasL l c = true) : (withoutL l [c]).length + 1 = l.length := by
  have hp := ((rightL_iff l).1 hr).2.apart
  have hm := (hasL_iff _ _).1 h
  clear hr h
  unfold withoutL
  induction l with
  | nil => cases hm
  | cons x l ih =>
    obtain ⟨h1, h2⟩ := List.pairwise_cons.1 hp
    by_cases e : x = c
    · have : l.filter (fun y => !hasL [c] y) = l := by
        rw [List.filter_eq_self]
        intro a ha
        have := h1 a ha
        simp [hasL]
        intro q; exact this (by rw [e, q])
      rw [List.filter_cons, if_neg (by simp [hasL, e]), this]
      rfl
    · have hm' : c ∈ l := by
        rcases List.mem_cons.1 hm with q | q
        · exact absurd q.symm e
        · exact q
      have := ih h2 hm'
      rw [List.filter_cons, if_pos (by simp [hasL]; exact fun q => e q.symm)]
      simp only [List.length_cons]
      omega

theorem leave_gone (l : List Int) (c : Int) : hasL (withoutL l [c]) c = false := by
  rw [hasL_not]
  intro h
  unfold withoutL at h
  have := (List.mem_filter.1 h).2
  simp [hasL] at this

theorem without_all (l : List Int) : withoutL l l = [] := by
  unfold withoutL
  rw [List.filter_eq_nil_iff]
  intro a ha
  rw [(hasL_iff l a).2 ha]
  simp

theorem without_place (l g : List Int) (k : Nat) (h : k < l.length) (hn : hasL g l[k] = false) :
    ∃ hj : (withoutL (l.take k) g).length < (withoutL l g).length, (withoutL l g)[(withoutL (l.take k) g).length] = l[k] := by
  have e : withoutL l g = withoutL (l.take k) g ++ l[k] :: withoutL (l.drop (k + 1)) g := by
    conv => lhs; rw [← List.take_append_drop k l, List.drop_eq_getElem_cons h]
    unfold withoutL
    rw [List.filter_append, List.filter_cons, if_pos (by rw [hn]; rfl)]
  have hl : (withoutL (l.take k) g).length < (withoutL l g).length := by rw [e, List.length_append, List.length_cons]; omega
  refine ⟨hl, ?_⟩
  simp only [e]
  rw [List.getElem_append_right (Nat.le_refl _)]
  simp

theorem without_take (l g : List Int) (k : Nat) (h : k < l.length) : (withoutL (l.take (k + 1)) g).length = (withoutL (l.take k) g).length + if hasL g l[k] then 0 else 1 := by
  rw [withoutL_succ l g k h, List.length_append]
  cases hasL g l[k] <;> simp

theorem ownI_at {w : World} {base g n cap : Nat} {M : List Int} (h : w.ownsRow base 3 1 (.slice (some ⟨g, 0, none⟩) n cap) n (flatX cellsI M)) (hn : M.length = n) (k : Nat) (hk : k < M.length) :
    w.cell? ⟨g, k, none⟩ = some (.int .i64 M[k]) ∧ ∀ j, w.frozen? ⟨g, j, none⟩ = false := by
  have a0 := h.cellAt (k * 1 + 0) (by omega)
  rw [flatX_get cellsI_length M k hk 0 (by omega)] at a0
  rw [Nat.mul_one, Nat.add_zero] at a0
  exact ⟨a0, fun j => h.frozenAt j⟩

theorem ownI_set {w : World} {base g n cap : Nat} {M : List Int} (h : w.ownsRow base 3 1 (.slice (some ⟨g, 0, none⟩) n cap) n (flatX cellsI M)) (k : Nat) (hk : k < M.length) (r : Int) :
    (w.setCell ⟨g, k, none⟩ (.int .i64 r)).ownsRow base 3 1 (.slice (some ⟨g, 0, none⟩) n cap) n (flatX cellsI (M.set k r)) := by
  have h1 := (h.stored (k * 1 + 0) (.int .i64 r)).1
  rw [flatX_set cellsI_length 0 (.int .i64 r) (by omega) r M k hk rfl] at h1
  rw [Nat.mul_one, Nat.add_zero] at h1
  exact h1
end Cm
end Go.Proofs.Ytgpiaibklokhmaa
