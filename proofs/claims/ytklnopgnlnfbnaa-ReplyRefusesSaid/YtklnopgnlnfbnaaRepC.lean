/- Contracts: the document's MayAnswer, SameAnswer. -/
import Derived.Test.YtklnopgnlnfbnaaRepB
set_option linter.unusedVariables false
set_option linter.unusedSimpArgs false
namespace Go.Proofs.Ytklnopgnlnfbnaa
open Go.RowKit
namespace Cm

/-- An answer, as the machine holds it. -/
def ansVal (r : AnsV) (v : Value) : Value := .agg #[.int .i64 r.client, .int .i64 r.seq, .int .i64 r.rep.code, .int .i64 r.rep.session, .int .i64 r.rep.ahead, v]

/-- What lies in a new block of six, later. -/
theorem box6 {w w' : World} {x y z u v s : Value} {t : TypeId} (h : Below (w.alloc (.cells #[x, y, z, u, v, s] t)).heap.size (w.alloc (.cells #[x, y, z, u, v, s] t)) w') :
    w'.cell? ⟨w.heap.size, 0, none⟩ = some x ∧ w'.cell? ⟨w.heap.size, 1, none⟩ = some y ∧ w'.cell? ⟨w.heap.size, 2, none⟩ = some z ∧ w'.cell? ⟨w.heap.size, 3, none⟩ = some u ∧ w'.cell? ⟨w.heap.size, 4, none⟩ = some v ∧ w'.cell? ⟨w.heap.size, 5, none⟩ = some s := by
  have hl : w.heap.size < (w.alloc (.cells #[x, y, z, u, v, s] t)).heap.size := by simp
  refine ⟨?_, ?_, ?_, ?_, ?_, ?_⟩
  · rw [h.cell (p := ⟨w.heap.size, 0, none⟩) hl]; simp [go_sem]
  · rw [h.cell (p := ⟨w.heap.size, 1, none⟩) hl]; simp [go_sem]
  · rw [h.cell (p := ⟨w.heap.size, 2, none⟩) hl]; simp [go_sem]
  · rw [h.cell (p := ⟨w.heap.size, 3, none⟩) hl]; simp [go_sem]
  · rw [h.cell (p := ⟨w.heap.size, 4, none⟩) hl]; simp [go_sem]
  · rw [h.cell (p := ⟨w.heap.size, 5, none⟩) hl]; simp [go_sem]

theorem free4 {w w' : World} {x y z u : Value} {t : TypeId} (h : Below (w.alloc (.cells #[x, y, z, u] t)).heap.size (w.alloc (.cells #[x, y, z, u] t)) w') :
    ∀ k, w'.frozen? ⟨w.heap.size, k, none⟩ = false := by
  intro k
  have hl : w.heap.size < (w.alloc (.cells #[x, y, z, u] t)).heap.size := by simp
  rw [h.frozen (p := ⟨w.heap.size, k, none⟩) hl]
  simp [go_sem]

theorem free6 {w w' : World} {x y z u v s : Value} {t : TypeId} (h : Below (w.alloc (.cells #[x, y, z, u, v, s] t)).heap.size (w.alloc (.cells #[x, y, z, u, v, s] t)) w') :
    ∀ k, w'.frozen? ⟨w.heap.size, k, none⟩ = false := by
  intro k
  have hl : w.heap.size < (w.alloc (.cells #[x, y, z, u, v, s] t)).heap.size := by simp
  rw [h.frozen (p := ⟨w.heap.size, k, none⟩) hl]
  simp [go_sem]

theorem RefMayAnswer_any (r : AnsV) (v : Value) (w : World) (h : RdH w v r.rep.held) : Calls Try.prog 24 #[ansVal r v] w (SaysB (mayA r) w) := by
  obtain ⟨c, q, m⟩ := r
  have C1 := Lib.hid (fun w => high_any q 1 w)
  have C2 : Hid (∀ w', Below w.heap.size w w' → Calls Try.prog 15 #[repVal m v] w' (SaysB (mayP m) w')) := fun w' hb => MayReply_any m v w' (h.later hb)
  clear h
  unfold ansVal mayA
  unfold repVal at C2
  obtain ⟨k, s, d, l⟩ := m
  dsimp only at C2 ⊢
  by_cases h0 : 0 ≤ c
  · have d0 : decide (0 ≤ c) = true := decide_eq_true h0
    by_cases h1 : c < 8
    · have d1 : decide (c < 8) = true := decide_eq_true h1
      cases hh : highF q 1
      all_goals
        have H := Lib.hid hh
        clear hh
        go_enter Try.func24, Try.ntmps24
        go_wp2_with (first
          | (go_at_call 40; refine (C1.out _).mono ?_; rw [H.out]; rintro e w' ⟨rfl, rfl⟩)
          | (go_at_call 15; refine (C2.out _ (newAlloc _ _)).mono ?_; rintro e w' ⟨rfl, hb⟩))
        go_ret
        first
          | exact ⟨by simp [h0, h1], newAlloc _ _⟩
          | exact ⟨by simp [h0, h1], step (newAlloc _ _) hb⟩
    · have d1 : decide (c < 8) = false := decide_eq_false h1
      go_enter Try.func24, Try.ntmps24
      go_wp2
      go_ret
      exact ⟨by simp [h0, h1], newAlloc _ _⟩
  · have d0 : decide (0 ≤ c) = false := decide_eq_false h0
    go_enter Try.func24, Try.ntmps24
    go_wp2
    go_ret
    exact ⟨by simp [h0], newAlloc _ _⟩

def sameA (r q : AnsV) : Bool := decide (r.client = q.client) && decide (r.seq = q.seq) && sameP r.rep q.rep
theorem sameA_iff (r q : AnsV) : sameA r q = true ↔ r = q := by
  obtain ⟨a, b, c⟩ := r
  obtain ⟨a', b', c'⟩ := q
  unfold sameA
  simp [sameP_iff, and_assoc]

set_option maxHeartbeats 1000000 in
theorem SameAnswer_any (r q : AnsV) (u v : Value) (w : World) (h : RdH w u r.rep.held) (h2 : RdH w v q.rep.held) :
    Calls Try.prog 25 #[ansVal r u, ansVal q v] w (SaysB (sameA r q) w) := by
  obtain ⟨c, n, m⟩ := r
  obtain ⟨c', n', m'⟩ := q
  have C : Hid (∀ w', Below w.heap.size w w' → Calls Try.prog 16 #[repVal m u, repVal m' v] w' (SaysB (sameP m m') w')) := fun w' hb => SameReply_any _ _ _ _ _ (h.later hb) (h2.later hb)
  clear h h2
  unfold ansVal sameA
  unfold repVal at C
  dsimp only at C ⊢
  generalize sameP m m' = b at *
  obtain ⟨k, s, d, l⟩ := m
  obtain ⟨k', s', d', l'⟩ := m'
  dsimp only at C ⊢
  by_cases e1 : c = c'
  · subst e1
    by_cases e2 : n = n'
    · subst e2
      go_enter Try.func25, Try.ntmps25
      go_wp2_with (go_at_call 16; refine (C.out _ (stepAlloc (newAlloc _ _) _)).mono ?_; rintro e w1 ⟨rfl, hb1⟩)
      go_ret
      exact ⟨by simp, step (stepAlloc (newAlloc _ _) _) hb1⟩
    · have d1 : (n == n') = false := by simpa using e2
      go_enter Try.func25, Try.ntmps25
      go_wp2
      go_ret
      exact ⟨by simp [e2], stepAlloc (newAlloc _ _) _⟩
  · have d1 : (c == c') = false := by simpa using e1
    go_enter Try.func25, Try.ntmps25
    go_wp2
    go_ret
    exact ⟨by simp [e1], stepAlloc (newAlloc _ _) _⟩
end Cm
end Go.Proofs.Ytklnopgnlnfbnaa
