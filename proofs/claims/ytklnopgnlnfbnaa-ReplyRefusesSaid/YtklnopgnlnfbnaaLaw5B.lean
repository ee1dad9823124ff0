/- Facts for the statements of layer 5: names that rise are distinct; a reply made. -/
import Derived.Test.YtklnopgnlnfbnaaLaw5
import Derived.Test.YtklnopgnlnfbnaaRepJ
import Derived.Test.YtklnopgnlnfbnaaLaw4C
set_option linter.unusedVariables false
set_option linter.unusedSimpArgs false
namespace Go.Proofs.Ytklnopgnlnfbnaa
open Go.RowKit
namespace Cm

theorem less_trans : ∀ a b c : List UInt8, Op.bytesLess a b = true → Op.bytesLess b c = true → Op.bytesLess a c = true := by
  intro a
  induction a with
  | nil => intro b c h1 h2; cases b <;> cases c <;> simp_all [Op.bytesLess]
  | cons x a ih =>
    intro b c h1 h2
    cases b with
    | nil => simp [Op.bytesLess] at h1
    | cons y b =>
      cases c with
      | nil => simp [Op.bytesLess] at h2
      | cons z c =>
        simp only [Op.bytesLess, Bool.or_eq_true, Bool.and_eq_true, decide_eq_true_eq, beq_iff_eq] at h1 h2 ⊢
        rcases h1 with h1 | ⟨rfl, h1⟩
        · rcases h2 with h2 | ⟨rfl, h2⟩
          · exact .inl (Nat.lt_trans h1 h2)
          · exact .inl h1
        · rcases h2 with h2 | ⟨rfl, h2⟩
          · exact .inl h2
          · exact .inr ⟨rfl, ih _ _ h1 h2⟩

theorem less_ne (a b : List UInt8) (h : Op.bytesLess a b = true) : a ≠ b := fun e => by
  subst e
  rcases less_tri a a with ⟨_, _, h3⟩ | ⟨_, _, h3⟩ | ⟨_, h3⟩
  · exact h3 rfl
  · exact h3 rfl
  · rw [h3] at h; cases h

theorem held_above (l : List GrantV) : ∀ q, heldOk (some q) l = true → ∀ x ∈ l, Op.bytesLess q x.name = true := by
  induction l with
  | nil => intro q _ x hx; cases hx
  | cons g l ih =>
    intro q h x hx
    unfold heldOk grantOk at h
    simp only [Bool.and_eq_true] at h
    rcases List.mem_cons.1 hx with rfl | hx
    · exact h.1.2
    · exact less_trans _ _ _ h.1.2 (ih _ h.2 x hx)

theorem tokenF_at (l : List GrantV) : ∀ p, heldOk p l = true → ∀ j (h : j < l.length), tokenF l l[j].name = l[j].token := by
  induction l with
  | nil => intro p _ j h; exact absurd h (Nat.not_lt_zero _)
  | cons g l ih =>
    intro p h j hj
    unfold heldOk at h
    simp only [Bool.and_eq_true] at h
    cases j with
    | zero => simp [tokenF]
    | succ j =>
      have hj' : j < l.length := by simpa using hj
      have hne := less_ne _ _ (held_above l g.name h.2 l[j] (List.getElem_mem _))
      show tokenF (g :: l) l[j].name = l[j].token
      unfold tokenF
      rw [if_neg hne]
      exact ih _ h.2 j hj'

theorem tokenF_none (n : List UInt8) : ∀ l : List GrantV, (∀ g ∈ l, g.name ≠ n) → tokenF l n = 0
  | [], _ => rfl
  | g :: l, h => by
    unfold tokenF
    rw [if_neg (h g List.mem_cons_self)]
    exact tokenF_none n l (fun x hx => h x (List.mem_cons_of_mem _ hx))

theorem heldOk_names (l : List GrantV) : ∀ p, heldOk p l = true → ∀ g ∈ l, nameF g.name = true := by
  induction l with
  | nil => intro p _ g hg; cases hg
  | cons x l ih =>
    intro p h g hg
    unfold heldOk grantOk at h
    simp only [Bool.and_eq_true] at h
    rcases List.mem_cons.1 hg with rfl | hg
    · exact h.1.1.1
    · exact ih _ h.2 g hg

theorem mayP_held {k s d : Int} {l : List GrantV} (h : mayP ⟨k, s, d, l⟩ = true) : heldOk none l = true := by
  unfold mayP at h
  simp only [Bool.and_eq_true] at h
  exact h.2

/-- Some reply that may be, its slice written out. -/
def MadePS (w : World) (e : Ending) (w' : World) : Prop :=
  ∃ k s d l a p, e = .returned (.agg #[.int .i64 k, .int .i64 s, .int .i64 d, .slice a (List.length l) p]) ∧ mayP ⟨k, s, d, l⟩ = true ∧ RdH w' (.slice a l.length p) l ∧ Below w.heap.size w w'

theorem MadeP.s {w w' : World} {e : Ending} (h : MadeP w e w') : MadePS w e w' := by
  obtain ⟨⟨k, s, d, l⟩, v, he, hm, ho, hb⟩ := h
  obtain ⟨a, p, rfl⟩ := Rw.own_form ho
  exact ⟨k, s, d, l, a, p, he, hm, RdH.own ho, hb⟩

theorem cells4_later {w w' : World} {b : Nat} {x y z u : Value} (h : Below w.heap.size w w') (q : w.cell? ⟨b, 0, none⟩ = some x ∧ w.cell? ⟨b, 1, none⟩ = some y ∧ w.cell? ⟨b, 2, none⟩ = some z ∧ w.cell? ⟨b, 3, none⟩ = some u) :
    w'.cell? ⟨b, 0, none⟩ = some x ∧ w'.cell? ⟨b, 1, none⟩ = some y ∧ w'.cell? ⟨b, 2, none⟩ = some z ∧ w'.cell? ⟨b, 3, none⟩ = some u :=
  ⟨(h.cell (lt_of_cell q.1)).trans q.1, (h.cell (lt_of_cell q.2.1)).trans q.2.1, (h.cell (lt_of_cell q.2.2.1)).trans q.2.2.1, (h.cell (lt_of_cell q.2.2.2)).trans q.2.2.2⟩

theorem cells6_later {w w' : World} {b : Nat} {x y z u v s : Value} (h : Below w.heap.size w w') (q : w.cell? ⟨b, 0, none⟩ = some x ∧ w.cell? ⟨b, 1, none⟩ = some y ∧ w.cell? ⟨b, 2, none⟩ = some z ∧ w.cell? ⟨b, 3, none⟩ = some u ∧ w.cell? ⟨b, 4, none⟩ = some v ∧ w.cell? ⟨b, 5, none⟩ = some s) :
    w'.cell? ⟨b, 0, none⟩ = some x ∧ w'.cell? ⟨b, 1, none⟩ = some y ∧ w'.cell? ⟨b, 2, none⟩ = some z ∧ w'.cell? ⟨b, 3, none⟩ = some u ∧ w'.cell? ⟨b, 4, none⟩ = some v ∧ w'.cell? ⟨b, 5, none⟩ = some s :=
  ⟨(h.cell (lt_of_cell q.1)).trans q.1, (h.cell (lt_of_cell q.2.1)).trans q.2.1, (h.cell (lt_of_cell q.2.2.1)).trans q.2.2.1, (h.cell (lt_of_cell q.2.2.2.1)).trans q.2.2.2.1, (h.cell (lt_of_cell q.2.2.2.2.1)).trans q.2.2.2.2.1, (h.cell (lt_of_cell q.2.2.2.2.2)).trans q.2.2.2.2.2⟩
end Cm

theorem Rd.drop {w : World} {g N cap k : Nat} {T : List UInt8} (h : Rd w (.slice (some ⟨g, 0, none⟩) N cap) T) (hk : k ≤ N) : Rd w (.slice (some ⟨g, k, none⟩) (N - k) (cap - k)) (T.drop k) := by
  obtain ⟨a, len, c, hv, hl, hc, hmx, hn, hx⟩ := h.ex
  cases hv
  refine ⟨some ⟨g, k, none⟩, N - k, cap - k, rfl, by simp; omega, by omega, by omega, (fun q => by cases q), fun x hx' hp => ?_⟩
  cases hx'
  refine ⟨rfl, fun i hi => ?_⟩
  have := (hx _ rfl (by omega)).2 (k + i) (by omega)
  rw [Nat.zero_add] at this
  rw [this]
  have e : (T.drop k).getD i 0 = T.getD (k + i) 0 := by simp [List.getD, List.getElem?_drop]
  rw [e]

theorem Rd.cap {w : World} {a : Option Addr} {N cap : Nat} {T : List UInt8} (h : Rd w (.slice a N cap) T) : N ≤ cap := by
  obtain ⟨a', len, c, hv, hl, hc, hmx, hn, hx⟩ := h.ex
  cases hv
  exact hc
end Go.Proofs.Ytklnopgnlnfbnaa
