/- Facts for ReplyRefuses: what makes a reply one that may not be; a row of locks written over. -/
import Derived.Test.YtklnopgnlnfbnaaLaw5B
import Derived.Deep.RegionLaw
set_option linter.unusedVariables false
set_option linter.unusedSimpArgs false
namespace Go.Proofs.Ytklnopgnlnfbnaa
open Go.RowKit
namespace Cm

theorem held_bad (l : List GrantV) : ∀ p, ∀ g ∈ l, (nameF g.name = false ∨ highF g.token 1 = false) → heldOk p l = false := by
  induction l with
  | nil => intro p g hg; cases hg
  | cons x l ih =>
    intro p g hg hb
    unfold heldOk
    rcases List.mem_cons.1 hg with rfl | hg
    · unfold grantOk
      rcases hb with hb | hb
      · rw [hb]; simp
      · rw [hb]; simp
    · rw [ih _ g hg hb, Bool.and_false]

theorem lastN_some (l : List GrantV) : ∀ p (h : 0 < l.length), lastN p l = some (l[l.length - 1]'(by omega)).name := by
  induction l with
  | nil => intro p h; exact absurd h (Nat.lt_irrefl _)
  | cons x l ih =>
    intro p h
    unfold lastN
    cases l with
    | nil => rfl
    | cons y l => rw [ih _ (by simp)]; simp

theorem held_twice (l : List GrantV) (h : 0 < l.length) : heldOk none (l ++ [l[l.length - 1]'(by omega)]) = false := by
  rw [heldOk_snoc]
  unfold grantOk
  rw [lastN_some l none h]
  dsimp only
  rcases less_tri (l[l.length - 1]'(by omega)).name (l[l.length - 1]'(by omega)).name with ⟨_, _, h3⟩ | ⟨_, _, h3⟩ | ⟨_, h3⟩
  · exact absurd rfl h3
  · exact absurd rfl h3
  · rw [h3, Bool.and_false, Bool.and_false]

theorem name_under (n : List UInt8) : nameF (n ++ [95]) = false := by
  unfold nameF
  have e : (n ++ [(95 : UInt8)]).all nameB = false := by
    rw [List.all_append]
    have : ([(95 : UInt8)]).all nameB = false := by decide
    rw [this, Bool.and_false]
  simp only [e, Bool.and_false, Bool.false_and]

theorem may_held {k s d : Int} {l : List GrantV} (h : heldOk none l = false) : mayP ⟨k, s, d, l⟩ = false := by
  unfold mayP
  dsimp only
  rw [h, Bool.and_false]

theorem may_alone {k d : Int} {l : List GrantV} (h : 0 < l.length) : mayP ⟨k, 0, d, l⟩ = false := by
  rw [mayP_told]
  have e : decide (l.length = 0) = false := by simp; intro q; subst q; simp at h
  rw [e]
  simp

theorem may_ahead {k s d : Int} {l : List GrantV} (h : 3 < d) : mayP ⟨k, s, d, l⟩ = false := by
  rw [mayP_told]
  have e : decide (d ≤ 3) = false := by simp; omega
  rw [e]
  simp

theorem may_code {k s d : Int} {l : List GrantV} (h : 12 < k) : mayP ⟨k, s, d, l⟩ = false := by
  rw [mayP_told]
  have e : decide (k ≤ 12) = false := by simp; omega
  rw [e]
  simp

theorem may_three {k s d : Int} {l : List GrantV} (h : mayP ⟨k, s, d, l⟩ = true) : mayP ⟨k, 3, d, l⟩ = true := by
  rw [mayP_told] at h ⊢
  simp only [Bool.and_eq_true, decide_eq_true_eq] at h
  obtain ⟨h1, h2, h3, h4, h5, h6, h7, h8⟩ := h
  simp [h1, h2, h5, h6, h7.1, h7.2]

theorem may_one {k s d : Int} {l : List GrantV} {n : List UInt8} (h : mayP ⟨k, s, d, l⟩ = true) (hn : nameF n = true) : mayP ⟨k, 3, d, [⟨n, 5⟩]⟩ = true := by
  rw [mayP_told] at h ⊢
  simp only [Bool.and_eq_true, decide_eq_true_eq] at h
  obtain ⟨h1, h2, h3, h4, h5, h6, h7, h8⟩ := h
  have e : heldOk none [⟨n, 5⟩] = true := by unfold heldOk grantOk highF; rw [hn]; rfl
  simp [h1, h2, h5, h6, e]

/-- What may not be is not put. -/
theorem RepPut_bad (r : ReplyV) (v : Value) (hm : mayP r = false) (w : World) (h : RdH w v r.held) : Calls Try.prog 10 #[repVal r v] w (fun e w' => ∃ a c, e = .returned (.tuple #[.slice a 0 c, .int .i64 1]) ∧ Below w.heap.size w w') := by
  refine (RepPut_any r v w h).mono fun e w' q => ?_
  unfold putP at q
  rw [hm, if_neg (by simp)] at q
  obtain ⟨u, q1, q2, q3⟩ := q
  obtain ⟨a, c, rfl⟩ := Rw.own_form q2
  exact ⟨a, c, q1, q3⟩

theorem RepPutAnswer_bad (r : AnsV) (v : Value) (hm : mayA r = false) (w : World) (h : RdH w v r.rep.held) : Calls Try.prog 19 #[ansVal r v] w (fun e w' => ∃ a c, e = .returned (.tuple #[.slice a 0 c, .int .i64 1]) ∧ Below w.heap.size w w') := by
  refine (RepPutAnswer_any r v w h).mono fun e w' q => ?_
  unfold putA at q
  rw [hm, if_neg (by simp)] at q
  obtain ⟨u, q1, q2, q3⟩ := q
  obtain ⟨a, c, rfl⟩ := Rw.own_form q2
  exact ⟨a, c, q1, q3⟩

theorem gCells_name (n : List UInt8) : ∀ (l : List GrantV) (i : Nat) (h : i < l.length), (gCells l).set (i * 2) (.string (bstr n)) = gCells (l.set i ⟨n, l[i].token⟩)
  | g :: l, 0, _ => rfl
  | g :: l, i + 1, h => by
    have := gCells_name n l i (by simpa using h)
    rw [show (i + 1) * 2 = i * 2 + 1 + 1 by omega]
    show _ :: _ :: (gCells l).set (i * 2) _ = _
    rw [this]
    rfl

theorem gCells_token (t : Int) : ∀ (l : List GrantV) (i : Nat) (h : i < l.length), (gCells l).set (i * 2 + 1) (.int .i64 t) = gCells (l.set i ⟨l[i].name, t⟩)
  | g :: l, 0, _ => rfl
  | g :: l, i + 1, h => by
    have := gCells_token t l i (by simpa using h)
    rw [show (i + 1) * 2 + 1 = (i * 2 + 1) + 1 + 1 by omega]
    show _ :: _ :: (gCells l).set (i * 2 + 1) _ = _
    rw [this]
    rfl

/-- A row of locks of one's own, and its cells. -/
structure OwnG (w : World) (base g cap : Nat) (l : List GrantV) : Prop where
  own : w.ownsRow base 49 2 (.slice (some ⟨g, 0, none⟩) l.length cap) l.length (gCells l)

theorem OwnG.rd {w : World} {base g cap : Nat} {l : List GrantV} (h : OwnG w base g cap l) : RdH w (.slice (some ⟨g, 0, none⟩) l.length cap) l := RdH.own h.own

theorem OwnG.token {w : World} {base g cap : Nat} {l : List GrantV} (h : OwnG w base g cap l) (i : Nat) (hi : i < l.length) (t : Int) : RdH (w.setCell ⟨g, i * 2 + 1, none⟩ (.int .i64 t)) (.slice (some ⟨g, 0, none⟩) l.length cap) (l.set i ⟨l[i].name, t⟩) := by
  have h1 := (h.own.stored (i * 2 + 1) (.int .i64 t)).1
  rw [gCells_token t l i hi] at h1
  have e : (l.set i ⟨l[i].name, t⟩).length = l.length := List.length_set
  rw [← e] at h1 ⊢
  exact RdH.own h1

theorem OwnG.name {w : World} {base g cap : Nat} {l : List GrantV} (h : OwnG w base g cap l) (i : Nat) (hi : i < l.length) (n : List UInt8) : RdH (w.setCell ⟨g, i * 2, none⟩ (.string (bstr n))) (.slice (some ⟨g, 0, none⟩) l.length cap) (l.set i ⟨n, l[i].token⟩) := by
  have h1 := (h.own.stored (i * 2) (.string (bstr n))).1
  rw [gCells_name n l i hi] at h1
  have e : (l.set i ⟨n, l[i].token⟩).length = l.length := List.length_set
  rw [← e] at h1 ⊢
  exact RdH.own h1

theorem OwnG.at {w : World} {base g cap : Nat} {l : List GrantV} (h : OwnG w base g cap l) (i : Nat) (hi : i < l.length) :
    w.cell? ⟨g, i * 2, none⟩ = some (.string (bstr l[i].name)) ∧ w.cell? ⟨g, i * 2 + 1, none⟩ = some (.int .i64 l[i].token) ∧ ∀ k, w.frozen? ⟨g, k, none⟩ = false := by
  obtain ⟨h1, h2⟩ := gCells_get l i hi
  have a1 := h.own.cellAt (i * 2) (by omega)
  have a2 := h.own.cellAt (i * 2 + 1) (by omega)
  rw [h1] at a1
  rw [h2] at a2
  exact ⟨a1, a2, fun k => h.own.frozenAt k⟩

theorem own_none (w : World) (base : Nat) (hb : base ≤ w.heap.size) : (w.alloc (.cells #[] 49)).ownsRow base 49 2 (.slice (some ⟨w.heap.size, 0, none⟩) 0 0) 0 [] :=
  own_lower (World.ownsRow_lit (base := w.heap.size) (e := 49) (size := 2) w #[] 0 (Nat.le_refl _) (by unfold maxLen; omega) rfl) hb
theorem own_none_at (w : World) (base H : Nat) (hH : w.heap.size = H) (hb : base ≤ H) : (w.alloc (.cells #[] 49)).ownsRow base 49 2 (.slice (some ⟨H, 0, none⟩) 0 0) 0 [] := by
  subst hH
  exact own_none w base hb

theorem gCells_one : ∀ l : List GrantV, ∀ u ∈ gCells l, u.oneCell' = true
  | [], u, h => by cases h
  | g :: l, u, h => by
    unfold gCells at h
    rcases List.mem_cons.1 h with rfl | h
    · rfl
    · rcases List.mem_cons.1 h with rfl | h
      · rfl
      · exact gCells_one l u h

theorem RdH.news {w : World} {b o n cap : Nat} {l : List GrantV} (h : RdH w (.slice (some ⟨b, o, none⟩) n cap) l) : ∀ j u, (gCells l)[j]? = some u → w.cell? ((⟨b, o, none⟩ : Addr).add j) = some u := by
  intro j u hu
  have hj : j < (gCells l).length := (List.getElem?_eq_some_iff.1 hu).1
  rw [gCells_length] at hj
  have hadd : (⟨b, o, none⟩ : Addr).add j = ⟨b, o + j, none⟩ := by unfold Addr.add; split <;> simp_all
  rw [hadd]
  obtain ⟨b', o', e, c1, c2⟩ := h.at (j / 2) (by omega) w (Below.refl _ _)
  cases e
  obtain ⟨g1, g2⟩ := gCells_get l (j / 2) (by omega)
  rcases Nat.mod_two_eq_zero_or_one j with q | q
  · have e : j / 2 * 2 = j := by omega
    rw [e] at c1 g1
    rw [g1] at hu
    rw [c1]; exact hu
  · have e : j / 2 * 2 + 1 = j := by omega
    have e' : o + j / 2 * 2 + 1 = o + j := by omega
    rw [e] at g2
    rw [e'] at c2
    rw [g2] at hu
    rw [c2]; exact hu

theorem grant_shape {w : World} {base m : Nat} {v : Value} {l : List GrantV} (hm : l.length = m) (h0 : 0 < m) (ho : w.ownsRow base 49 2 v (0 + m) ([] ++ gCells l)) :
    ∃ g cap, v = .slice (some ⟨g, 0, none⟩) m cap ∧ base ≤ g ∧ g < w.heap.size ∧ OwnG w base g cap l := by
  rw [List.nil_append, Nat.zero_add] at ho
  subst hm
  rcases ho.2 with ⟨_, h'⟩ | ⟨g, cap, cur, rfl, hb, hg, hc, _⟩
  · omega
  · exact ⟨g, cap, rfl, hb, get_lt hg, ⟨ho⟩⟩

theorem OwnG.later {w w' : World} {base g cap : Nat} {l : List GrantV} (h : OwnG w base g cap l) (hk : w'.heap[g]? = w.heap[g]?) : OwnG w' base g cap l :=
  ⟨Rw.own_keep h.own fun x hx => by cases hx; exact hk⟩

theorem held_twice_at (l : List GrantV) (M : Nat) (h : l.length = M + 1) : heldOk none (l ++ [l[M]]) = false := by
  have e := held_twice l (by omega)
  have : l[l.length - 1]'(by omega) = l[M] := by congr 1; omega
  rw [this] at e
  exact e

theorem bstr_under (n : List UInt8) : bstr n ++ { data := #[95] } = bstr (n ++ [95]) := by
  apply ByteArray.ext
  simp [bstr, ByteArray.data_append]

theorem pair_cells {w : World} {b : Nat} {x y : Value} {t : TypeId} (h : w.heap[b]? = some (.cells #[x, y] t)) : w.cell? ⟨b, 0, none⟩ = some x ∧ w.cell? ⟨b, 1, none⟩ = some y := by
  refine ⟨?_, ?_⟩ <;> simp [World.cell?, h]

/-- A field of a reply in its box, written over. -/
theorem set_code {w : World} {A : Nat} {k s d : Int} {v : Value} (h : w.heap[A]? = some (repBox k s d v)) (x : Int) : (w.setCell ⟨A, 0, none⟩ (.int .i64 x)).heap[A]? = some (repBox x s d v) := by
  have hl := get_lt h
  unfold repBox at h ⊢
  have h' : w.heap[A] = .cells #[.int .i64 k, .int .i64 s, .int .i64 d, v] 25 := by simpa [hl] using h
  simp [World.setCell, h', hl, Array.getElem_modify]
theorem set_session {w : World} {A : Nat} {k s d : Int} {v : Value} (h : w.heap[A]? = some (repBox k s d v)) (x : Int) : (w.setCell ⟨A, 1, none⟩ (.int .i64 x)).heap[A]? = some (repBox k x d v) := by
  have hl := get_lt h
  unfold repBox at h ⊢
  have h' : w.heap[A] = .cells #[.int .i64 k, .int .i64 s, .int .i64 d, v] 25 := by simpa [hl] using h
  simp [World.setCell, h', hl, Array.getElem_modify]
theorem set_ahead {w : World} {A : Nat} {k s d : Int} {v : Value} (h : w.heap[A]? = some (repBox k s d v)) (x : Int) : (w.setCell ⟨A, 2, none⟩ (.int .i64 x)).heap[A]? = some (repBox k s x v) := by
  have hl := get_lt h
  unfold repBox at h ⊢
  have h' : w.heap[A] = .cells #[.int .i64 k, .int .i64 s, .int .i64 d, v] 25 := by simpa [hl] using h
  simp [World.setCell, h', hl, Array.getElem_modify]
end Cm
end Go.Proofs.Ytklnopgnlnfbnaa
