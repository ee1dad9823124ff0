/- Slices that read as lists: parts of them; appended to a row of one's own. No program is named here. -/
import Derived.Test.YtgpiaibklokhmaaGen
import Derived.Laws.AppendOwnNone
set_option linter.unusedVariables false
set_option linter.unusedSimpArgs false
namespace Go.Proofs.Ytgpiaibklokhmaa
open Go.RowKit

section
variable {α : Type} {sz : Nat} {f : α → List Value}

/-- The first k. -/
theorem RdX.take {w : World} {a : Option Addr} {n cap : Nat} {l : List α} (h : RdX sz f w (.slice a n cap) l) (k : Nat) (hk : k ≤ n) : RdX sz f w (.slice a k cap) (l.take k) := by
  obtain ⟨a', cap', hv, h1, h2, h3, h4⟩ := h.ex
  cases hv
  have hl : (l.take k).length = k := by rw [List.length_take]; omega
  refine ⟨a, cap, by rw [hl], by rw [hl]; omega, h2, fun q => ?_, fun x hx hne => ?_⟩
  · obtain ⟨q1, q2⟩ := h3 q
    subst q1
    exact ⟨by simp, q2⟩
  · obtain ⟨hs, hc⟩ := h4 x hx (by intro q; subst q; simp at hne)
    refine ⟨hs, fun i hi j u hu => ?_⟩
    have hi' : i < l.length := by rw [List.length_take] at hi; omega
    exact hc i hi' j u (by rw [← hu, List.getElem_take])

/-- Those from k on. -/
theorem RdX.drop (hsz : 0 < sz) {w : World} {a : Option Addr} {n cap : Nat} {l : List α} (h : RdX sz f w (.slice a n cap) l) (k : Nat) (hk : k ≤ n) :
    RdX sz f w (.slice (if cap = k then a else a.map (·.add (k * sz))) (n - k) (cap - k)) (l.drop k) := by
  obtain ⟨a', cap', hv, h1, h2, h3, h4⟩ := h.ex
  cases hv
  have hl : (l.drop k).length = l.length - k := List.length_drop
  refine ⟨_, cap - k, by rw [hl], by rw [hl]; omega, by omega, fun q => ?_, fun x hx hne => ?_⟩
  · have q' : a = none := by
      split at q
      · exact q
      · cases a <;> simp_all
    obtain ⟨q1, q2⟩ := h3 q'
    subst q1
    exact ⟨by simp, by omega⟩
  · have hkl : k < l.length := by
      rcases Nat.lt_or_ge k l.length with g | g
      · exact g
      · exact absurd (List.drop_eq_nil_of_le g) hne
    rw [if_neg (by omega)] at hx
    match a, hx, h4 with
    | some y, hx, h4 =>
      obtain ⟨hs, hc⟩ := h4 y rfl (by intro q; subst q; simp at hkl)
      obtain ⟨b, o, sp⟩ := y
      simp only at hs
      subst hs
      have hadd : (⟨b, o, none⟩ : Addr).add (k * sz) = ⟨b, o + k * sz, none⟩ := by unfold Addr.add; split <;> simp_all
      simp only [Option.map_some, hadd] at hx
      cases hx
      refine ⟨rfl, fun i hi j u hu => ?_⟩
      have hi' : k + i < l.length := by rw [hl] at hi; omega
      have e : (l.drop k)[i] = l[k + i] := List.getElem_drop
      have := hc (k + i) hi' j u (by rw [← hu, e])
      have e2 : o + ((k + i) * sz + j) = o + k * sz + (i * sz + j) := by rw [Nat.add_mul]; omega
      simp only at this ⊢
      rw [← e2]
      exact this

/-- A slice laid as it stands, of one. -/
theorem RdX.one {w : World} {b : Nat} {cs : Array Value} {t : TypeId} {y : α} (h : w.heap[b]? = some (.cells cs t)) (hcs : cs.toList = f y) : RdX sz f w (.slice (some ⟨b, 0, none⟩) 1 1) [y] := by
  refine ⟨some ⟨b, 0, none⟩, 1, rfl, Nat.le_refl _, by unfold maxLen; omega, (fun q => by cases q), fun x hx hp => ?_⟩
  cases hx
  refine ⟨rfl, fun i hi k u hu => ?_⟩
  obtain rfl : i = 0 := by simpa using hi
  have hu : (f y)[k]? = some u := hu
  rw [← hcs] at hu
  simp only [Nat.zero_mul, Nat.zero_add]
  simpa [World.cell?, h] using hu

theorem flatX_one (h1 : ∀ x : α, ∀ u ∈ f x, u.oneCell' = true) (l : List α) : ∀ u ∈ flatX f l, u.oneCell' = true := by
  intro u hu
  unfold flatX at hu
  obtain ⟨x, _, hx⟩ := List.mem_flatMap.1 hu
  exact h1 x u hx

/-- What reads as a list, appended to a row of one's own. -/
theorem wpList_append_rdx (hf : ∀ x, (f x).length = sz) (hsz : 0 < sz) (h1 : ∀ x : α, ∀ u ∈ f x, u.oneCell' = true) {P : Program} {w : World} {ops : Array Oper} {rest : List Oper} {o : Oper} {a : Act} {Q : Exit → Act → World → Prop} (hgd : o.guard = none) (s x : Operand) (t : TypeId)
    (ho : o.op = .call { callee := .builtin .append, args := #[s, x], argTypes := #[t, t] })
    (base : Nat) (e : TypeId) (i : TypeInfo) (z : Value) (bytes : Nat) (ht : P.underlying t = some (.slice e)) (hi : P.info? e = some i) (hz : i.zero = some z) (hsize : i.size = sz) (hby : i.bytes = bytes) (hzs : z.cells.size = sz)
    (v : Value) (n : Nat) (xs : List Value) (hs : a.eval s = v) (hown : w.ownsRow base e sz v n xs) (y : Value) (l : List α) (hx : a.eval x = y) (hr : RdX sz f w y l)
    (h63 : n + l.length ≤ maxLen) (hlen : (n + l.length) * bytes ≤ 140737488355328) (hbase : base ≤ w.heap.size)
    (h : ∀ v' w', w'.ownsRow base e sz v' (n + l.length) (xs ++ flatX f l) → w.grownBy w' v.ownBlock → wpList P ops Q rest (a.put o.dst v') w') : wpList P ops Q (o :: rest) a w := by
  obtain ⟨ao, cap, rfl, hc, hm, hn, hcells⟩ := hr.ex
  match ao, hn, hcells, hx, hr with
  | none, hn, _, hx, _ =>
    obtain ⟨rfl, rfl⟩ := hn rfl
    refine wpList_append_own_none hgd s x t ho base e i sz ht hi v n xs hs hown hx ?_
    exact h v w (by simpa [flatX] using hown) (World.grownBy.refl _ _)
  | some ad, _, hcells, hx, hr =>
    refine wpList_append_own w hgd s x t ho base e i z sz bytes ht hi hz hsize hby hzs hsz v n xs hs hown ad l.length cap (flatX f l) hx (by rw [flatX_length hf]) ?_ (flatX_one h1 l) h63 hlen hbase (fun v' w' h1 h2 _ => h v' w' h1 h2)
    intro j u hj
    have hl : l ≠ [] := by
      intro q
      subst q
      simp [flatX] at hj
    obtain ⟨hs', _⟩ := hcells ad rfl hl
    obtain ⟨b, off, spot⟩ := ad
    simp only at hs'
    subst hs'
    exact hr.news hf hsz j u hj
end
end Go.Proofs.Ytgpiaibklokhmaa
