/- LineFull's lines, as plain facts. -/
import Derived.Test.YtgpiaibklokhmaaLaw7
set_option linter.unusedVariables false
set_option linter.unusedSimpArgs false
namespace Go.Proofs.Ytgpiaibklokhmaa
open Go.RowKit
namespace Cm

/-- The first k that come, from r on. -/
def fullL (r k : Nat) : List Int := (List.range k).map fun t => (((r + t) % 8 : Nat) : Int)
theorem fullL_length (r k : Nat) : (fullL r k).length = k := by simp [fullL]

theorem full_join_all : ∀ r, r < 8 → ∀ k, k < 3 → joinL (fullL r k) (((r + k) % 8 : Nat) : Int) = (fullL r (k + 1), (k : Int), 0) := by decide +kernel
theorem full_more_all : ∀ r, r < 8 → ∀ i, i < 8 → 3 ≤ i → joinL (fullL r 3) (((r + i) % 8 : Nat) : Int) = ([], 0, 5) := by decide +kernel
theorem full_ahead_all : ∀ r, r < 8 → ∀ k, k < 3 → aheadL (fullL r 3) (((r + k) % 8 : Nat) : Int) = ((k : Int), true) := by decide +kernel

theorem join_nil (c : Int) : joinL [] c = if clientF c = true then ([c], 0, 0) else ([], 0, 1) := by
  unfold joinL
  cases clientF c <;> simp [hasL]

section
variable {α : Type} {sz : Nat} {f : α → List Value}
/-- One appended, and what grew: the row's own block alone. -/
theorem wpList_append_one_at (hf : ∀ x, (f x).length = sz) (hsz : 0 < sz) {P : Program} {ops : Array Oper} {rest : List Oper} {o : Oper} {a : Act} {Q : Exit → Act → World → Prop} {W : World} (hgd : o.guard = none) (s x : Operand) (t : TypeId)
    (ho : o.op = .call { callee := .builtin .append, args := #[s, x], argTypes := #[t, t] })
    (e : TypeId) (i : TypeInfo) (z : Value) (bytes : Nat) (ht : P.underlying t = some (.slice e)) (hi : P.info? e = some i) (hz : i.zero = some z) (hsize : i.size = sz) (hby : i.bytes = bytes) (hzs : z.cells.size = sz)
    (cs : Array Value) (y : α) (hcs : cs.toList = f y) (h1 : ∀ u ∈ f y, u.oneCell' = true) (M : List α) (base : Nat) (m : Value) (hs : a.eval s = m) (hx : a.eval x = .slice (some ⟨W.heap.size, 0, none⟩) 1 1)
    (hown : W.ownsRow base e sz m M.length (flatX f M)) (h63 : M.length + 1 ≤ maxLen) (hlen : (M.length + 1) * bytes ≤ 140737488355328) (hbase : base ≤ W.heap.size)
    (h : ∀ v' w', w'.ownsRow base e sz v' (M ++ [y]).length (flatX f (M ++ [y])) → (W.alloc (.cells cs e)).grownBy w' m.ownBlock → (v'.ownBlock = m.ownBlock ∨ v'.ownBlock = some (W.alloc (.cells cs e)).heap.size) → wpList P ops Q rest (a.put o.dst v') w') :
    wpList P ops Q (o :: rest) a (W.alloc (.cells cs e)) := by
  have hz1 : (W.alloc (.cells cs e)).heap.size = W.heap.size + 1 := by simp
  refine wpList_append_own_at (W.alloc (.cells cs e)) hgd s x t ho base e i z sz bytes ht hi hz hsize hby hzs hsz m M.length (flatX f M) hs (Rw.own_alloc hown _) ⟨W.heap.size, 0, none⟩ 1 1 (f y) hx (by rw [hf]; omega) ?_ h1 h63 hlen (by rw [hz1]; omega) ?_
  · rw [← hcs]
    exact World.news_of_block (w := W.alloc (.cells cs e)) (B := W.heap.size) (cs := cs) (t := e) (fr := (0, 0)) (by show (W.heap.push _)[W.heap.size]? = _; simp)
  · intro v' w' ho' hg _ hat
    refine h v' w' ?_ hg hat
    rw [List.length_append, flatX_snoc]
    exact ho'
end

theorem full_rem (F r i : Nat) (hr : F % 8 = r) : ((F : Int) + (i : Int)).tmod 8 = (((r + i) % 8 : Nat) : Int) := by
  rw [Int.tmod_eq_emod_of_nonneg (by omega)]
  omega
theorem own_later7 {w w' : World} {base : Nat} {e : TypeId} {v : Value} {n : Nat} {xs : List Value} (ho : w.ownsRow base e 1 v n xs) (hb : Below w.heap.size w w') : w'.ownsRow base e 1 v n xs := by
  refine ⟨ho.1, ?_⟩
  rcases ho.2 with h' | ⟨g, cap, cur, h1, h2, h3, r⟩
  · exact .inl h'
  · refine .inr ⟨g, cap, cur, h1, h2, ?_, r⟩
    rw [hb.block g (Array.getElem?_eq_some_iff.1 h3).1]
    exact h3

theorem without_hit (M : List Int) (g : Int) (k : Nat) (h : k < M.length) (e : M[k] = g) : withoutL (M.drop k) [g] = withoutL (M.drop (k + 1)) [g] := by
  rw [List.drop_eq_getElem_cons h]
  unfold withoutL
  rw [List.filter_cons, if_neg (by simp [hasL, e])]
theorem without_pass (M : List Int) (g : Int) (k : Nat) (h : k < M.length) (e : M[k] ≠ g) : withoutL (M.drop k) [g] = M[k] :: withoutL (M.drop (k + 1)) [g] := by
  rw [List.drop_eq_getElem_cons h]
  unfold withoutL
  rw [List.filter_cons, if_pos (by simp [hasL]; exact fun q => e q.symm)]

theorem join_three (M : List Int) (c : Int) (h : rightL M = true) (hc : clientF c = true) :
    (joinL M c = (M ++ [c], (M.length : Int), 0) ∧ M.length < 3 ∧ hasL M c = false) ∨ (joinL M c = ([], 0, 5) ∧ M.length = 3) ∨ (joinL M c = ([], 0, 7) ∧ hasL M c = true) := by
  have h3 := ((rightL_iff M).1 h).1
  unfold joinL
  rw [if_neg (by rw [hc]; simp)]
  cases hh : hasL M c with
  | true => exact .inr (.inr ⟨by simp, rfl⟩)
  | false =>
    rw [if_neg (by simp)]
    by_cases q : 3 ≤ M.length
    · exact .inr (.inl ⟨if_pos q, by omega⟩)
    · exact .inl ⟨if_neg q, by omega, rfl⟩
end Cm
end Go.Proofs.Ytgpiaibklokhmaa
