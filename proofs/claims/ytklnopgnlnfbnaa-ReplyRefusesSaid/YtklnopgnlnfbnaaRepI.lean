/- Contracts: padlocklaw5's Reply: a reply that may be. -/
import Derived.Test.YtklnopgnlnfbnaaRepH
set_option linter.unusedVariables false
set_option linter.unusedSimpArgs false
namespace Go.Proofs.Ytklnopgnlnfbnaa
open Go.RowKit
namespace Cm

def nameAt : Nat → List UInt8
  | 0 => [97]
  | 1 => [98]
  | 2 => [107, 101, 121, 45, 49]
  | 3 => [108, 111, 99, 107]
  | _ => [120]

theorem nameAt_name (i : Nat) (h : i < 5) : nameF (nameAt i) = true := by
  match i, h with
  | 0, _ => decide
  | 1, _ => decide
  | 2, _ => decide
  | 3, _ => decide
  | 4, _ => decide

theorem nameAt_less (i j : Nat) (h : i < j) (hj : j < 5) : Op.bytesLess (nameAt i) (nameAt j) = true := by
  have : ∀ i : Fin 5, ∀ j : Fin 5, i.1 < j.1 → Op.bytesLess (nameAt i.1) (nameAt j.1) = true := by decide
  exact this ⟨i, by omega⟩ ⟨j, hj⟩ h

def lastN : Option (List UInt8) → List GrantV → Option (List UInt8)
  | p, [] => p
  | _, g :: l => lastN (some g.name) l

theorem heldOk_snoc (l : List GrantV) (g : GrantV) : ∀ p, heldOk p (l ++ [g]) = (heldOk p l && grantOk (lastN p l) g) := by
  induction l with
  | nil => intro p; simp [heldOk, lastN]
  | cons x l ih =>
    intro p
    rw [List.cons_append, heldOk, ih, heldOk, lastN, Bool.and_assoc]

theorem lastN_mem (l : List GrantV) : ∀ p, lastN p l = p ∨ ∃ g ∈ l, lastN p l = some g.name := by
  induction l with
  | nil => intro p; exact .inl rfl
  | cons x l ih =>
    intro p
    rw [lastN]
    rcases ih (some x.name) with h | ⟨g, hg, h⟩
    · exact .inr ⟨x, List.mem_cons_self, h⟩
    · exact .inr ⟨g, List.mem_cons_of_mem _ hg, h⟩

/-- Names that rise, tokens that may be, the names among the first j. -/
structure Ris (G : List GrantV) (j : Nat) : Prop where
  ok : heldOk none G = true
  names : ∀ g ∈ G, ∃ i, i < j ∧ g.name = nameAt i

theorem Ris.more {G : List GrantV} {j : Nat} (h : Ris G j) : Ris G (j + 1) :=
  ⟨h.ok, fun g hg => by obtain ⟨i, hi, e⟩ := h.names g hg; exact ⟨i, by omega, e⟩⟩

theorem Ris.push {G : List GrantV} {j : Nat} (h : Ris G j) (hj : j < 5) (t : Nat) (ht : t < 256) : Ris (G ++ [⟨nameAt j, 1 + (t : Int)⟩]) (j + 1) := by
  refine ⟨?_, fun g hg => ?_⟩
  · rw [heldOk_snoc, h.ok, Bool.true_and]
    unfold grantOk highF
    rw [nameAt_name j hj]
    have e1 : (decide (1 ≤ 1 + (t : Int)) && decide (1 + (t : Int) ≤ 2305843009213693952)) = true := by simp; omega
    dsimp only
    rw [e1]
    rcases lastN_mem G none with q | ⟨g, hg, q⟩
    · rw [q]
      rfl
    · obtain ⟨i, hi, e⟩ := h.names g hg
      rw [q, e]
      exact nameAt_less i j hi hj
  · rcases List.mem_append.1 hg with q | q
    · obtain ⟨i, hi, e⟩ := h.names g q
      exact ⟨i, by omega, e⟩
    · rw [List.mem_singleton] at q
      subst q
      exact ⟨j, by omega, rfl⟩

def nameObj : Obj := .cells #[.string (bstr (nameAt 0)), .string (bstr (nameAt 1)), .string (bstr (nameAt 2)), .string (bstr (nameAt 3)), .string (bstr (nameAt 4))] 9

/-- While a reply is made: its place, its box, the names, the list so far. -/
structure GW (w : World) (k s d : Int) (v : Value) (G : List GrantV) (wr : World) : Prop where
  below : Below w.heap.size w wr
  zero : wr.heap[w.heap.size]? = some repZero
  box : wr.heap[w.heap.size + 1]? = some (repBox k s d v)
  names : wr.heap[w.heap.size + 1 + 1]? = some nameObj
  own : wr.ownsRow (w.heap.size + 1 + 1 + 1) 49 2 v G.length (gCells G)

theorem GW.later {w : World} {k s d : Int} {v : Value} {G : List GrantV} {wr wr' : World} (h : GW w k s d v G wr) (hb : Below wr.heap.size wr wr') : GW w k s d v G wr' :=
  ⟨h.below.trans (hb.mono h.below.size), (hb.block _ (get_lt h.zero)).trans h.zero, (hb.block _ (get_lt h.box)).trans h.box, (hb.block _ (get_lt h.names)).trans h.names, Rw.own_below h.own hb⟩

theorem GW.grown {w : World} {k s d : Int} {v v' : Value} {G : List GrantV} {xs : List Value} {n : Nat} {w1 w2 : World} (h : GW w k s d v G w1) (hg : w1.grownBy w2 v.ownBlock) :
    Below w.heap.size w w2 ∧ w2.heap[w.heap.size]? = some repZero ∧ w2.heap[w.heap.size + 1]? = some (repBox k s d v) ∧ w2.heap[w.heap.size + 1 + 1]? = some nameObj := by
  have hne : ∀ x, x < w.heap.size + 1 + 1 + 1 → some x ≠ v.ownBlock := fun x hx q => by
    have := (Rw.own_lt h.own x q.symm).1
    omega
  exact ⟨h.below.grown hg h.below.size (fun x hx => by have := (Rw.own_lt h.own x hx).1; omega), (hg.block _ (get_lt h.zero) (hne _ (by omega))).trans h.zero, (hg.block _ (get_lt h.box) (hne _ (by omega))).trans h.box, (hg.block _ (get_lt h.names) (hne _ (by omega))).trans h.names⟩

theorem GW.push {w : World} {k s d : Int} {v v' : Value} {G : List GrantV} {g : GrantV} {w1 w2 : World} (h : GW w k s d v G w1)
    (ho : w2.ownsRow (w.heap.size + 1 + 1 + 1) 49 2 v' (G.length + 1) (gCells G ++ [.string (bstr g.name), .int .i64 g.token])) (hg : w1.grownBy w2 v.ownBlock) : GW w k s d v' (G ++ [g]) (w2.setCell ⟨w.heap.size + 1, 3, none⟩ v') := by
  obtain ⟨h1, h2, h3, h4⟩ := h.grown (v' := v) (xs := []) (n := 0) hg
  refine ⟨h1.setCell (by show w.heap.size ≤ w.heap.size + 1; omega) _, ?_, set_box h3 v', ?_, ?_⟩
  · rw [Below.heap_setCell _ _ _ _ (by show w.heap.size ≠ w.heap.size + 1; omega)]
    exact h2
  · rw [Below.heap_setCell _ _ _ _ (by show w.heap.size + 1 + 1 ≠ w.heap.size + 1; omega)]
    exact h4
  · rw [List.length_append, gCells_snoc]
    refine Rw.own_keep ho fun x hx => ?_
    have := (Rw.own_lt ho x hx).1
    exact Below.heap_setCell _ _ _ _ (by show x ≠ w.heap.size + 1; omega)

theorem GW.name {w : World} {k s d : Int} {v : Value} {G : List GrantV} {wr : World} (h : GW w k s d v G wr) (i : Nat) (hi : i < 5) : wr.cell? ⟨w.heap.size + 1 + 1, i, none⟩ = some (.string (bstr (nameAt i))) := by
  have hz := h.names
  unfold nameObj at hz
  match i, hi with
  | 0, _ => simp [World.cell?, hz]
  | 1, _ => simp [World.cell?, hz]
  | 2, _ => simp [World.cell?, hz]
  | 3, _ => simp [World.cell?, hz]
  | 4, _ => simp [World.cell?, hz]

theorem alloc_at (w : World) (o : Obj) : (w.alloc o).heap[w.heap.size]? = some o := by
  show (w.heap.push o)[w.heap.size]? = _
  simp

theorem GW.start (w : World) (k s d : Int) : GW w k s d (.slice none 0 0) [] (((w.alloc repZero).alloc (repBox k s d (.slice none 0 0))).alloc nameObj) := by
  have e1 : (w.alloc repZero).heap.size = w.heap.size + 1 := by simp
  have e2 : ((w.alloc repZero).alloc (repBox k s d (.slice none 0 0))).heap.size = w.heap.size + 1 + 1 := by simp
  refine ⟨stepAlloc (stepAlloc (newAlloc _ _) _) _, ?_, ?_, ?_, World.ownsRow_nil _ _ _ _⟩
  · exact ((stepAlloc (newAlloc (w.alloc repZero) (repBox k s d (.slice none 0 0))) nameObj).block _ (by rw [e1]; omega)).trans (alloc_at w _)
  · rw [← e1]
    exact ((newAlloc ((w.alloc repZero).alloc (repBox k s d (.slice none 0 0))) nameObj).block _ (by rw [e1, e2]; omega)).trans (alloc_at _ _)
  · rw [← e2]
    exact alloc_at _ _

theorem GW.zc {w : World} {k s d : Int} {v : Value} {G : List GrantV} {wr : World} (h : GW w k s d v G wr) :
    wr.cell? ⟨w.heap.size, 0, none⟩ = some (.int .i64 0) ∧ wr.cell? ⟨w.heap.size, 1, none⟩ = some (.int .i64 0) ∧ wr.cell? ⟨w.heap.size, 2, none⟩ = some (.int .i64 0) ∧ wr.cell? ⟨w.heap.size, 3, none⟩ = some (.slice none 0 0) ∧ ∀ k, wr.frozen? ⟨w.heap.size, k, none⟩ = false := by
  have hz := h.zero
  unfold repZero at hz
  refine ⟨?_, ?_, ?_, ?_, ?_⟩ <;> simp [World.cell?, World.frozen?, hz]

theorem GW.fin {w : World} {k s d : Int} {v : Value} {G : List GrantV} {wr : World} (h : GW w k s d v G wr) (x y z u : Value) :
    ((((wr.setCell ⟨w.heap.size, 0, none⟩ x).setCell ⟨w.heap.size, 1, none⟩ y).setCell ⟨w.heap.size, 2, none⟩ z).setCell ⟨w.heap.size, 3, none⟩ u).ownsRow (w.heap.size + 1) 49 2 v G.length (gCells G) := by
  refine own_lower (base := w.heap.size + 1 + 1 + 1) (Rw.own_keep h.own fun g hg => ?_) (by omega)
  have h1 := (Rw.own_lt h.own g hg).1
  rw [Below.heap_setCell _ _ _ _ (by show g ≠ w.heap.size; omega), Below.heap_setCell _ _ _ _ (by show g ≠ w.heap.size; omega), Below.heap_setCell _ _ _ _ (by show g ≠ w.heap.size; omega), Below.heap_setCell _ _ _ _ (by show g ≠ w.heap.size; omega)]

theorem step_append_own {P : Program} {w : World} {ops : Array Oper} {o : Oper} {a : Act} {K : Act → World → Prop} {Q : Exit → Act → World → Prop} {E : Prop} (hgd : o.guard = none) (s x : Operand) (t : TypeId)
    (ho : o.op = .call { callee := .builtin .append, args := #[s, x], argTypes := #[t, t] })
    (base : Nat) (e : TypeId) (i : TypeInfo) (z : Value) (size bytes : Nat) (ht : P.underlying t = some (.slice e)) (hi : P.info? e = some i) (hz : i.zero = some z)
    (hsize : i.size = size) (hby : i.bytes = bytes) (hzs : z.cells.size = size) (hsz : 0 < size)
    (v : Value) (n : Nat) (xs : List Value) (hs : a.eval s = v) (hown : w.ownsRow base e size v n xs)
    (ad : Addr) (m c : Nat) (news : List Value) (hx : a.eval x = .slice (some ad) m c) (hl : news.length = m * size) (hnews : ∀ j u, news[j]? = some u → w.cell? (ad.add j) = some u) (h1 : ∀ u ∈ news, u.oneCell' = true)
    (h63 : n + m ≤ maxLen) (hbytes : (n + m) * bytes ≤ 140737488355328) (hbase : base ≤ w.heap.size)
    (h : ∀ v' w', w'.ownsRow base e size v' (n + m) (xs ++ news) → w.grownBy w' v.ownBlock → (v' = .slice none 0 0 ↔ v = .slice none 0 0 ∧ m = 0) → K (a.put o.dst v') w') :
    if Region.wanted o (yielded ops a.tmps) = true then Oper.wp P o a w K Q else E := by
  have hw : Region.wanted o (yielded ops a.tmps) = true := by simp [Region.wanted, hgd]
  rw [if_pos hw]
  exact wp_append_own w s x t ho base e i z size bytes ht hi hz hsize hby hzs hsz v n xs hs hown ad m c news hx hl hnews h1 h63 hbytes hbase h

/-- Some reply that may be; what it holds is new. -/
def MadeP (w : World) (e : Ending) (w' : World) : Prop :=
  ∃ r v, e = .returned (repVal r v) ∧ mayP r = true ∧ w'.ownsRow (w.heap.size + 1) 49 2 v r.held.length (gCells r.held) ∧ Below w.heap.size w w'

end Cm
end Go.Proofs.Ytklnopgnlnfbnaa
