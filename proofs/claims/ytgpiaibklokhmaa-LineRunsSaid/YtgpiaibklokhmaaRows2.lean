/- Rows that a call owns: what stays, two that grow side by side; slices that read as cells. No program is named here. -/
import Derived.Test.YtgpiaibklokhmaaBase
import Derived.Maps.AppendAt
import Derived.Deep.AppendLies
set_option linter.unusedVariables false
set_option linter.unusedSimpArgs false
namespace Go.Proofs.Ytgpiaibklokhmaa
open Go.RowKit
namespace Rw

/-- What the call owns stays so while its block does. -/
theorem own_keep {w w' : World} {base : Nat} {e : TypeId} {size n : Nat} {v : Value} {xs : List Value} (h : w.ownsRow base e size v n xs) (hb : ∀ g, v.ownBlock = some g → w'.heap[g]? = w.heap[g]?) : w'.ownsRow base e size v n xs := by
  refine ⟨h.1, ?_⟩
  rcases h.2 with ⟨rfl, hn⟩ | ⟨g, cap, cur, rfl, h1, h2, h3⟩
  · exact .inl ⟨rfl, hn⟩
  · exact .inr ⟨g, cap, cur, rfl, h1, by rw [hb g rfl]; exact h2, h3⟩

theorem own_lt {w : World} {base : Nat} {e : TypeId} {size n : Nat} {v : Value} {xs : List Value} (h : w.ownsRow base e size v n xs) (g : Nat) (hg : v.ownBlock = some g) : base ≤ g ∧ g < w.heap.size := by
  rcases h.2 with ⟨rfl, hn⟩ | ⟨g', cap, cur, rfl, h1, h2, h3⟩
  · cases hg
  · have : g' = g := by simpa [Value.ownBlock] using hg
    subst this
    refine ⟨h1, ?_⟩
    rcases Nat.lt_or_ge g' w.heap.size with q | q
    · exact q
    · rw [Array.getElem?_eq_none q] at h2; cases h2

theorem own_below {w w' : World} {base : Nat} {e : TypeId} {size n : Nat} {v : Value} {xs : List Value} (h : w.ownsRow base e size v n xs) (hb : Below w.heap.size w w') : w'.ownsRow base e size v n xs :=
  own_keep h fun g hg => hb.block g (own_lt h g hg).2

theorem own_alloc {w : World} {base : Nat} {e : TypeId} {size n : Nat} {v : Value} {xs : List Value} (h : w.ownsRow base e size v n xs) (o : Obj) : (w.alloc o).ownsRow base e size v n xs :=
  own_below h (newAlloc w o)

/-- Two rows lie apart. -/
def Apart (u v : Value) : Prop := ∀ g, u.ownBlock = some g → v.ownBlock ≠ some g

theorem Apart.symm {u v : Value} (h : Apart u v) : Apart v u := fun g hv hu => h g hu hv
theorem Apart.nil (v : Value) : Apart (.slice none 0 0) v := fun g h => by cases h

theorem own_other {w w' : World} {base : Nat} {e : TypeId} {size n : Nat} {u v : Value} {xs : List Value} (h : w.ownsRow base e size v n xs) (hg : w.grownBy w' u.ownBlock) (ha : Apart u v) : w'.ownsRow base e size v n xs :=
  own_keep h fun g q => hg.block g (own_lt h g q).2 (fun e => ha g e.symm q)

theorem apart_grown {w : World} {base : Nat} {e : TypeId} {size n : Nat} {u u' v : Value} {xs : List Value} (h : w.ownsRow base e size v n xs) (ha : Apart u v) (hat : u'.ownBlock = u.ownBlock ∨ u'.ownBlock = some w.heap.size) : Apart u' v := by
  intro g hg hv
  rcases hat with q | q
  · exact ha g (by rw [← q]; exact hg) hv
  · have := (own_lt h g hv).2
    rw [hg] at q
    injection q with q
    omega

theorem below_grown {B : Nat} {a w w' : World} {base : Nat} {e : TypeId} {size n : Nat} {v : Value} {xs : List Value} (h : Below B a w) (ho : w.ownsRow base e size v n xs) (hg : w.grownBy w' v.ownBlock) (hB : B ≤ base) (hs : B ≤ w.heap.size) : Below B a w' :=
  h.grown hg hs fun k hk => Nat.le_trans hB (own_lt ho k hk).1

theorem own_form {w : World} {base : Nat} {e : TypeId} {size n : Nat} {v : Value} {xs : List Value} (h : w.ownsRow base e size v n xs) : ∃ a c, v = .slice a n c := by
  rcases h.2 with ⟨rfl, hn⟩ | ⟨g, cap, cur, rfl, _⟩
  · subst hn; exact ⟨none, 0, rfl⟩
  · exact ⟨_, _, rfl⟩

/-- The slice v of n elements reads as these cells. -/
def RdN (w : World) (v : Value) (n : Nat) (xs : List Value) : Prop :=
  ∃ a cap, v = .slice a n cap ∧ n ≤ cap ∧ cap ≤ maxLen ∧ (a = none → n = 0 ∧ cap = 0) ∧ ∀ x, a = some x → 0 < n → x.spot = none ∧ ∀ i u, xs[i]? = some u → w.cell? ⟨x.block, x.off + i, none⟩ = some u

theorem RdN.later {w w' : World} {v : Value} {n : Nat} {xs : List Value} (h : RdN w v n xs) (hb : Below w.heap.size w w') : RdN w' v n xs := by
  obtain ⟨a, cap, hv, h1, h2, h3, h4⟩ := h
  refine ⟨a, cap, hv, h1, h2, h3, fun x hx hp => ?_⟩
  obtain ⟨hs, hc⟩ := h4 x hx hp
  exact ⟨hs, fun i u hi => by rw [hb.cell (p := ⟨x.block, x.off + i, none⟩) (lt_of_cell (hc i u hi))]; exact hc i u hi⟩

theorem RdN.own {w : World} {base : Nat} {e : TypeId} {size n : Nat} {v : Value} {xs : List Value} (h : w.ownsRow base e size v n xs) : RdN w v n xs := by
  rcases h.2 with ⟨rfl, hn⟩ | ⟨g, cap, cur, rfl, hb, hg, hn, hc, hs, ht⟩
  · exact ⟨none, 0, by rw [hn], by omega, by unfold maxLen; omega, fun _ => ⟨hn, rfl⟩, fun x hx => by cases hx⟩
  · refine ⟨some ⟨g, 0, none⟩, cap, rfl, hn, hc, (fun q => by cases q), fun x hx hp => ?_⟩
    cases hx
    refine ⟨rfl, fun i u hi => ?_⟩
    have hil : i < xs.length := (List.getElem?_eq_some_iff.1 hi).1
    rw [h.1] at hil
    have := h.cellAt (0 + i) (by rw [Nat.zero_add]; exact hil)
    rw [this, Nat.zero_add]
    exact hi

/-- What reads as bytes in a block that does not grow reads so still. -/
theorem rd_other {w w' : World} {u : Value} {g n cap : Nat} {bs : List UInt8} (h : Rd w (.slice (some ⟨g, 0, none⟩) n cap) bs) (hl : g < w.heap.size) (hg : w.grownBy w' u.ownBlock) (hne : u.ownBlock ≠ some g) : Rd w' (.slice (some ⟨g, 0, none⟩) n cap) bs := by
  have hb := hg.block g hl (fun e => hne e.symm)
  obtain ⟨a, len, c, hv, hle, hc, hmx, hn, hx⟩ := h.ex
  cases hv
  refine ⟨some ⟨g, 0, none⟩, n, cap, rfl, hle, hc, hmx, (fun q => by cases q), fun x hx' hp => ?_⟩
  cases hx'
  obtain ⟨h1, h2⟩ := hx _ rfl hp
  refine ⟨rfl, fun i hi => ?_⟩
  rw [World.cell?_of_block (w := w) (a := ⟨g, 0 + i, none⟩) hb]
  exact h2 i hi

theorem own_ne {w : World} {base : Nat} {e : TypeId} {size n : Nat} {v : Value} {xs : List Value} (h : w.ownsRow base e size v n xs) {g : Nat} (hg : w.heap.size ≤ g) : v.ownBlock ≠ some g := fun q => by
  have := (own_lt h g q).2
  omega

section
variable {P : Program} {w : World}
/-- Bytes appended to what the call owns: and where they lie. -/
theorem wpList_append_rd_at {ops : Array Oper} {rest : List Oper} {o : Oper} {a : Act} {Q : Exit → Act → World → Prop} (hgd : o.guard = none) (s x : Operand) (t : TypeId)
    (ho : o.op = .call { callee := .builtin .append, args := #[s, x], argTypes := #[t, t] })
    (base : Nat) (e : TypeId) (i : TypeInfo) (ht : P.underlying t = some (.slice e)) (hi : P.info? e = some i) (hz : i.zero = some (.int .u8 0)) (hsize : i.size = 1) (hby : i.bytes = 1)
    (v : Value) (n : Nat) (xs : List Value) (hs : a.eval s = v) (hown : w.ownsRow base e 1 v n xs) (y : Value) (bs : List UInt8) (hx : a.eval x = y) (hr : Rd w y bs)
    (hlen : n + bs.length ≤ 140737488355328) (hbase : base ≤ w.heap.size)
    (h : ∀ v' w', w'.ownsRow base e 1 v' (n + bs.length) (xs ++ cellsOf bs) → w.grownBy w' v.ownBlock → (v'.ownBlock = v.ownBlock ∨ v'.ownBlock = some w.heap.size) → wpList P ops Q rest (a.put o.dst v') w') : wpList P ops Q (o :: rest) a w := by
  obtain ⟨ao, len, cap, rfl, hl, hc, hm, hn, hcells⟩ := hr.ex
  match ao, hn, hcells with
  | none, hn, _ =>
    obtain ⟨rfl, rfl⟩ := hn rfl
    obtain rfl : bs = [] := List.length_eq_zero_iff.1 hl
    refine wpList_append_own_none hgd s x t ho base e i 1 ht hi v n xs hs hown hx ?_
    exact h v w (by simpa [cellsOf] using hown) (World.grownBy.refl _ _) (.inl rfl)
  | some ad, _, hcells =>
    refine wpList_append_own_at w hgd s x t ho base e i (.int .u8 0) 1 1 ht hi hz hsize hby rfl (by decide) v n xs hs hown ad len cap (cellsOf bs) hx (by rw [cellsOf_length]; omega) ?_ (cellsOf_one bs) (by unfold maxLen; omega) (by omega) hbase ?_
    · intro j u hj
      obtain ⟨hj', rfl⟩ := cellsOf_get bs j u hj
      obtain ⟨hs', hi'⟩ := hcells ad rfl (by omega)
      obtain ⟨b, off, spot⟩ := ad
      simp only at hs'
      subst hs'
      have hadd : (⟨b, off, none⟩ : Addr).add j = ⟨b, off + j, none⟩ := by unfold Addr.add; split <;> simp_all
      rw [hadd]
      exact hi' j (by omega)
    · intro v' w' h1 h2 _ h4
      rw [← hl] at h1
      exact h v' w' h1 h2 h4
end
end Rw
end Go.Proofs.Ytgpiaibklokhmaa
