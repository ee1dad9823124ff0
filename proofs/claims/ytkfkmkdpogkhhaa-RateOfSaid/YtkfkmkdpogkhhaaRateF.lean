/- Rows of floats that grow side by side; what an argument's numbers read as. -/
import Derived.Test.YtkfkmkdpogkhhaaRateE
import Derived.Maps.AppendAt
set_option linter.unusedVariables false
set_option linter.unusedSimpArgs false
namespace Go.Proofs.Ytkfkmkdpogkhhaa
open Go.RowKit

/-- The words that an argument's numbers are. -/
def wordsOf (zs : List Int) (len : Nat) : List Nat := (zs.take len).map Int.toNat

theorem IsRow.rdl {k : IntKind} {w : World} {a : Option Addr} {len cap : Nat} {zs : List Int} (h : IsRow k w a len cap zs) : RdL w (.slice a len cap) ((zs.take len).map (Value.int k)) ∧ len ≤ zs.length := by
  rcases h with ⟨rfl, rfl, rfl, rfl⟩ | ⟨x, rfl, hl, hm, hz, hcell, hwz⟩
  · exact ⟨⟨none, 0, 0, rfl, rfl, Nat.le_refl _, by unfold maxLen; omega, fun _ => ⟨rfl, rfl⟩, fun x hx => by cases hx⟩, by simp⟩
  · refine ⟨⟨some x, len, cap, rfl, by simp; omega, hl, hm, (fun q => by cases q), fun y hy hp => ?_⟩, by omega⟩
    cases hy
    obtain ⟨b, off, spot⟩ := x
    have hc := hcell 0 (by omega)
    have hspot : spot = none := by simpa [Addr.add] using World.cell?_spot hc
    subst hspot
    refine ⟨rfl, fun i u hi => ?_⟩
    have hadd : (⟨b, off, none⟩ : Addr).add i = ⟨b, off + i, none⟩ := by unfold Addr.add; split <;> simp_all
    have hil : i < len ∧ i < zs.length := by
      have := (List.getElem?_eq_some_iff.1 hi).1
      simp at this
      omega
    have := hcell i (by omega)
    rw [hadd] at this
    rw [this, ← hi]
    simp [List.getD, List.getElem?_take, hil.1, List.getElem?_eq_getElem hil.2]

theorem IsRow.wf {k : IntKind} {w : World} {a : Option Addr} {len cap : Nat} {zs : List Int} (h : IsRow k w a len cap zs) : ∀ n ∈ zs, (Lit.int k n).wf = true := by
  rcases h with ⟨rfl, rfl, rfl, rfl⟩ | ⟨x, rfl, hl, hm, hz, hcell, hwz⟩
  · intro n hn; cases hn
  · exact hwz

theorem wordsOf_length (zs : List Int) (len : Nat) (h : len ≤ zs.length) : (wordsOf zs len).length = len := by
  unfold wordsOf; simp; omega

theorem wordsOf_getD (zs : List Int) (len i : Nat) (h : len ≤ zs.length) (hi : i < len) : (wordsOf zs len).getD i 0 = (zs.getD i 0).toNat := by
  unfold wordsOf
  simp [List.getD, List.getElem?_take, hi, List.getElem?_eq_getElem (show i < zs.length by omega)]

theorem wordsOf_lt {w : World} {a : Option Addr} {len cap : Nat} {zs : List Int} (h : IsRow .u64 w a len cap zs) : ∀ x ∈ wordsOf zs len, x < 18446744073709551616 := by
  intro x hx
  unfold wordsOf at hx
  obtain ⟨n, hn, rfl⟩ := List.mem_map.1 hx
  have := h.wf n (List.mem_of_mem_take hn)
  simp [Lit.wf, IntKind.min, IntKind.max, IntKind.signed, IntKind.bits] at this
  omega

/-- What the call owns stays so while its block does. -/
theorem own_keep {w w' : World} {base : Nat} {e : TypeId} {size n : Nat} {v : Value} {xs : List Value} (h : w.ownsRow base e size v n xs) (hb : ∀ g, v.ownBlock = some g → w'.heap[g]? = w.heap[g]?) : w'.ownsRow base e size v n xs := by
  refine ⟨h.1, ?_⟩
  rcases h.2 with ⟨rfl, hn⟩ | ⟨g, cap, cur, rfl, h1, h2, h3⟩
  · exact .inl ⟨rfl, hn⟩
  · exact .inr ⟨g, cap, cur, rfl, h1, by rw [hb g rfl]; exact h2, h3⟩

theorem own_lt {w : World} {base : Nat} {e : TypeId} {size n : Nat} {v : Value} {xs : List Value} (h : w.ownsRow base e size v n xs) (g : Nat) (hg : v.ownBlock = some g) : base ≤ g ∧ g < w.heap.size := by
  rcases h.2 with ⟨rfl, hn⟩ | ⟨g', cap, cur, rfl, h1, h2, h3⟩
  · cases hg
  · have : g' = g := by simpa [Value.ownBlock] using hg
    subst this
    refine ⟨h1, ?_⟩
    rcases Nat.lt_or_ge g' w.heap.size with q | q
    · exact q
    · rw [Array.getElem?_eq_none q] at h2; cases h2

theorem own_alloc {w : World} {base : Nat} {e : TypeId} {size n : Nat} {v : Value} {xs : List Value} (h : w.ownsRow base e size v n xs) (o : Obj) : (w.alloc o).ownsRow base e size v n xs :=
  own_keep h fun g hg => Below.heap_alloc w o g (own_lt h g hg).2

theorem own_below {w w' : World} {base : Nat} {e : TypeId} {size n : Nat} {v : Value} {xs : List Value} (h : w.ownsRow base e size v n xs) (hb : Below w.heap.size w w') : w'.ownsRow base e size v n xs :=
  own_keep h fun g hg => hb.block g (own_lt h g hg).2

/-- Two rows lie apart. -/
def Apart (u v : Value) : Prop := ∀ g, u.ownBlock = some g → v.ownBlock ≠ some g

theorem own_other {w w' : World} {base : Nat} {e : TypeId} {size n : Nat} {u v : Value} {xs : List Value} (h : w.ownsRow base e size v n xs) (hg : w.grownBy w' u.ownBlock) (ha : Apart u v) : w'.ownsRow base e size v n xs :=
  own_keep h fun g q => hg.block g (own_lt h g q).2 (fun e => ha g e.symm q)

theorem apart_grown {w : World} {base : Nat} {e : TypeId} {size n : Nat} {u u' v : Value} {xs : List Value} (h : w.ownsRow base e size v n xs) (ha : Apart u v) (hat : u'.ownBlock = u.ownBlock ∨ u'.ownBlock = some w.heap.size) : Apart u' v := by
  intro g hg hv
  rcases hat with q | q
  · exact ha g (by rw [← q]; exact hg) hv
  · have := (own_lt h g hv).2
    rw [hg] at q
    injection q with q
    omega

theorem Apart.symm {u v : Value} (h : Apart u v) : Apart v u := fun g hv hu => h g hu hv

theorem fl_snoc (xs : List Nat) (k : Nat) (h : k < xs.length) : fl (xs.take (k + 1)) = fl (xs.take k) ++ [.float .f64 (xs.getD k 0)] := by
  unfold fl
  rw [List.take_succ_eq_append_getElem h, List.map_append]
  simp [List.getD, List.getElem?_eq_getElem h]

theorem below_grown {B : Nat} {a w w' : World} {base : Nat} {e : TypeId} {size n : Nat} {v : Value} {xs : List Value} (h : Below B a w) (ho : w.ownsRow base e size v n xs) (hg : w.grownBy w' v.ownBlock) (hB : B ≤ base) (hs : B ≤ w.heap.size) : Below B a w' :=
  h.grown hg hs fun k hk => Nat.le_trans hB (own_lt ho k hk).1

theorem infoF : (Try.prog.info? 23).map (fun i => (i.zero, i.size, i.bytes)) = some (some (.float .f64 0), 1, 8) := by kernel_rfl

theorem info_parts {o : Option TypeInfo} {z : Option Value} {s b : Nat} (h : o.map (fun i => (i.zero, i.size, i.bytes)) = some (z, s, b)) : ∃ i, o = some i ∧ i.zero = z ∧ i.size = s ∧ i.bytes = b := by
  cases o with
  | none => cases h
  | some i => simp at h; exact ⟨i, rfl, h.1, h.2.1, h.2.2⟩
end Go.Proofs.Ytkfkmkdpogkhhaa
