/- What is said of all later worlds; blocks by their tag; sessions in a box. -/
import Derived.Test.YthpknaieimlmnaaGreatQ17
set_option linter.unusedVariables false
set_option maxRecDepth 8000
set_option linter.unusedSimpArgs false
namespace Go.Proofs.YthpknaieimlmnaaGreat
open Go.RowKit
namespace Cm

/-- So in every world from here on. -/
def Old (V : World) (P : World → Prop) : Prop := ∀ W, Below V.heap.size V W → P W
theorem Old.later {V V' : World} {P : World → Prop} (h : Old V P) (hb : Below V.heap.size V V') : Old V' P := fun W hw => h W (step hb hw)
theorem Old.now {V : World} {P : World → Prop} (h : Old V P) : P V := h V (Below.refl _ _)

/-- The block is of this type. -/
def Tag (w : World) (b : Nat) (e : TypeId) : Prop := ∃ cs fr, w.heap[b]? = some (.cells cs e fr)
theorem Tag.lt {w : World} {b : Nat} {e : TypeId} (h : Tag w b e) : b < w.heap.size := by
  obtain ⟨cs, fr, h⟩ := h
  rcases Nat.lt_or_ge b w.heap.size with q | q
  · exact q
  · rw [Array.getElem?_eq_none q] at h; cases h
theorem Tag.later {w w' : World} {b : Nat} {e : TypeId} (h : Tag w b e) (hb : Below w.heap.size w w') : Tag w' b e := by
  have hl := h.lt
  obtain ⟨cs, fr, h⟩ := h
  exact ⟨cs, fr, by rw [hb.block b hl]; exact h⟩
theorem Tag.set {w : World} {b : Nat} {e : TypeId} (h : Tag w b e) (g j : Nat) (v : Value) : Tag (w.setCell ⟨g, j, none⟩ v) b e := by
  obtain ⟨cs, fr, h⟩ := h
  by_cases q : b = g
  · subst q
    refine ⟨cs.setIfInBounds j v, fr, ?_⟩
    show (w.heap.modify b _)[b]? = _
    rw [Array.getElem?_modify, if_pos rfl, h]
    rfl
  · exact ⟨cs, fr, by rw [Below.heap_setCell w ⟨g, j, none⟩ v b q]; exact h⟩
theorem Tag.new (w : World) (cs : Array Value) (e : TypeId) : Tag (w.alloc (.cells cs e)) w.heap.size e := ⟨cs, (0, 0), by show (w.heap.push _)[w.heap.size]? = _; simp⟩
theorem Tag.ne {w : World} {b g : Nat} {e f : TypeId} (h : Tag w b e) (h2 : Tag w g f) (hn : e ≠ f) : b ≠ g := by
  rintro rfl
  obtain ⟨cs, fr, h⟩ := h
  obtain ⟨cs2, fr2, h2⟩ := h2
  rw [h] at h2
  injection h2 with h2
  injection h2 with _ h2
  exact hn h2
/-- A type that no row of a state is of. -/
def NotRow (e : TypeId) : Prop := e ≠ 56 ∧ e ≠ 69 ∧ e ≠ 61 ∧ e ≠ 67 ∧ e ≠ 3
theorem own_tag {w : World} {base s n : Nat} {e f : TypeId} {v : Value} {xs : List Value} (h : w.ownsRow base e s v n xs) {g : Nat} (ht : Tag w g f) (hn : f ≠ e) (j : Nat) (y : Value) : (w.setCell ⟨g, j, none⟩ y).ownsRow base e s v n xs := by
  refine Rw.own_keep h fun k hk => ?_
  refine Below.heap_setCell w ⟨g, j, none⟩ y k fun q => ?_
  have q : k = g := q
  subst q
  obtain ⟨cs, fr, ht⟩ := ht
  rcases h.2 with ⟨rfl, _⟩ | ⟨g1, cap, cur, rfl, _, q1, _⟩
  · cases hk
  have r1 : g1 = k := by simpa [Value.ownBlock] using hk
  subst r1
  rw [q1] at ht
  injection ht with ht
  injection ht with _ ht
  exact hn ht.symm
theorem NewI.tag {base : Nat} {w : World} {u : Value} {l : List Int} (h : NewI base w u l) {g : Nat} {f : TypeId} (ht : Tag w g f) (hn : f ≠ 3) (j : Nat) (y : Value) : NewI base (w.setCell ⟨g, j, none⟩ y) u l := by
  obtain ⟨hr, ho⟩ := h
  obtain ⟨a, cap, rfl, h1, h2, h3, h4⟩ := hr.ex
  have hne : ∀ k, (Value.slice a l.length cap).ownBlock = some k → k ≠ g := fun k hk => by
    rintro rfl
    obtain ⟨h5, cs, h6⟩ := ho k hk
    obtain ⟨cs2, fr, ht⟩ := ht
    rw [h6] at ht
    injection ht with ht
    injection ht with _ ht
    exact hn ht.symm
  refine ⟨⟨a, cap, rfl, h1, h2, h3, fun x hx hp => ?_⟩, fun k hk => ?_⟩
  · obtain ⟨hs, hc⟩ := h4 x hx hp
    refine ⟨hs, fun i hi n q hq => ?_⟩
    have hcell := hc i hi n q hq
    have hk : (Value.slice a l.length cap).ownBlock = some x.block := by subst hx; rfl
    simp only [World.cell?] at hcell ⊢
    rw [Below.heap_setCell w ⟨g, j, none⟩ y x.block (fun q => by have : x.block = g := q; exact hne _ hk this)]
    exact hcell
  · obtain ⟨h5, cs, h6⟩ := ho k hk
    refine ⟨h5, cs, ?_⟩
    rw [Below.heap_setCell w ⟨g, j, none⟩ y k (fun q => by have : k = g := q; exact hne _ hk this)]
    exact h6
/-- A store into a block of another type leaves the state's lists. -/
theorem FromS.tag {base : Nat} {w : World} {x y : StC} (h : FromS base w x y) {g : Nat} {f : TypeId} (ht : Tag w g f) (hf : NotRow f) (j : Nat) (u : Value) : FromS base (w.setCell ⟨g, j, none⟩ u) x y :=
  ⟨h.s.imp id fun q => own_tag q ht hf.1 j u, h.k.imp id fun q => ⟨own_tag q.row ht hf.2.1 j u, fun z hz => (q.line z hz).tag ht hf.2.2.2.2 j u⟩, h.m.imp id fun q => ⟨own_tag q.1 ht hf.2.2.1 j u, fun z hz => (q.2 z hz).imp id fun r => own_tag r ht hf.2.2.2.1 j u⟩⟩
theorem FromS.tag4 {base : Nat} {w : World} {x y : StC} (h : FromS base w x y) {g : Nat} {f : TypeId} (ht : Tag w g f) (hf : NotRow f) (v0 v1 v2 v3 : Value) : FromS base ((((w.setCell ⟨g, 0, none⟩ v0).setCell ⟨g, 1, none⟩ v1).setCell ⟨g, 2, none⟩ v2).setCell ⟨g, 3, none⟩ v3) x y :=
  (((h.tag ht hf 0 v0).tag (ht.set _ _ _) hf 1 v1).tag ((ht.set _ _ _).set _ _ _) hf 2 v2).tag (((ht.set _ _ _).set _ _ _).set _ _ _) hf 3 v3
theorem FromS.tag6 {base : Nat} {w : World} {x y : StC} (h : FromS base w x y) {g : Nat} {f : TypeId} (ht : Tag w g f) (hf : NotRow f) (v0 v1 v2 v3 v4 v5 : Value) : FromS base ((((((w.setCell ⟨g, 0, none⟩ v0).setCell ⟨g, 1, none⟩ v1).setCell ⟨g, 2, none⟩ v2).setCell ⟨g, 3, none⟩ v3).setCell ⟨g, 4, none⟩ v4).setCell ⟨g, 5, none⟩ v5) x y :=
  ((h.tag4 ht hf v0 v1 v2 v3).tag ((((ht.set _ _ _).set _ _ _).set _ _ _).set _ _ _) hf 4 v4).tag (((((ht.set _ _ _).set _ _ _).set _ _ _).set _ _ _).set _ _ _) hf 5 v5
theorem Tag.set6 {w : World} {b : Nat} {e : TypeId} (h : Tag w b e) (g : Nat) (v0 v1 v2 v3 v4 v5 : Value) : Tag ((((((w.setCell ⟨g, 0, none⟩ v0).setCell ⟨g, 1, none⟩ v1).setCell ⟨g, 2, none⟩ v2).setCell ⟨g, 3, none⟩ v3).setCell ⟨g, 4, none⟩ v4).setCell ⟨g, 5, none⟩ v5) b e :=
  (((((h.set _ _ _).set _ _ _).set _ _ _).set _ _ _).set _ _ _).set _ _ _
theorem notRow_state : NotRow 28 := ⟨by decide, by decide, by decide, by decide, by decide⟩
theorem notRow_reply : NotRow 44 := ⟨by decide, by decide, by decide, by decide, by decide⟩

/-- A session in a box of the call's own. -/
structure BoxE (w : World) (b : Nat) (s : SesV) : Prop where
  c0 : w.cell? ⟨b, 0, none⟩ = some (.int .i64 s.client)
  c1 : w.cell? ⟨b, 1, none⟩ = some (.int .i64 s.num)
  c2 : w.cell? ⟨b, 2, none⟩ = some (.int .i64 s.ren)
  fr : ∀ k, w.frozen? ⟨b, k, none⟩ = false
theorem BoxE.later {w w' : World} {b : Nat} {x : SesV} (h : BoxE w b x) (hb : Below w.heap.size w w') : BoxE w' b x :=
  ⟨(hb.cell (lt_of_cell h.c0)).trans h.c0, (hb.cell (lt_of_cell h.c1)).trans h.c1, (hb.cell (lt_of_cell h.c2)).trans h.c2, fun k => (hb.frozen (p := ⟨b, k, none⟩) (show b < _ from lt_of_cell h.c0)).trans (h.fr k)⟩
theorem BoxE.new (w : World) (x : SesV) (t : TypeId) : BoxE (w.alloc (.cells #[.int .i64 x.client, .int .i64 x.num, .int .i64 x.ren] t)) w.heap.size x := by
  refine ⟨?_, ?_, ?_, fun k => ?_⟩ <;> simp [go_sem]
theorem BoxE.put {w : World} {b : Nat} {x : SesV} (h : BoxE w b x) (c n r : Int) : BoxE (((w.setCell ⟨b, 0, none⟩ (.int .i64 c)).setCell ⟨b, 1, none⟩ (.int .i64 n)).setCell ⟨b, 2, none⟩ (.int .i64 r)) b ⟨c, n, r⟩ := by
  obtain ⟨c0, c1, c2, fr⟩ := h
  refine ⟨?_, ?_, ?_, fun k => ?_⟩ <;> simp [go_sem, c0, c1, c2, fr]
theorem below_set3 {a w : World} {B : Nat} (h : Below B a w) (g : Nat) (hg : B ≤ g) (x y z : Value) : Below B a (((w.setCell ⟨g, 0, none⟩ x).setCell ⟨g, 1, none⟩ y).setCell ⟨g, 2, none⟩ z) := ((h.setCell hg _).setCell hg _).setCell hg _
end Cm
end Go.Proofs.YthpknaieimlmnaaGreat
