/- Contracts: the document's GetReply. -/
import Derived.Test.YtklnopgnlnfbnaaRepE
import Derived.Maps.AppendAt
set_option linter.unusedVariables false
set_option linter.unusedSimpArgs false
namespace Go.Proofs.Ytklnopgnlnfbnaa
open Go.RowKit
namespace Cm

def gCells : List GrantV → List Value
  | [] => []
  | g :: l => .string (bstr g.name) :: .int .i64 g.token :: gCells l

theorem gCells_length : ∀ l : List GrantV, (gCells l).length = l.length * 2
  | [] => rfl
  | g :: l => by rw [gCells, List.length_cons, List.length_cons, gCells_length l, List.length_cons]; omega

theorem gCells_snoc : ∀ (l : List GrantV) (g : GrantV), gCells (l ++ [g]) = gCells l ++ [.string (bstr g.name), .int .i64 g.token]
  | [], g => rfl
  | x :: l, g => by rw [List.cons_append, gCells, gCells_snoc l g]; rfl

theorem gCells_get : ∀ (l : List GrantV) (i : Nat) (h : i < l.length), (gCells l)[i * 2]? = some (.string (bstr l[i].name)) ∧ (gCells l)[i * 2 + 1]? = some (.int .i64 l[i].token)
  | g :: l, 0, _ => ⟨rfl, rfl⟩
  | g :: l, i + 1, h => by
    have := gCells_get l i (by simpa using h)
    rw [show (i + 1) * 2 = i * 2 + 1 + 1 by omega, show i * 2 + 1 + 1 + 1 = (i * 2 + 1) + 1 + 1 by omega]
    exact this

theorem RdH.own {w : World} {base : Nat} {e : TypeId} {v : Value} {l : List GrantV} (h : w.ownsRow base e 2 v l.length (gCells l)) : RdH w v l := by
  rcases h.2 with ⟨rfl, hn⟩ | ⟨g, cap, cur, rfl, hb, hg, hn, hc, hs, ht⟩
  · have : l = [] := List.length_eq_zero_iff.1 hn
    subst this
    exact RdH.nil w
  · refine ⟨some ⟨g, 0, none⟩, cap, rfl, hn, hc, (fun q => by cases q), fun x hx hp => ?_⟩
    cases hx
    refine ⟨rfl, fun i hi => ?_⟩
    obtain ⟨h1, h2⟩ := gCells_get l i hi
    have a1 := h.cellAt (i * 2) (by omega)
    have a2 := h.cellAt (i * 2 + 1) (by omega)
    rw [h1] at a1
    rw [h2] at a2
    simp only [Nat.zero_add]
    exact ⟨a1, a2⟩

def repZero : Obj := .cells #[.int .i64 0, .int .i64 0, .int .i64 0, .slice none 0 0] 25
def repBox (k s d : Int) (v : Value) : Obj := .cells #[.int .i64 k, .int .i64 s, .int .i64 d, v] 25

/-- While what is held is read: the answer's place, the reply's box, the list so far. -/
structure GR (w : World) (A : Nat) (k s d : Int) (v : Value) (G : List GrantV) (wr : World) : Prop where
  below : Below w.heap.size w wr
  zero : wr.heap[w.heap.size]? = some repZero
  box : wr.heap[A]? = some (repBox k s d v)
  own : wr.ownsRow (A + 1) 49 2 v G.length (gCells G)
  lt : w.heap.size < A

theorem get_lt {w : World} {a : Nat} {o : Obj} (h : w.heap[a]? = some o) : a < w.heap.size := (Array.getElem?_eq_some_iff.1 h).1

theorem GR.later {w : World} {A : Nat} {k s d : Int} {v : Value} {G : List GrantV} {wr wr' : World} (h : GR w A k s d v G wr) (hb : Below wr.heap.size wr wr') : GR w A k s d v G wr' :=
  ⟨h.below.trans (hb.mono h.below.size), (hb.block _ (get_lt h.zero)).trans h.zero, (hb.block _ (get_lt h.box)).trans h.box, Rw.own_below h.own hb, h.lt⟩

theorem GR.zc {w : World} {A : Nat} {k s d : Int} {v : Value} {G : List GrantV} {wr : World} (h : GR w A k s d v G wr) :
    wr.cell? ⟨w.heap.size, 0, none⟩ = some (.int .i64 0) ∧ wr.cell? ⟨w.heap.size, 1, none⟩ = some (.int .i64 0) ∧ wr.cell? ⟨w.heap.size, 2, none⟩ = some (.int .i64 0) ∧ wr.cell? ⟨w.heap.size, 3, none⟩ = some (.slice none 0 0) ∧ ∀ k, wr.frozen? ⟨w.heap.size, k, none⟩ = false := by
  have hz := h.zero
  unfold repZero at hz
  refine ⟨?_, ?_, ?_, ?_, ?_⟩ <;> simp [World.cell?, World.frozen?, hz]

theorem GR.bc {w : World} {A : Nat} {k s d : Int} {v : Value} {G : List GrantV} {wr : World} (h : GR w A k s d v G wr) :
    wr.cell? ⟨A, 0, none⟩ = some (.int .i64 k) ∧ wr.cell? ⟨A, 1, none⟩ = some (.int .i64 s) ∧ wr.cell? ⟨A, 2, none⟩ = some (.int .i64 d) ∧ wr.cell? ⟨A, 3, none⟩ = some v ∧ ∀ k, wr.frozen? ⟨A, k, none⟩ = false := by
  have hz := h.box
  unfold repBox at hz
  refine ⟨?_, ?_, ?_, ?_, ?_⟩ <;> simp [World.cell?, World.frozen?, hz]

theorem set_box {w : World} {A : Nat} {k s d : Int} {v : Value} (h : w.heap[A]? = some (repBox k s d v)) (u : Value) : (w.setCell ⟨A, 3, none⟩ u).heap[A]? = some (repBox k s d u) := by
  have hl := get_lt h
  unfold repBox at h ⊢
  have h' : w.heap[A] = .cells #[.int .i64 k, .int .i64 s, .int .i64 d, v] 25 := by simpa [hl] using h
  simp [World.setCell, h', hl, Array.getElem_modify]

theorem box_cells {A : Nat} {k s d : Int} {v : Value} {wr : World} (hz : wr.heap[A]? = some (repBox k s d v)) :
    wr.cell? ⟨A, 0, none⟩ = some (.int .i64 k) ∧ wr.cell? ⟨A, 1, none⟩ = some (.int .i64 s) ∧ wr.cell? ⟨A, 2, none⟩ = some (.int .i64 d) ∧ wr.cell? ⟨A, 3, none⟩ = some v ∧ ∀ k, wr.frozen? ⟨A, k, none⟩ = false := by
  unfold repBox at hz
  refine ⟨?_, ?_, ?_, ?_, ?_⟩ <;> simp [World.cell?, World.frozen?, hz]

theorem GR.mid {w : World} {A : Nat} {k s d : Int} {v : Value} {G : List GrantV} {w1 w2 : World} {o : Obj} (h : GR w A k s d v G w1) (hg : (w1.alloc o).grownBy w2 v.ownBlock) : w2.heap[A]? = some (repBox k s d v) := by
  have h1 := h.later (newAlloc w1 o)
  exact (hg.block A (get_lt h1.box) (fun q => by have := (Rw.own_lt h1.own A q.symm).1; omega)).trans h1.box

theorem GR.push {w : World} {A : Nat} {k s d : Int} {v v' : Value} {G : List GrantV} {g : GrantV} {w1 w2 : World} {o : Obj} (h : GR w A k s d v G w1)
    (ho : w2.ownsRow (A + 1) 49 2 v' (G.length + 1) (gCells G ++ [.string (bstr g.name), .int .i64 g.token])) (hg : (w1.alloc o).grownBy w2 v.ownBlock) : GR w A k s d v' (G ++ [g]) (w2.setCell ⟨A, 3, none⟩ v') := by
  have h1 := h.later (newAlloc w1 o)
  have hAl := get_lt h1.box
  have hne : ∀ x, x ≤ A → some x ≠ v.ownBlock := fun x hx q => by
    have := (Rw.own_lt h1.own x q.symm).1
    omega
  have hb2 : w2.heap[A]? = some (repBox k s d v) := (hg.block A hAl (hne A (Nat.le_refl _))).trans h1.box
  have hz2 : w2.heap[w.heap.size]? = some repZero := (hg.block _ (get_lt h1.zero) (hne _ (Nat.le_of_lt h.lt))).trans h1.zero
  have hbelow : Below w.heap.size w w2 := h1.below.grown hg h1.below.size (fun x hx => by have := (Rw.own_lt h1.own x hx).1; have := h.lt; omega)
  refine ⟨hbelow.setCell (Nat.le_of_lt h.lt) _, ?_, set_box hb2 v', ?_, h.lt⟩
  · rw [Below.heap_setCell _ _ _ _ (Nat.ne_of_lt h.lt)]
    exact hz2
  · rw [List.length_append, gCells_snoc]
    refine Rw.own_keep ho fun x hx => ?_
    have := (Rw.own_lt ho x hx).1
    exact Below.heap_setCell _ _ _ _ (by show x ≠ A; omega)

theorem GR.start {w w4 : World} (k s d : Int) (hb : Below (w.alloc repZero).heap.size (w.alloc repZero) w4) : GR w w4.heap.size k s d (.slice none 0 0) [] (w4.alloc (repBox k s d (.slice none 0 0))) := by
  have hs := hb.size
  simp at hs
  have hz : w4.heap[w.heap.size]? = some repZero := by
    rw [hb.block _ (by simp)]
    show (w.heap.push _)[w.heap.size]? = _
    simp
  refine ⟨stepAlloc (step (newAlloc _ _) hb) _, ?_, ?_, World.ownsRow_nil _ _ _ _, by omega⟩
  · rw [(newAlloc w4 _).block _ (get_lt hz)]
    exact hz
  · show (w4.heap.push _)[w4.heap.size]? = _
    simp

theorem own_lower {w : World} {base base' : Nat} {e : TypeId} {size n : Nat} {v : Value} {xs : List Value} (h : w.ownsRow base e size v n xs) (hb : base' ≤ base) : w.ownsRow base' e size v n xs := by
  refine ⟨h.1, ?_⟩
  rcases h.2 with q | ⟨g, cap, cur, h1, h2, r⟩
  · exact .inl q
  · exact .inr ⟨g, cap, cur, h1, Nat.le_trans hb h2, r⟩

/-- The answer, and what it holds, once it lies in its place. -/
theorem GR.fin {w : World} {A : Nat} {k s d : Int} {v : Value} {G : List GrantV} {wr : World} (h : GR w A k s d v G wr) (x y z u : Value) :
    ((((wr.setCell ⟨w.heap.size, 0, none⟩ x).setCell ⟨w.heap.size, 1, none⟩ y).setCell ⟨w.heap.size, 2, none⟩ z).setCell ⟨w.heap.size, 3, none⟩ u).ownsRow (w.heap.size + 1) 49 2 v G.length (gCells G) := by
  refine own_lower (base := A + 1) (Rw.own_keep h.own fun g hg => ?_) (by have := h.lt; omega)
  have h1 := (Rw.own_lt h.own g hg).1
  have h2 := h.lt
  rw [Below.heap_setCell _ _ _ _ (by show g ≠ w.heap.size; omega), Below.heap_setCell _ _ _ _ (by show g ≠ w.heap.size; omega), Below.heap_setCell _ _ _ _ (by show g ≠ w.heap.size; omega), Below.heap_setCell _ _ _ _ (by show g ≠ w.heap.size; omega)]

theorem set4 {w w1 : World} (h : Below w.heap.size w w1) (x y z u : Value) : Below w.heap.size w ((((w1.setCell ⟨w.heap.size, 0, none⟩ x).setCell ⟨w.heap.size, 1, none⟩ y).setCell ⟨w.heap.size, 2, none⟩ z).setCell ⟨w.heap.size, 3, none⟩ u) :=
  (((h.setCell (Nat.le_refl _) _).setCell (Nat.le_refl _) _).setCell (Nat.le_refl _) _).setCell (Nat.le_refl _) _

/-- A reply, a place and a code told; what it holds is new. -/
def GetsP (r : ReplyV × Int × Int) (w : World) (e : Ending) (w' : World) : Prop :=
  ∃ v, e = .returned (.tuple #[repVal r.1 v, .int .i64 r.2.1, .int .i64 r.2.2]) ∧ w'.ownsRow (w.heap.size + 1) 49 2 v r.1.held.length (gCells r.1.held) ∧ Below w.heap.size w w'

theorem GetsP.zeroed {w w' : World} {e : Ending} {c : Int} (he : e = .returned (.tuple #[.agg #[.int .i64 0, .int .i64 0, .int .i64 0, .slice none 0 0], .int .i64 0, .int .i64 c])) (hb : Below w.heap.size w w') : GetsP (zeroP, 0, c) w e w' :=
  ⟨.slice none 0 0, he, World.ownsRow_nil _ _ _ _, hb⟩

/-- What is answered when some are read, and so many are to come. -/
def finP (bs : List UInt8) (k s a : Int) (G : List GrantV) (T : Int) (m : Nat) : ReplyV × Int × Int :=
  if (getHeld bs m T).2.2 ≠ 0 then (zeroP, 0, (getHeld bs m T).2.2) else if mayP ⟨k, s, a, G ++ (getHeld bs m T).1⟩ then (⟨k, s, a, G ++ (getHeld bs m T).1⟩, (getHeld bs m T).2.1, 0) else (zeroP, 0, 4)

theorem finP_zero (bs : List UInt8) (k s a : Int) (G : List GrantV) (T : Int) : finP bs k s a G T 0 = if mayP ⟨k, s, a, G⟩ then (⟨k, s, a, G⟩, T, 0) else (zeroP, 0, 4) := by
  unfold finP
  rw [show getHeld bs 0 T = ([], T, 0) from rfl]
  simp

theorem finP_text (bs : List UInt8) (k s a : Int) (G : List GrantV) (T : Int) (m : Nat) (n : List UInt8) (t e : Int) (h : textOf bs T 12 = (n, t, e)) (he : e ≠ 0) : finP bs k s a G T (m + 1) = (zeroP, 0, e) := by
  unfold finP
  rw [getHeld_succ, h]
  simp [he]

theorem finP_num (bs : List UInt8) (k s a : Int) (G : List GrantV) (T : Int) (m : Nat) (n : List UInt8) (t x u e : Int) (h : textOf bs T 12 = (n, t, 0)) (h2 : numOf bs t = (x, u, e)) (he : e ≠ 0) : finP bs k s a G T (m + 1) = (zeroP, 0, e) := by
  unfold finP
  rw [getHeld_succ, h]
  simp [h2, he]

theorem finP_succ (bs : List UInt8) (k s a : Int) (G : List GrantV) (T : Int) (m : Nat) (n : List UInt8) (t x u : Int) (h : textOf bs T 12 = (n, t, 0)) (h2 : numOf bs t = (x, u, 0)) : finP bs k s a G T (m + 1) = finP bs k s a (G ++ [⟨n, x⟩]) u m := by
  unfold finP
  rw [getHeld_step _ _ _ _ _ _ _ h h2]
  by_cases q : (getHeld bs m u).2.2 ≠ 0
  · rw [if_pos q, if_pos q]
    simp [q]
  · rw [if_neg q, if_neg q]
    simp

theorem byteOf_pos (bs : List UInt8) (t : Int) : 0 ≤ (byteOf bs t).1 := by
  unfold byteOf
  split
  · simp
  · simp only; omega

theorem getP_told (bs : List UInt8) (t : Int) {k t1 e1 s t2 e2 a t3 e3 n t4 e4 : Int} (h1 : byteOf bs t = (k, t1, e1)) (h2 : numOf bs t1 = (s, t2, e2)) (h3 : byteOf bs t2 = (a, t3, e3)) (h4 : byteOf bs t3 = (n, t4, e4)) :
    getP bs t = if e1 ≠ 0 then (zeroP, 0, e1) else if e2 ≠ 0 then (zeroP, 0, e2) else if e3 ≠ 0 then (zeroP, 0, e3) else if e4 ≠ 0 then (zeroP, 0, e4) else if 4 < n then (zeroP, 0, 4) else finP bs k s a [] t4 n.toNat := by
  unfold getP finP
  rw [h1]
  dsimp only
  rw [h2]
  dsimp only
  rw [h3]
  dsimp only
  rw [h4]
  dsimp only
  simp only [List.nil_append]

theorem info49 : (Try.prog.info? 49).map (fun i => (i.zero, i.size, i.bytes)) = some (some (.agg #[.string ⟨#[]⟩, .int .i64 0]), 2, 24) := by kernel_rfl

set_option maxRecDepth 4000 in
set_option maxHeartbeats 8000000 in
theorem GetReply_any (v : Value) (bs : List UInt8) (t : Int) (w : World) (h : Rd w v bs) (ht : t ≤ 9223372036854775807) :
    Calls Try.prog 13 #[v, .int .i64 t] w (GetsP (getP bs t) w) := by
  have hlen := Rd.len_le h
  unfold maxLen at hlen
  rcases hB : byteOf bs t with ⟨k, t1, e1⟩
  rcases hN : numOf bs t1 with ⟨s, t2, e2⟩
  rcases hD : byteOf bs t2 with ⟨d, t3, e3⟩
  rcases hC : byteOf bs t3 with ⟨n, t4, e4⟩
  have b1 : t1 ≤ bs.length := by have := byteOf_le bs t; rw [hB] at this; exact this
  have b2 : t2 ≤ bs.length := by have := numOf_le bs t1; rw [hN] at this; exact this
  have b3 : t3 ≤ bs.length := by have := byteOf_le bs t2; rw [hD] at this; exact this
  have b4 : t4 ≤ bs.length := by have := byteOf_le bs t3; rw [hC] at this; exact this
  have hn0 : 0 ≤ n := by have := byteOf_pos bs t3; rw [hC] at this; exact this
  have C1 : Hid (∀ w', Below w.heap.size w w' → Calls Try.prog 36 #[v, .int .i64 t] w' (Three (k, t1, e1) w')) := fun w' hb => by rw [← hB]; exact Ref1.Byte_any v bs t w' (h.later hb) ht
  have C2 : Hid (∀ w', Below w.heap.size w w' → Calls Try.prog 37 #[v, .int .i64 t1] w' (Three (s, t2, e2) w')) := fun w' hb => by rw [← hN]; exact Ref1.Num_any v bs t1 w' (h.later hb) (by omega)
  have C3 : Hid (∀ w', Below w.heap.size w w' → Calls Try.prog 36 #[v, .int .i64 t2] w' (Three (d, t3, e3) w')) := fun w' hb => by rw [← hD]; exact Ref1.Byte_any v bs t2 w' (h.later hb) (by omega)
  have C4 : Hid (∀ w', Below w.heap.size w w' → Calls Try.prog 36 #[v, .int .i64 t3] w' (Three (n, t4, e4) w')) := fun w' hb => by rw [← hC]; exact Ref1.Byte_any v bs t3 w' (h.later hb) (by omega)
  have CT : Hid (∀ T n u e, T ≤ (bs.length : Int) → textOf bs T 12 = (n, u, e) → ∀ w', Below w.heap.size w w' → Calls Try.prog 38 #[v, .int .i64 T, .int .i64 12] w' (TextTold (n, u, e) w')) := fun T n u e hT hE w' hb => by rw [← hE]; exact Ref1.Text_any v bs T 12 w' (h.later hb) (by omega)
  have CN : Hid (∀ T n u e, T ≤ (bs.length : Int) → numOf bs T = (n, u, e) → ∀ w', Below w.heap.size w w' → Calls Try.prog 37 #[v, .int .i64 T] w' (Three (n, u, e) w')) := fun T n u e hT hE w' hb => by rw [← hE]; exact Ref1.Num_any v bs T w' (h.later hb) (by omega)
  rw [getP_told bs t hB hN hD hC]
  clear h hB hN hD hC b1 b2 b3 ht
  by_cases z1 : e1 ≠ 0
  · have d1 : (e1 == 0) = false := by simpa using z1
    rw [if_pos z1]
    clear CT CN C2 C3 C4
    go_enter Try.func13, Try.ntmps13
    go_wp2_with (go_at_call 36; refine (C1.out _ (newAlloc _ _)).mono ?_; rintro e w1 ⟨rfl, hb1⟩; have B1 := step (newAlloc w _) hb1; obtain ⟨c0, c1, c2, c3⟩ := box4 hb1; have f0 := free4 hb1)
    refine bodyPost_ret (by simp [results, Try.results13, go_sem, c0, c1, c2, c3] <;> rfl) rfl (GetsP.zeroed rfl (set4 B1 _ _ _ _))
  rw [if_neg z1]
  obtain rfl : e1 = 0 := by omega
  clear z1
  by_cases z2 : e2 ≠ 0
  · have d1 : (e2 == 0) = false := by simpa using z2
    rw [if_pos z2]
    clear CT CN C3 C4
    go_enter Try.func13, Try.ntmps13
    go_wp2_with (first
      | (go_at_call 36; refine (C1.out _ (newAlloc _ _)).mono ?_; rintro e w1 ⟨rfl, hb1⟩; have B1 := step (newAlloc w _) hb1; obtain ⟨c0, c1, c2, c3⟩ := box4 hb1; have f0 := free4 hb1)
      | (go_at_call 37; refine (C2.out _ B1).mono ?_; rintro e w2 ⟨rfl, hb2⟩; have B2 := step B1 hb2; have hb2 := step hb1 hb2; obtain ⟨c0, c1, c2, c3⟩ := box4 hb2; have f0 := free4 hb2))
    refine bodyPost_ret (by simp [results, Try.results13, go_sem, c0, c1, c2, c3] <;> rfl) rfl (GetsP.zeroed rfl (set4 B2 _ _ _ _))
  rw [if_neg z2]
  obtain rfl : e2 = 0 := by omega
  clear z2
  by_cases z3 : e3 ≠ 0
  · have d1 : (e3 == 0) = false := by simpa using z3
    rw [if_pos z3]
    clear CT CN C4
    go_enter Try.func13, Try.ntmps13
    go_wp2_with (first
      | (go_at_call 36; refine (C3.out _ B2).mono ?_; rintro e w3 ⟨rfl, hb3⟩; have B3 := step B2 hb3; have hb3 := step hb2 hb3; obtain ⟨c0, c1, c2, c3⟩ := box4 hb3; have f0 := free4 hb3)
      | (go_at_call 36; refine (C1.out _ (newAlloc _ _)).mono ?_; rintro e w1 ⟨rfl, hb1⟩; have B1 := step (newAlloc w _) hb1; obtain ⟨c0, c1, c2, c3⟩ := box4 hb1; have f0 := free4 hb1)
      | (go_at_call 37; refine (C2.out _ B1).mono ?_; rintro e w2 ⟨rfl, hb2⟩; have B2 := step B1 hb2; have hb2 := step hb1 hb2; obtain ⟨c0, c1, c2, c3⟩ := box4 hb2; have f0 := free4 hb2))
    refine bodyPost_ret (by simp [results, Try.results13, go_sem, c0, c1, c2, c3] <;> rfl) rfl (GetsP.zeroed rfl (set4 B3 _ _ _ _))
  rw [if_neg z3]
  obtain rfl : e3 = 0 := by omega
  clear z3
  by_cases z4 : e4 ≠ 0
  · have d1 : (e4 == 0) = false := by simpa using z4
    rw [if_pos z4]
    clear CT CN 
    go_enter Try.func13, Try.ntmps13
    go_wp2_with (first
      | (go_at_call 36; refine (C4.out _ B3).mono ?_; rintro e w4 ⟨rfl, hb4⟩; have B4 := step B3 hb4; have hb4 := step hb3 hb4; obtain ⟨c0, c1, c2, c3⟩ := box4 hb4; have f0 := free4 hb4)
      | (go_at_call 36; refine (C3.out _ B2).mono ?_; rintro e w3 ⟨rfl, hb3⟩; have B3 := step B2 hb3; have hb3 := step hb2 hb3; obtain ⟨c0, c1, c2, c3⟩ := box4 hb3; have f0 := free4 hb3)
      | (go_at_call 36; refine (C1.out _ (newAlloc _ _)).mono ?_; rintro e w1 ⟨rfl, hb1⟩; have B1 := step (newAlloc w _) hb1; obtain ⟨c0, c1, c2, c3⟩ := box4 hb1; have f0 := free4 hb1)
      | (go_at_call 37; refine (C2.out _ B1).mono ?_; rintro e w2 ⟨rfl, hb2⟩; have B2 := step B1 hb2; have hb2 := step hb1 hb2; obtain ⟨c0, c1, c2, c3⟩ := box4 hb2; have f0 := free4 hb2))
    refine bodyPost_ret (by simp [results, Try.results13, go_sem, c0, c1, c2, c3] <;> rfl) rfl (GetsP.zeroed rfl (set4 B4 _ _ _ _))
  rw [if_neg z4]
  obtain rfl : e4 = 0 := by omega
  clear z4
  by_cases z5 : 4 < n
  · have d1 : decide (4 < n) = true := decide_eq_true z5
    rw [if_pos z5]
    clear CT CN
    go_enter Try.func13, Try.ntmps13
    go_wp2_with (first
      | (go_at_call 36; refine (C4.out _ B3).mono ?_; rintro e w4 ⟨rfl, hb4⟩; have B4 := step B3 hb4; have hb4 := step hb3 hb4; obtain ⟨c0, c1, c2, c3⟩ := box4 hb4; have f0 := free4 hb4)
      | (go_at_call 36; refine (C3.out _ B2).mono ?_; rintro e w3 ⟨rfl, hb3⟩; have B3 := step B2 hb3; have hb3 := step hb2 hb3; obtain ⟨c0, c1, c2, c3⟩ := box4 hb3; have f0 := free4 hb3)
      | (go_at_call 36; refine (C1.out _ (newAlloc _ _)).mono ?_; rintro e w1 ⟨rfl, hb1⟩; have B1 := step (newAlloc w _) hb1; obtain ⟨c0, c1, c2, c3⟩ := box4 hb1; have f0 := free4 hb1)
      | (go_at_call 37; refine (C2.out _ B1).mono ?_; rintro e w2 ⟨rfl, hb2⟩; have B2 := step B1 hb2; have hb2 := step hb1 hb2; obtain ⟨c0, c1, c2, c3⟩ := box4 hb2; have f0 := free4 hb2))
    refine bodyPost_ret (by simp [results, Try.results13, go_sem, c0, c1, c2, c3] <;> rfl) rfl (GetsP.zeroed rfl (set4 B4 _ _ _ _))
  rw [if_neg z5]
  obtain ⟨N, rfl⟩ := Int.eq_ofNat_of_zero_le hn0
  have d1 : decide (4 < (N : Int)) = false := decide_eq_false z5
  rw [Int.toNat_natCast]
  obtain ⟨i0, hi, hz0, hz1, hz2⟩ := info_parts info49
  go_enter Try.func13, Try.ntmps13
  go_upto_region 16 with (first
      | (go_at_call 36; refine (C4.out _ B3).mono ?_; rintro e w4 ⟨rfl, hb4⟩; have B4 := step B3 hb4; have hb4 := step hb3 hb4; obtain ⟨c0, c1, c2, c3⟩ := box4 hb4; have f0 := free4 hb4)
      | (go_at_call 36; refine (C3.out _ B2).mono ?_; rintro e w3 ⟨rfl, hb3⟩; have B3 := step B2 hb3; have hb3 := step hb2 hb3; obtain ⟨c0, c1, c2, c3⟩ := box4 hb3; have f0 := free4 hb3)
      | (go_at_call 36; refine (C1.out _ (newAlloc _ _)).mono ?_; rintro e w1 ⟨rfl, hb1⟩; have B1 := step (newAlloc w _) hb1; obtain ⟨c0, c1, c2, c3⟩ := box4 hb1; have f0 := free4 hb1)
      | (go_at_call 37; refine (C2.out _ B1).mono ?_; rintro e w2 ⟨rfl, hb2⟩; have B2 := step B1 hb2; have hb2 := step hb1 hb2; obtain ⟨c0, c1, c2, c3⟩ := box4 hb2; have f0 := free4 hb2))
  have HGR : Hid (GR w w4.heap.size k s d (.slice none 0 0) [] (w4.alloc (repBox k s d (.slice none 0 0)))) := Lib.hid (GR.start k s d hb4)
  unfold repBox at HGR
  generalize hW : w4.alloc (.cells #[.int .i64 k, .int .i64 s, .int .i64 d, .slice none 0 0] 25) = W at HGR ⊢
  generalize w4.heap.size = A at HGR ⊢
  clear hW c0 c1 c2 c3 f0 hb4 B4 C1 C2 C3 C4 d1 hn0
  clear hb3 hb2 hb1 B1 B2 B3
  go_wp2_with fail
  go_loopw [1, 13] (fun x i wr => ∃ (j : Nat) (T : Int) (u : Value) (G : List GrantV), j ≤ N ∧ i = .int .i64 (j : Int) ∧ x = .int .i64 T ∧ G.length = j ∧ T ≤ (bs.length : Int) ∧ Hid (GR w A k s d u G wr) ∧ Hid (finP bs k s d [] t4 N = finP bs k s d G T (N - j))) (fun _ i _ => N - (intOf i).toNat)
  case atStart => exact ⟨0, t4, .slice none 0 0, [], by omega, rfl, rfl, rfl, b4, HGR, Lib.hid rfl⟩
  case round =>
    obtain ⟨j, T, u, G, hj, rfl, rfl, hGl, hT, HG, HF⟩ := hrel
    obtain ⟨x0, x1, x2, x3, fb⟩ := HG.out.bc
    by_cases hlt : j < N
    · obtain ⟨m, hm⟩ : ∃ m, N - j = m + 1 := ⟨N - j - 1, by omega⟩
      rcases hS : textOf bs T 12 with ⟨n5, t5, e5⟩
      rcases hM : numOf bs t5 with ⟨n6, t6, e6⟩
      have b5 : t5 ≤ bs.length := by have := textOf_le bs T 12; rw [hS] at this; exact this
      have b6 : t6 ≤ bs.length := by have := numOf_le bs t5; rw [hM] at this; exact this
      have C5 := Lib.hid (CT.out T n5 t5 e5 hT hS)
      have C6 := Lib.hid (CN.out t5 n6 t6 e6 b5 hM)
      have HF2 := HF.out
      rw [hm] at HF2
      clear CT CN HF
      by_cases y5 : e5 ≠ 0
      · have d5 : (e5 == 0) = false := by simpa using y5
        rw [finP_text bs k s d G T m n5 t5 e5 hS y5] at HF2
        have HF := Lib.hid HF2
        clear HF2 hS hM y5
        go_wp2_with (go_at_call 38; refine (C5.out _ HG.out.below).mono ?_; rintro e w5 ⟨rfl, hb5⟩; have HG5 := Lib.hid (HG.out.later hb5); obtain ⟨c0, c1, c2, c3, f0⟩ := HG5.out.zc)
        rw [HF.out]
        refine bodyPost_ret (by simp [results, Try.results13, go_sem, c0, c1, c2, c3] <;> rfl) rfl (GetsP.zeroed rfl (set4 HG5.out.below _ _ _ _))
      obtain rfl : e5 = 0 := by omega
      by_cases y6 : e6 ≠ 0
      · have d6 : (e6 == 0) = false := by simpa using y6
        rw [finP_num bs k s d G T m n5 t5 n6 t6 e6 hS hM y6] at HF2
        have HF := Lib.hid HF2
        clear HF2 hS hM y5 y6
        go_wp2_with (first
          | (go_at_call 38; refine (C5.out _ HG.out.below).mono ?_; rintro e w5 ⟨rfl, hb5⟩; have HG5 := Lib.hid (HG.out.later hb5))
          | (go_at_call 37; refine (C6.out _ HG5.out.below).mono ?_; rintro e w6 ⟨rfl, hb6⟩; have HG6 := Lib.hid (HG5.out.later hb6); obtain ⟨c0, c1, c2, c3, f0⟩ := HG6.out.zc))
        rw [HF.out]
        refine bodyPost_ret (by simp [results, Try.results13, go_sem, c0, c1, c2, c3] <;> rfl) rfl (GetsP.zeroed rfl (set4 HG6.out.below _ _ _ _))
      obtain rfl : e6 = 0 := by omega
      rw [finP_succ bs k s d G T m n5 t5 n6 t6 hS hM] at HF2
      have HF := Lib.hid HF2
      clear HF2 hS hM y5 y6
      go_wp2_with (first
        | (go_at_call 38; refine (C5.out _ HG.out.below).mono ?_; rintro e w5 ⟨rfl, hb5⟩; have HG5 := Lib.hid (HG.out.later hb5))
        | (go_at_call 37; refine (C6.out _ HG5.out.below).mono ?_; rintro e w6 ⟨rfl, hb6⟩; have HG6 := Lib.hid (HG5.out.later hb6); obtain ⟨x0, x1, x2, x3, fb⟩ := HG6.out.bc; have HG7 := Lib.hid (HG6.out.later (newAlloc w6 (.cells #[.string (bstr n5), .int .i64 n6] 49))); obtain ⟨p0, p1, p2, p3, pf⟩ := HG7.out.bc)
        | (at_builtin; refine wpList_append_own_at (w6.alloc (.cells #[.string (bstr n5), .int .i64 n6] 49)) rfl (.tmp 99) (.tmp 103) 23 rfl (A + 1) 49 i0 _ 2 24 Try.underlying23 hi hz0 hz1 hz2 rfl (by omega) _ G.length _ rfl HG7.out.own ⟨w6.heap.size, 0, none⟩ 1 1 [.string (bstr n5), .int .i64 n6] rfl rfl (World.news_of_block (cs := #[.string (bstr n5), .int .i64 n6]) (t := 49) (fr := (0, 0)) (by show (w6.heap.push _)[w6.heap.size]? = _; simp)) (by simp [Value.oneCell']) (by unfold maxLen; omega) (by omega) (get_lt HG7.out.box) ?_; intro v8 w8 hown8 hgrow8 _ _; obtain ⟨a8, c8, rfl⟩ := Rw.own_form hown8; obtain ⟨y0, y1, y2, y3, yf⟩ := box_cells (GR.mid HG6.out hgrow8); have HG8 := Lib.hid (GR.push (g := ⟨n5, n6⟩) HG6.out hown8 hgrow8)))
      have hG8 := HG8.out
      rw [hGl] at hG8
      refine ⟨⟨j + 1, t6, _, G ++ [⟨n5, n6⟩], by omega, by go_num, rfl, by simp [hGl], b6, Lib.hid hG8, ?_⟩, by simp [intOf]; omega⟩
      rw [show N - (j + 1) = m by omega]
      exact HF
    · obtain rfl : j = N := by omega
      have HF2 := HF.out
      rw [Nat.sub_self, finP_zero] at HF2
      clear hGl CT CN
      clear x0 x1 x2 x3 fb
      obtain ⟨a0, p0, rfl⟩ := Rw.own_form HG.out.own
      obtain ⟨x0, x1, x2, x3, fb⟩ := HG.out.bc
      have C9 : Hid (∀ w', Below wr.heap.size wr w' → Calls Try.prog 15 #[.agg #[.int .i64 k, .int .i64 s, .int .i64 d, .slice a0 G.length p0]] w' (SaysB (mayP ⟨k, s, d, G⟩) w')) := fun w' hb => MayReply_any ⟨k, s, d, G⟩ _ w' ((RdH.own HG.out.own).later hb)
      cases hm : mayP ⟨k, s, d, G⟩
      · rw [hm, if_neg (by simp)] at HF2
        have HM := Lib.hid hm
        have HF := Lib.hid HF2
        clear hm HF2
        go_wp2_with (go_at_call 15; refine (C9.out _ (Below.refl _ _)).mono ?_; rw [HM.out]; rintro e w9 ⟨rfl, hb9⟩; have HG9 := Lib.hid (HG.out.later hb9); obtain ⟨c0, c1, c2, c3, f0⟩ := HG9.out.zc)
        rw [HF.out]
        refine bodyPost_ret (by simp [results, Try.results13, go_sem, c0, c1, c2, c3] <;> rfl) rfl (GetsP.zeroed rfl (set4 HG9.out.below _ _ _ _))
      · rw [hm, if_pos rfl] at HF2
        have HM := Lib.hid hm
        have HF := Lib.hid HF2
        clear hm HF2
        go_wp2_with (go_at_call 15; refine (C9.out _ (Below.refl _ _)).mono ?_; rw [HM.out]; rintro e w9 ⟨rfl, hb9⟩; have HG9 := Lib.hid (HG.out.later hb9); obtain ⟨c0, c1, c2, c3, f0⟩ := HG9.out.zc; obtain ⟨x0, x1, x2, x3, fb⟩ := HG9.out.bc)
        rw [HF.out]
        refine bodyPost_ret (by simp [results, Try.results13, go_sem, c0, c1, c2, c3] <;> rfl) rfl ⟨.slice a0 G.length p0, rfl, HG9.out.fin _ _ _ _, set4 HG9.out.below _ _ _ _⟩
end Cm
end Go.Proofs.Ytklnopgnlnfbnaa
