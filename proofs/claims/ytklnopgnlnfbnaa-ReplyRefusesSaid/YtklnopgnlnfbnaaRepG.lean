/- Contracts: the document's GetAnswer. -/
import Derived.Test.YtklnopgnlnfbnaaRepF
set_option linter.unusedVariables false
set_option linter.unusedSimpArgs false
namespace Go.Proofs.Ytklnopgnlnfbnaa
open Go.RowKit
namespace Cm

theorem set6 {w w1 : World} (h : Below w.heap.size w w1) (x y z u v s : Value) : Below w.heap.size w ((((((w1.setCell ⟨w.heap.size, 0, none⟩ x).setCell ⟨w.heap.size, 1, none⟩ y).setCell ⟨w.heap.size, 2, none⟩ z).setCell ⟨w.heap.size, 3, none⟩ u).setCell ⟨w.heap.size, 4, none⟩ v).setCell ⟨w.heap.size, 5, none⟩ s) :=
  (((((h.setCell (Nat.le_refl _) _).setCell (Nat.le_refl _) _).setCell (Nat.le_refl _) _).setCell (Nat.le_refl _) _).setCell (Nat.le_refl _) _).setCell (Nat.le_refl _) _

theorem own_set6 {w w1 : World} {base n : Nat} {e : TypeId} {v : Value} {xs : List Value} (h : w1.ownsRow base e 2 v n xs) (hb : w.heap.size < base) (x y z u t s : Value) :
    ((((((w1.setCell ⟨w.heap.size, 0, none⟩ x).setCell ⟨w.heap.size, 1, none⟩ y).setCell ⟨w.heap.size, 2, none⟩ z).setCell ⟨w.heap.size, 3, none⟩ u).setCell ⟨w.heap.size, 4, none⟩ t).setCell ⟨w.heap.size, 5, none⟩ s).ownsRow base e 2 v n xs := by
  refine Rw.own_keep h fun g hg => ?_
  have h1 := (Rw.own_lt h g hg).1
  rw [Below.heap_setCell _ _ _ _ (by show g ≠ w.heap.size; omega), Below.heap_setCell _ _ _ _ (by show g ≠ w.heap.size; omega), Below.heap_setCell _ _ _ _ (by show g ≠ w.heap.size; omega), Below.heap_setCell _ _ _ _ (by show g ≠ w.heap.size; omega), Below.heap_setCell _ _ _ _ (by show g ≠ w.heap.size; omega), Below.heap_setCell _ _ _ _ (by show g ≠ w.heap.size; omega)]

/-- An answer, a place and a code told; what it holds is new. -/
def GetsA (r : AnsV × Int × Int) (w : World) (e : Ending) (w' : World) : Prop :=
  ∃ v, e = .returned (.tuple #[ansVal r.1 v, .int .i64 r.2.1, .int .i64 r.2.2]) ∧ w'.ownsRow (w.heap.size + 1) 49 2 v r.1.rep.held.length (gCells r.1.rep.held) ∧ Below w.heap.size w w'

theorem GetsA.zeroed {w w' : World} {e : Ending} {c : Int} (he : e = .returned (.tuple #[.agg #[.int .i64 0, .int .i64 0, .int .i64 0, .int .i64 0, .int .i64 0, .slice none 0 0], .int .i64 0, .int .i64 c])) (hb : Below w.heap.size w w') : GetsA (zeroA, 0, c) w e w' :=
  ⟨.slice none 0 0, he, World.ownsRow_nil _ _ _ _, hb⟩

theorem getA_told (bs : List UInt8) (t : Int) {k t1 e1 s t2 e2 t3 e3 : Int} {c : ReplyV} (hB : byteOf bs t = (k, t1, e1)) (hN : numOf bs t1 = (s, t2, e2)) (hT : getP bs t2 = (c, t3, e3)) :
    getA bs t = if e1 ≠ 0 then (zeroA, 0, e1) else if e2 ≠ 0 then (zeroA, 0, e2) else if e3 ≠ 0 then (zeroA, 0, e3) else if mayA ⟨k, s, c⟩ then (⟨k, s, c⟩, t3, 0) else (zeroA, 0, 4) := by
  unfold getA
  rw [hB]
  dsimp only
  rw [hN]
  dsimp only
  rw [hT]

set_option maxHeartbeats 4000000 in
theorem GetAnswer_any (v : Value) (bs : List UInt8) (t : Int) (w : World) (h : Rd w v bs) (ht : t ≤ 9223372036854775807) :
    Calls Try.prog 22 #[v, .int .i64 t] w (GetsA (getA bs t) w) := by
  have hlen := Rd.len_le h
  unfold maxLen at hlen
  rcases hB : byteOf bs t with ⟨k, t1, e1⟩
  rcases hN : numOf bs t1 with ⟨s, t2, e2⟩
  rcases hT : getP bs t2 with ⟨⟨rk, rs, rd, rl⟩, t3, e3⟩
  have b1 : t1 ≤ bs.length := by have := byteOf_le bs t; rw [hB] at this; exact this
  have b2 : t2 ≤ bs.length := by have := numOf_le bs t1; rw [hN] at this; exact this
  have C1 : Hid (∀ w', Below w.heap.size w w' → Calls Try.prog 36 #[v, .int .i64 t] w' (Three (k, t1, e1) w')) := fun w' hb => by rw [← hB]; exact Ref1.Byte_any v bs t w' (h.later hb) ht
  have C2 : Hid (∀ w', Below w.heap.size w w' → Calls Try.prog 37 #[v, .int .i64 t1] w' (Three (s, t2, e2) w')) := fun w' hb => by rw [← hN]; exact Ref1.Num_any v bs t1 w' (h.later hb) (by omega)
  have C3 : Hid (∀ w', Below w.heap.size w w' → Calls Try.prog 13 #[v, .int .i64 t2] w' (fun e w'' => ∃ a p, e = .returned (.tuple #[.agg #[.int .i64 rk, .int .i64 rs, .int .i64 rd, .slice a rl.length p], .int .i64 t3, .int .i64 e3]) ∧ w''.ownsRow (w'.heap.size + 1) 49 2 (.slice a rl.length p) rl.length (gCells rl) ∧ Below w'.heap.size w' w'')) := fun w' hb => by
    have := GetReply_any v bs t2 w' (h.later hb) (by omega)
    rw [hT] at this
    refine this.mono fun e w'' q => ?_
    obtain ⟨u, q1, q2, q3⟩ := q
    obtain ⟨a, p, rfl⟩ := Rw.own_form q2
    exact ⟨a, p, q1, q2, q3⟩
  have C4 : Hid (∀ x w', RdH w' x rl → Calls Try.prog 24 #[ansVal ⟨k, s, ⟨rk, rs, rd, rl⟩⟩ x] w' (SaysB (mayA ⟨k, s, ⟨rk, rs, rd, rl⟩⟩) w')) := fun x w' hx => RefMayAnswer_any _ x w' hx
  unfold ansVal at C4
  dsimp only at C4
  rw [getA_told bs t hB hN hT]
  clear h hB hN hT b1 b2 hlen ht
  by_cases z1 : e1 ≠ 0
  · have d1 : (e1 == 0) = false := by simpa using z1
    rw [if_pos z1]
    go_enter Try.func22, Try.ntmps22
    go_wp2_with (first
      | (go_at_call 36; refine (C1.out _ (newAlloc _ _)).mono ?_; rintro e w1 ⟨rfl, hb1⟩; have B1 := step (newAlloc w _) hb1; obtain ⟨c0, c1, c2, c3, c4, c5⟩ := box6 hb1; have f0 := free6 hb1))
    refine bodyPost_ret (by simp [results, Try.results22, go_sem, c0, c1, c2, c3, c4, c5] <;> rfl) rfl (GetsA.zeroed rfl (set6 B1 _ _ _ _ _ _))
  rw [if_neg z1]
  obtain rfl : e1 = 0 := by omega
  clear z1
  by_cases z2 : e2 ≠ 0
  · have d1 : (e2 == 0) = false := by simpa using z2
    rw [if_pos z2]
    go_enter Try.func22, Try.ntmps22
    go_wp2_with (first
      | (go_at_call 36; refine (C1.out _ (newAlloc _ _)).mono ?_; rintro e w1 ⟨rfl, hb1⟩; have B1 := step (newAlloc w _) hb1; obtain ⟨c0, c1, c2, c3, c4, c5⟩ := box6 hb1; have f0 := free6 hb1)
      | (go_at_call 37; refine (C2.out _ B1).mono ?_; rintro e w2 ⟨rfl, hb2⟩; have B2 := step B1 hb2; have hb2 := step hb1 hb2; obtain ⟨c0, c1, c2, c3, c4, c5⟩ := box6 hb2; have f0 := free6 hb2))
    refine bodyPost_ret (by simp [results, Try.results22, go_sem, c0, c1, c2, c3, c4, c5] <;> rfl) rfl (GetsA.zeroed rfl (set6 B2 _ _ _ _ _ _))
  rw [if_neg z2]
  obtain rfl : e2 = 0 := by omega
  clear z2
  by_cases z3 : e3 ≠ 0
  · have d1 : (e3 == 0) = false := by simpa using z3
    rw [if_pos z3]
    go_enter Try.func22, Try.ntmps22
    go_wp2_with (first
      | (go_at_call 36; refine (C1.out _ (newAlloc _ _)).mono ?_; rintro e w1 ⟨rfl, hb1⟩; have B1 := step (newAlloc w _) hb1; obtain ⟨c0, c1, c2, c3, c4, c5⟩ := box6 hb1; have f0 := free6 hb1)
      | (go_at_call 37; refine (C2.out _ B1).mono ?_; rintro e w2 ⟨rfl, hb2⟩; have B2 := step B1 hb2; have hb2 := step hb1 hb2; obtain ⟨c0, c1, c2, c3, c4, c5⟩ := box6 hb2; have f0 := free6 hb2)
      | (go_at_call 13; refine (C3.out _ B2).mono ?_; rintro e w3 ⟨a3, p3, rfl, ho3, hb3⟩; have HO3 := Lib.hid ho3; have HR3 := Lib.hid (RdH.own ho3); clear ho3; have B3 := stepAlloc (step B2 hb3) (.cells #[.int .i64 rk, .int .i64 rs, .int .i64 rd, .slice a3 rl.length p3] 25); have hb3 := stepAlloc (step hb2 hb3) (.cells #[.int .i64 rk, .int .i64 rs, .int .i64 rd, .slice a3 rl.length p3] 25); obtain ⟨c0, c1, c2, c3, c4, c5⟩ := box6 hb3; have f0 := free6 hb3))
    refine bodyPost_ret (by simp [results, Try.results22, go_sem, c0, c1, c2, c3, c4, c5] <;> rfl) rfl (GetsA.zeroed rfl (set6 B3 _ _ _ _ _ _))
  rw [if_neg z3]
  obtain rfl : e3 = 0 := by omega
  clear z3
  cases hm : mayA ⟨k, s, ⟨rk, rs, rd, rl⟩⟩
  · have HM := Lib.hid hm
    clear hm
    go_enter Try.func22, Try.ntmps22
    go_wp2_with (first
      | (go_at_call 36; refine (C1.out _ (newAlloc _ _)).mono ?_; rintro e w1 ⟨rfl, hb1⟩; have B1 := step (newAlloc w _) hb1; obtain ⟨c0, c1, c2, c3, c4, c5⟩ := box6 hb1; have f0 := free6 hb1)
      | (go_at_call 37; refine (C2.out _ B1).mono ?_; rintro e w2 ⟨rfl, hb2⟩; have B2 := step B1 hb2; have hb2 := step hb1 hb2; obtain ⟨c0, c1, c2, c3, c4, c5⟩ := box6 hb2; have f0 := free6 hb2)
      | (go_at_call 13; refine (C3.out _ B2).mono ?_; rintro e w3 ⟨a3, p3, rfl, ho3, hb3⟩; have HO3 := Lib.hid ho3; have HR3 := Lib.hid (RdH.own ho3); clear ho3; have B3 := stepAlloc (step B2 hb3) (.cells #[.int .i64 rk, .int .i64 rs, .int .i64 rd, .slice a3 rl.length p3] 25); have hb3 := stepAlloc (step hb2 hb3) (.cells #[.int .i64 rk, .int .i64 rs, .int .i64 rd, .slice a3 rl.length p3] 25); obtain ⟨c0, c1, c2, c3, c4, c5⟩ := box6 hb3; have f0 := free6 hb3)
      | (go_at_call 24; refine (C4.out _ _ (HR3.out.later (stepAlloc (newAlloc _ _) _))).mono ?_; rw [HM.out]; rintro e w4 ⟨rfl, hb4⟩; have B4 := step (stepAlloc B3 _) hb4; obtain ⟨g0, g1, g2, g3, g4, g5⟩ := box6 hb4; simp at g0 g1 g2 g3 g4 g5; have hb4' := step (stepAlloc (newAlloc _ _) _) hb4; have hb4 := step (stepAlloc hb3 _) hb4; obtain ⟨c0, c1, c2, c3, c4, c5⟩ := box6 hb4; have f0 := free6 hb4))
    refine bodyPost_ret (by simp [results, Try.results22, go_sem, c0, c1, c2, c3, c4, c5] <;> rfl) rfl (GetsA.zeroed rfl (set6 B4 _ _ _ _ _ _))
  · have HM := Lib.hid hm
    clear hm
    go_enter Try.func22, Try.ntmps22
    go_wp2_with (first
      | (go_at_call 36; refine (C1.out _ (newAlloc _ _)).mono ?_; rintro e w1 ⟨rfl, hb1⟩; have B1 := step (newAlloc w _) hb1; obtain ⟨c0, c1, c2, c3, c4, c5⟩ := box6 hb1; have f0 := free6 hb1)
      | (go_at_call 37; refine (C2.out _ B1).mono ?_; rintro e w2 ⟨rfl, hb2⟩; have B2 := step B1 hb2; have hb2 := step hb1 hb2; obtain ⟨c0, c1, c2, c3, c4, c5⟩ := box6 hb2; have f0 := free6 hb2)
      | (go_at_call 13; refine (C3.out _ B2).mono ?_; rintro e w3 ⟨a3, p3, rfl, ho3, hb3⟩; have HO3 := Lib.hid ho3; have HR3 := Lib.hid (RdH.own ho3); clear ho3; have B3 := stepAlloc (step B2 hb3) (.cells #[.int .i64 rk, .int .i64 rs, .int .i64 rd, .slice a3 rl.length p3] 25); have hb3 := stepAlloc (step hb2 hb3) (.cells #[.int .i64 rk, .int .i64 rs, .int .i64 rd, .slice a3 rl.length p3] 25); obtain ⟨c0, c1, c2, c3, c4, c5⟩ := box6 hb3; have f0 := free6 hb3)
      | (go_at_call 24; refine (C4.out _ _ (HR3.out.later (stepAlloc (newAlloc _ _) _))).mono ?_; rw [HM.out]; rintro e w4 ⟨rfl, hb4⟩; have B4 := step (stepAlloc B3 _) hb4; obtain ⟨g0, g1, g2, g3, g4, g5⟩ := box6 hb4; simp at g0 g1 g2 g3 g4 g5; have hb4' := step (stepAlloc (newAlloc _ _) _) hb4; have hb4 := step (stepAlloc hb3 _) hb4; obtain ⟨c0, c1, c2, c3, c4, c5⟩ := box6 hb4; have f0 := free6 hb4))
    have ho9 := Rw.own_below HO3.out hb4'
    refine bodyPost_ret (by simp [results, Try.results22, go_sem, c0, c1, c2, c3, c4, c5] <;> rfl) rfl ⟨_, rfl, own_lower (own_set6 ho9 (by have := B2.size; omega) _ _ _ _ _ _) (by have := B2.size; omega), set6 B4 _ _ _ _ _ _⟩
end Cm
end Go.Proofs.Ytklnopgnlnfbnaa
