/- Contracts: package cmd's Put, Get of commands. -/
import Derived.Test.YtgjeheekemebaaaCmdB
import Derived.Test.YtgjeheekemebaaaCat
set_option linter.unusedVariables false
set_option linter.unusedSimpArgs false
namespace Go.Proofs.Ytgjeheekemebaaa
open Go.RowKit
namespace Cm

/-- What lies in a new block of three, later. -/
theorem box3 {w w' : World} {x y z : Value} {t : TypeId} (h : Below (w.alloc (.cells #[x, y, z] t)).heap.size (w.alloc (.cells #[x, y, z] t)) w') :
    w'.cell? ⟨w.heap.size, 0, none⟩ = some x ∧ w'.cell? ⟨w.heap.size, 1, none⟩ = some y ∧ w'.cell? ⟨w.heap.size, 2, none⟩ = some z := by
  have hl : w.heap.size < (w.alloc (.cells #[x, y, z] t)).heap.size := by simp
  refine ⟨?_, ?_, ?_⟩
  · rw [h.cell (p := ⟨w.heap.size, 0, none⟩) hl]; simp [go_sem]
  · rw [h.cell (p := ⟨w.heap.size, 1, none⟩) hl]; simp [go_sem]
  · rw [h.cell (p := ⟨w.heap.size, 2, none⟩) hl]; simp [go_sem]

theorem box5 {w w' : World} {x y z u v : Value} {t : TypeId} (h : Below (w.alloc (.cells #[x, y, z, u, v] t)).heap.size (w.alloc (.cells #[x, y, z, u, v] t)) w') :
    w'.cell? ⟨w.heap.size, 0, none⟩ = some x ∧ w'.cell? ⟨w.heap.size, 1, none⟩ = some y ∧ w'.cell? ⟨w.heap.size, 2, none⟩ = some z ∧ w'.cell? ⟨w.heap.size, 3, none⟩ = some u ∧ w'.cell? ⟨w.heap.size, 4, none⟩ = some v := by
  have hl : w.heap.size < (w.alloc (.cells #[x, y, z, u, v] t)).heap.size := by simp
  refine ⟨?_, ?_, ?_, ?_, ?_⟩
  · rw [h.cell (p := ⟨w.heap.size, 0, none⟩) hl]; simp [go_sem]
  · rw [h.cell (p := ⟨w.heap.size, 1, none⟩) hl]; simp [go_sem]
  · rw [h.cell (p := ⟨w.heap.size, 2, none⟩) hl]; simp [go_sem]
  · rw [h.cell (p := ⟨w.heap.size, 3, none⟩) hl]; simp [go_sem]
  · rw [h.cell (p := ⟨w.heap.size, 4, none⟩) hl]; simp [go_sem]

/-- Bytes and a code told; the slice written out. -/
def MadeS (r : List UInt8 × Int) (w : World) (e : Ending) (w' : World) : Prop :=
  ∃ a l c, e = .returned (.tuple #[.slice a l c, .int .i64 r.2]) ∧ Rd w' (.slice a l c) r.1 ∧ Below w.heap.size w w'

theorem Made.s {r : List UInt8 × Int} {w : World} {e : Ending} {w' : World} (h : Made r w e w') : MadeS r w e w' := by
  obtain ⟨v, he, ho, hb⟩ := h
  have hr := Rd.own ho
  obtain ⟨a, l, c, rfl, _⟩ := hr.ex
  exact ⟨a, l, c, he, hr, hb⟩

theorem PutByte_in (k : Int) (w : World) (h0 : 0 ≤ k) (h1 : k ≤ 255) : Calls Try.prog 26 #[.int .i64 k] w (MadeS ([UInt8.ofNat k.toNat], 0) w) := by
  refine (PutByte_any k w).mono fun e w' h => ?_
  unfold putByteOf at h
  rw [if_neg (by omega)] at h
  exact Made.s h

theorem PutNum_in (k : Int) (w : World) (h0 : 0 ≤ k) (h1 : k ≤ 2305843009213693952) : Calls Try.prog 27 #[.int .i64 k] w (MadeS (be8 k.toNat, 0) w) := by
  refine (PutNum_any k w).mono fun e w' h => ?_
  unfold putNumOf at h
  rw [if_neg (by omega)] at h
  exact Made.s h

theorem PutText_in (s : List UInt8) (w : World) (h1 : s.length ≤ 12) : Calls Try.prog 28 #[.string (bstr s)] w (MadeS (UInt8.ofNat s.length :: s, 0) w) := by
  refine (PutText_any (bstr s) w).mono fun e w' h => ?_
  unfold putTextOf at h
  rw [bstr_size, if_neg (by omega), bstr_toList] at h
  exact Made.s h

theorem MadeOne.made {bs : List UInt8} {w0 w w' : World} {e : Ending} (h : MadeOne bs w e w') (hb : w0.heap.size ≤ w.heap.size) : ∃ v, e = .returned v ∧ w'.ownsRow w0.heap.size 5 1 v bs.length (cellsOf bs) ∧ Below w.heap.size w w' := by
  obtain ⟨v, he, ho, hbb⟩ := h
  exact ⟨v, he, own_mono ho hb, hbb⟩

set_option maxHeartbeats 1000000 in
theorem Put_any (c : CmdV) (w : World) : Calls Try.prog 10 #[cmdVal c] w (Made (putF c) w) := by
  have C0 := Lib.hid (fun w => May_any c w)
  unfold putF
  cases hm : mayF c
  · have HM := Lib.hid hm
    clear hm
    obtain ⟨k, s, n⟩ := c
    unfold cmdVal at C0 ⊢
    dsimp only at C0 ⊢
    go_enter Try.func10, Try.ntmps10
    go_wp2_with (go_at_call 14; refine (C0.out _).mono ?_; rw [HM.out]; rintro e w1 ⟨rfl, hb1⟩)
    go_ret2
    exact ⟨_, rfl, World.ownsRow_nil _ _ _ _, step (newAlloc _ _) hb1⟩
  · obtain ⟨hk, hs, hn⟩ := may_bounds c hm
    have HM := Lib.hid hm
    clear hm
    have hbl : bytesC c = [UInt8.ofNat c.kind.toNat] ++ (be8 c.session.toNat ++ (UInt8.ofNat c.name.length :: c.name)) := rfl
    have HBL := Lib.hid hbl
    clear hbl
    obtain ⟨k, s, n⟩ := c
    unfold cmdVal at C0 ⊢
    dsimp only at C0 hk hs hn HBL ⊢
    have C1 := Lib.hid (fun w => PutByte_in k w (by omega) (by omega))
    have C2 := Lib.hid (fun w => PutNum_in s w (by omega) (by omega))
    have C3 := Lib.hid (fun w => PutText_in n w hn)
    go_enter Try.func10, Try.ntmps10
    go_wp2_with (first
      | (go_at_call 14; refine (C0.out _).mono ?_; rw [HM.out]; rintro e w1 ⟨rfl, hb1⟩; obtain ⟨c0, c1, c2⟩ := box3 hb1)
      | (go_at_call 26; refine (C1.out _).mono ?_; rintro e w2 ⟨a2, l2, d2, rfl, hr2, hb2⟩; obtain ⟨c0, c1, c2⟩ := box3 (step hb1 hb2))
      | (go_at_call 27; refine (C2.out _).mono ?_; rintro e w3 ⟨a3, l3, d3, rfl, hr3, hb3⟩; obtain ⟨c0, c1, c2⟩ := box3 (step (step hb1 hb2) hb3))
      | (go_at_call 28; refine (C3.out _).mono ?_; rintro e w4 ⟨a4, l4, d4, rfl, hr4, hb4⟩; obtain ⟨c0, c1, c2⟩ := box3 (step (step (step hb1 hb2) hb3) hb4)))
    have hb := step (step (step (step (newAlloc _ _) hb1) hb2) hb3) hb4
    refine ((Concat_three _ w4.heap.size _ _ _ _ _ _ (hr2.later (stepAlloc (step hb3 hb4) _)) (hr3.later (stepAlloc hb4 _)) (hr4.later (newAlloc _ _)) (by simp [go_sem]) (by simp [go_sem]) (by simp [go_sem]) (by simp) (by simp [be8_length]; omega)).mono fun e w' h => MadeOne.made h (w0 := w) (Nat.le_trans hb.size (by simp))).mono ?_
    rintro e w5 ⟨v, rfl, ho, hb5⟩
    go_wp2
    go_ret2
    rw [HBL.out]
    exact ⟨_, rfl, ho, step (stepAlloc hb _) hb5⟩

theorem Rd.len_le {w : World} {v : Value} {bs : List UInt8} (h : Rd w v bs) : bs.length ≤ maxLen := by
  obtain ⟨a, l, c, _, h1, h2, h3, _⟩ := h.ex
  omega

theorem byteOf_le (bs : List UInt8) (t : Int) : (byteOf bs t).2.1 ≤ bs.length := by
  unfold byteOf
  split
  · simp
  · simp only; omega

theorem numOf_le (bs : List UInt8) (t : Int) : (numOf bs t).2.1 ≤ bs.length := by
  unfold numOf
  split
  · simp
  · split
    · simp only; omega
    · simp

theorem textOf_le (bs : List UInt8) (t m : Int) : (textOf bs t m).2.1 ≤ bs.length := by
  unfold textOf
  split
  · simp
  · split
    · simp
    · split
      · simp
      · simp only; omega

/-- A command, a place and a code told. -/
def GetsC (r : CmdV × Int × Int) (w : World) (e : Ending) (w' : World) : Prop :=
  e = .returned (.tuple #[cmdVal r.1, .int .i64 r.2.1, .int .i64 r.2.2]) ∧ Below w.heap.size w w'

theorem getF_told (bs : List UInt8) (t : Int) {k t1 e1 s t2 e2 t3 e3 : Int} {n : List UInt8} (hB : byteOf bs t = (k, t1, e1)) (hN : numOf bs t1 = (s, t2, e2)) (hT : textOf bs t2 12 = (n, t3, e3)) :
    getF bs t = if e1 ≠ 0 then (zero, 0, e1) else if e2 ≠ 0 then (zero, 0, e2) else if e3 ≠ 0 then (zero, 0, e3) else if mayF ⟨k, s, n⟩ then (⟨k, s, n⟩, t3, 0) else (zero, 0, 4) := by
  unfold getF
  rw [hB]
  dsimp only
  rw [hN]
  dsimp only
  rw [hT]

theorem free3 {w w' : World} {x y z : Value} {t : TypeId} (h : Below (w.alloc (.cells #[x, y, z] t)).heap.size (w.alloc (.cells #[x, y, z] t)) w') :
    ∀ k, w'.frozen? ⟨w.heap.size, k, none⟩ = false := by
  intro k
  have hl : w.heap.size < (w.alloc (.cells #[x, y, z] t)).heap.size := by simp
  rw [h.frozen (p := ⟨w.heap.size, k, none⟩) hl]
  simp [go_sem]

theorem set3 {w w1 : World} (h : Below w.heap.size w w1) (x y z : Value) : Below w.heap.size w (((w1.setCell ⟨w.heap.size, 0, none⟩ x).setCell ⟨w.heap.size, 1, none⟩ y).setCell ⟨w.heap.size, 2, none⟩ z) :=
  ((h.setCell (Nat.le_refl _) _).setCell (Nat.le_refl _) _).setCell (Nat.le_refl _) _

set_option maxHeartbeats 2000000 in
theorem Get_any (v : Value) (bs : List UInt8) (t : Int) (w : World) (h : Rd w v bs) (ht : t ≤ 9223372036854775807) :
    Calls Try.prog 12 #[v, .int .i64 t] w (GetsC (getF bs t) w) := by
  have hlen := Rd.len_le h
  unfold maxLen at hlen
  rcases hB : byteOf bs t with ⟨k, t1, e1⟩
  rcases hN : numOf bs t1 with ⟨s, t2, e2⟩
  rcases hT : textOf bs t2 12 with ⟨n, t3, e3⟩
  have b1 : t1 ≤ bs.length := by have := byteOf_le bs t; rw [hB] at this; exact this
  have b2 : t2 ≤ bs.length := by have := numOf_le bs t1; rw [hN] at this; exact this
  have C1 : Hid (∀ w', Below w.heap.size w w' → Calls Try.prog 31 #[v, .int .i64 t] w' (Three (k, t1, e1) w')) := fun w' hb => by rw [← hB]; exact Byte_any v bs t w' (h.later hb) ht
  have C2 : Hid (∀ w', Below w.heap.size w w' → Calls Try.prog 32 #[v, .int .i64 t1] w' (Three (s, t2, e2) w')) := fun w' hb => by rw [← hN]; exact Num_any v bs t1 w' (h.later hb) (by omega)
  have C3 : Hid (∀ w', Below w.heap.size w w' → Calls Try.prog 33 #[v, .int .i64 t2, .int .i64 12] w' (TextTold (n, t3, e3) w')) := fun w' hb => by rw [← hT]; exact Text_any v bs t2 12 w' (h.later hb) (by omega)
  have C4 : Hid (∀ w', Calls Try.prog 14 #[cmdVal ⟨k, s, n⟩] w' (SaysB (mayF ⟨k, s, n⟩) w')) := fun w' => May_any _ w'
  unfold cmdVal at C4
  dsimp only at C4
  rw [getF_told bs t hB hN hT]
  clear h hB hN hT b1 b2 hlen ht
  by_cases z1 : e1 ≠ 0
  · have d1 : (e1 == 0) = false := by simpa using z1
    rw [if_pos z1]
    go_enter Try.func12, Try.ntmps12
    go_wp2_with (first
      | (go_at_call 31; refine (C1.out _ (newAlloc _ _)).mono ?_; rintro e w1 ⟨rfl, hb1⟩; have B1 := step (newAlloc w _) hb1; obtain ⟨c0, c1, c2⟩ := box3 hb1; have f0 := free3 hb1))
    refine bodyPost_ret (by simp [results, Try.results12, go_sem, c0, c1, c2]; rfl) rfl ⟨rfl, set3 B1 _ _ _⟩
  rw [if_neg z1]
  obtain rfl : e1 = 0 := by omega
  clear z1
  by_cases z2 : e2 ≠ 0
  · have d1 : (e2 == 0) = false := by simpa using z2
    rw [if_pos z2]
    go_enter Try.func12, Try.ntmps12
    go_wp2_with (first
      | (go_at_call 31; refine (C1.out _ (newAlloc _ _)).mono ?_; rintro e w1 ⟨rfl, hb1⟩; have B1 := step (newAlloc w _) hb1; obtain ⟨c0, c1, c2⟩ := box3 hb1; have f0 := free3 hb1)
      | (go_at_call 32; refine (C2.out _ B1).mono ?_; rintro e w2 ⟨rfl, hb2⟩; have B2 := step B1 hb2; have hb2 := step hb1 hb2; obtain ⟨c0, c1, c2⟩ := box3 hb2; have f0 := free3 hb2))
    refine bodyPost_ret (by simp [results, Try.results12, go_sem, c0, c1, c2]; rfl) rfl ⟨rfl, set3 B2 _ _ _⟩
  rw [if_neg z2]
  obtain rfl : e2 = 0 := by omega
  clear z2
  by_cases z3 : e3 ≠ 0
  · have d1 : (e3 == 0) = false := by simpa using z3
    rw [if_pos z3]
    go_enter Try.func12, Try.ntmps12
    go_wp2_with (first
      | (go_at_call 31; refine (C1.out _ (newAlloc _ _)).mono ?_; rintro e w1 ⟨rfl, hb1⟩; have B1 := step (newAlloc w _) hb1; obtain ⟨c0, c1, c2⟩ := box3 hb1; have f0 := free3 hb1)
      | (go_at_call 32; refine (C2.out _ B1).mono ?_; rintro e w2 ⟨rfl, hb2⟩; have B2 := step B1 hb2; have hb2 := step hb1 hb2; obtain ⟨c0, c1, c2⟩ := box3 hb2; have f0 := free3 hb2)
      | (go_at_call 33; refine (C3.out _ B2).mono ?_; rintro e w3 ⟨rfl, hb3⟩; have B3 := step B2 hb3; have hb3 := step hb2 hb3; obtain ⟨c0, c1, c2⟩ := box3 hb3; have f0 := free3 hb3))
    refine bodyPost_ret (by simp [results, Try.results12, go_sem, c0, c1, c2]; rfl) rfl ⟨rfl, set3 B3 _ _ _⟩
  rw [if_neg z3]
  obtain rfl : e3 = 0 := by omega
  clear z3
  cases hm : mayF ⟨k, s, n⟩
  · have HM := Lib.hid hm
    clear hm
    go_enter Try.func12, Try.ntmps12
    go_wp2_with (first
      | (go_at_call 31; refine (C1.out _ (newAlloc _ _)).mono ?_; rintro e w1 ⟨rfl, hb1⟩; have B1 := step (newAlloc w _) hb1; obtain ⟨c0, c1, c2⟩ := box3 hb1; have f0 := free3 hb1)
      | (go_at_call 32; refine (C2.out _ B1).mono ?_; rintro e w2 ⟨rfl, hb2⟩; have B2 := step B1 hb2; have hb2 := step hb1 hb2; obtain ⟨c0, c1, c2⟩ := box3 hb2; have f0 := free3 hb2)
      | (go_at_call 33; refine (C3.out _ B2).mono ?_; rintro e w3 ⟨rfl, hb3⟩; have B3 := step B2 hb3; have hb3 := step hb2 hb3; obtain ⟨c0, c1, c2⟩ := box3 hb3; have f0 := free3 hb3)
      | (go_at_call 14; refine (C4.out _).mono ?_; rw [HM.out]; rintro e w4 ⟨rfl, hb4⟩; have B4 := step (stepAlloc B3 _) hb4; obtain ⟨g0, g1, g2⟩ := box3 hb4; have hb4 := step (stepAlloc hb3 _) hb4; obtain ⟨c0, c1, c2⟩ := box3 hb4; have f0 := free3 hb4))
    refine bodyPost_ret (by simp [results, Try.results12, go_sem, c0, c1, c2]; rfl) rfl ⟨rfl, set3 B4 _ _ _⟩
  · have HM := Lib.hid hm
    clear hm
    go_enter Try.func12, Try.ntmps12
    go_wp2_with (first
      | (go_at_call 31; refine (C1.out _ (newAlloc _ _)).mono ?_; rintro e w1 ⟨rfl, hb1⟩; have B1 := step (newAlloc w _) hb1; obtain ⟨c0, c1, c2⟩ := box3 hb1; have f0 := free3 hb1)
      | (go_at_call 32; refine (C2.out _ B1).mono ?_; rintro e w2 ⟨rfl, hb2⟩; have B2 := step B1 hb2; have hb2 := step hb1 hb2; obtain ⟨c0, c1, c2⟩ := box3 hb2; have f0 := free3 hb2)
      | (go_at_call 33; refine (C3.out _ B2).mono ?_; rintro e w3 ⟨rfl, hb3⟩; have B3 := step B2 hb3; have hb3 := step hb2 hb3; obtain ⟨c0, c1, c2⟩ := box3 hb3; have f0 := free3 hb3)
      | (go_at_call 14; refine (C4.out _).mono ?_; rw [HM.out]; rintro e w4 ⟨rfl, hb4⟩; have B4 := step (stepAlloc B3 _) hb4; obtain ⟨g0, g1, g2⟩ := box3 hb4; have hb4 := step (stepAlloc hb3 _) hb4; obtain ⟨c0, c1, c2⟩ := box3 hb4; have f0 := free3 hb4))
    refine bodyPost_ret (by simp [results, Try.results12, go_sem, c0, c1, c2]; rfl) rfl ⟨rfl, set3 B4 _ _ _⟩
end Cm
end Go.Proofs.Ytgjeheekemebaaa
