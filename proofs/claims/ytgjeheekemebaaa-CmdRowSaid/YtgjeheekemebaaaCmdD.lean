/- Contracts: package cmd's PutReq, GetReq. -/
import Derived.Test.YtgjeheekemebaaaCmdC
set_option linter.unusedVariables false
set_option linter.unusedSimpArgs false
namespace Go.Proofs.Ytgjeheekemebaaa
open Go.RowKit
namespace Cm

theorem Put_in (c : CmdV) (h : mayF c = true) (w : World) : Calls Try.prog 10 #[cmdVal c] w (MadeS (bytesC c, 0) w) := by
  refine (Put_any c w).mono fun e w' q => ?_
  unfold putF at q
  rw [if_pos h] at q
  exact Made.s q

set_option maxHeartbeats 1000000 in
theorem PutReq_any (r : ReqV) (w : World) : Calls Try.prog 18 #[reqVal r] w (Made (putR r) w) := by
  have C0 := Lib.hid (fun w => MayReq_any r w)
  unfold putR
  cases hm : mayR r
  · have HM := Lib.hid hm
    clear hm
    obtain ⟨c, q, k, s, n⟩ := r
    unfold reqVal at C0 ⊢
    dsimp only at C0 ⊢
    go_enter Try.func18, Try.ntmps18
    go_wp2_with (go_at_call 22; refine (C0.out _).mono ?_; rw [HM.out]; rintro e w1 ⟨rfl, hb1⟩)
    go_ret2
    exact ⟨_, rfl, World.ownsRow_nil _ _ _ _, step (newAlloc _ _) hb1⟩
  · obtain ⟨hk, hs, hc⟩ := mayR_bounds r hm
    have hbl : bytesR r = [UInt8.ofNat r.client.toNat] ++ (be8 r.seq.toNat ++ bytesC r.cmd) := rfl
    have hln := bytesC_length r.cmd
    have hn := (may_bounds _ hc).2.2
    have C3 := Lib.hid (fun w => Put_in r.cmd hc w)
    have HM := Lib.hid hm
    clear hm hc
    have HBL := Lib.hid hbl
    clear hbl
    obtain ⟨c, q, k, s, n⟩ := r
    unfold cmdVal at C3
    unfold reqVal at C0 ⊢
    dsimp only at C0 C3 hk hs hn hln HBL ⊢
    generalize bytesC ⟨k, s, n⟩ = cb at hln C3 HBL
    have C1 := Lib.hid (fun w => PutByte_in c w (by omega) (by omega))
    have C2 := Lib.hid (fun w => PutNum_in q w (by omega) (by omega))
    go_enter Try.func18, Try.ntmps18
    go_wp2_with (first
      | (go_at_call 22; refine (C0.out _).mono ?_; rw [HM.out]; rintro e w1 ⟨rfl, hb1⟩; obtain ⟨c0, c1, c2, c3, c4⟩ := box5 hb1)
      | (go_at_call 26; refine (C1.out _).mono ?_; rintro e w2 ⟨a2, l2, d2, rfl, hr2, hb2⟩; obtain ⟨c0, c1, c2, c3, c4⟩ := box5 (step hb1 hb2))
      | (go_at_call 27; refine (C2.out _).mono ?_; rintro e w3 ⟨a3, l3, d3, rfl, hr3, hb3⟩; obtain ⟨c0, c1, c2, c3, c4⟩ := box5 (step (step hb1 hb2) hb3))
      | (go_at_call 10; refine (C3.out _).mono ?_; rintro e w4 ⟨a4, l4, d4, rfl, hr4, hb4⟩))
    have hb := step (step (step (step (newAlloc _ _) hb1) hb2) hb3) hb4
    refine ((Concat_three _ w4.heap.size _ _ _ _ _ _ (hr2.later (stepAlloc (step hb3 hb4) _)) (hr3.later (stepAlloc hb4 _)) (hr4.later (newAlloc _ _)) (by simp [go_sem]) (by simp [go_sem]) (by simp [go_sem]) (by simp) (by simp [be8_length]; omega)).mono fun e w' h => MadeOne.made h (w0 := w) (Nat.le_trans hb.size (by simp))).mono ?_
    rintro e w5 ⟨v, rfl, ho, hb5⟩
    go_wp2
    go_ret2
    rw [HBL.out]
    exact ⟨_, rfl, ho, step (stepAlloc hb _) hb5⟩

/-- A request, a place and a code told. -/
def GetsR (r : ReqV × Int × Int) (w : World) (e : Ending) (w' : World) : Prop :=
  e = .returned (.tuple #[reqVal r.1, .int .i64 r.2.1, .int .i64 r.2.2]) ∧ Below w.heap.size w w'

theorem getF_le (bs : List UInt8) (t : Int) : (getF bs t).2.1 ≤ bs.length := by
  unfold getF
  split
  · simp
  · split
    · simp
    · split
      · simp
      · split
        · exact textOf_le _ _ _
        · simp

theorem getR_told (bs : List UInt8) (t : Int) {k t1 e1 s t2 e2 t3 e3 : Int} {c : CmdV} (hB : byteOf bs t = (k, t1, e1)) (hN : numOf bs t1 = (s, t2, e2)) (hT : getF bs t2 = (c, t3, e3)) :
    getR bs t = if e1 ≠ 0 then (zeroR, 0, e1) else if e2 ≠ 0 then (zeroR, 0, e2) else if e3 ≠ 0 then (zeroR, 0, e3) else if mayR ⟨k, s, c⟩ then (⟨k, s, c⟩, t3, 0) else (zeroR, 0, 4) := by
  unfold getR
  rw [hB]
  dsimp only
  rw [hN]
  dsimp only
  rw [hT]

theorem free5 {w w' : World} {x y z u v : Value} {t : TypeId} (h : Below (w.alloc (.cells #[x, y, z, u, v] t)).heap.size (w.alloc (.cells #[x, y, z, u, v] t)) w') :
    ∀ k, w'.frozen? ⟨w.heap.size, k, none⟩ = false := by
  intro k
  have hl : w.heap.size < (w.alloc (.cells #[x, y, z, u, v] t)).heap.size := by simp
  rw [h.frozen (p := ⟨w.heap.size, k, none⟩) hl]
  simp [go_sem]

theorem set5 {w w1 : World} (h : Below w.heap.size w w1) (x y z u v : Value) : Below w.heap.size w (((((w1.setCell ⟨w.heap.size, 0, none⟩ x).setCell ⟨w.heap.size, 1, none⟩ y).setCell ⟨w.heap.size, 2, none⟩ z).setCell ⟨w.heap.size, 3, none⟩ u).setCell ⟨w.heap.size, 4, none⟩ v) :=
  ((((h.setCell (Nat.le_refl _) _).setCell (Nat.le_refl _) _).setCell (Nat.le_refl _) _).setCell (Nat.le_refl _) _).setCell (Nat.le_refl _) _

set_option maxHeartbeats 4000000 in
theorem GetReq_any (v : Value) (bs : List UInt8) (t : Int) (w : World) (h : Rd w v bs) (ht : t ≤ 9223372036854775807) :
    Calls Try.prog 20 #[v, .int .i64 t] w (GetsR (getR bs t) w) := by
  have hlen := Rd.len_le h
  unfold maxLen at hlen
  rcases hB : byteOf bs t with ⟨k, t1, e1⟩
  rcases hN : numOf bs t1 with ⟨s, t2, e2⟩
  rcases hT : getF bs t2 with ⟨⟨ck, cs, cn⟩, t3, e3⟩
  have b1 : t1 ≤ bs.length := by have := byteOf_le bs t; rw [hB] at this; exact this
  have b2 : t2 ≤ bs.length := by have := numOf_le bs t1; rw [hN] at this; exact this
  have C1 : Hid (∀ w', Below w.heap.size w w' → Calls Try.prog 31 #[v, .int .i64 t] w' (Three (k, t1, e1) w')) := fun w' hb => by rw [← hB]; exact Byte_any v bs t w' (h.later hb) ht
  have C2 : Hid (∀ w', Below w.heap.size w w' → Calls Try.prog 32 #[v, .int .i64 t1] w' (Three (s, t2, e2) w')) := fun w' hb => by rw [← hN]; exact Num_any v bs t1 w' (h.later hb) (by omega)
  have C3 : Hid (∀ w', Below w.heap.size w w' → Calls Try.prog 12 #[v, .int .i64 t2] w' (fun e w'' => e = .returned (.tuple #[.agg #[.int .i64 ck, .int .i64 cs, .string (bstr cn)], .int .i64 t3, .int .i64 e3]) ∧ Below w'.heap.size w' w'')) := fun w' hb => by
    have := Get_any v bs t2 w' (h.later hb) (by omega)
    rw [hT] at this
    exact this
  have C4 : Hid (∀ w', Calls Try.prog 22 #[reqVal ⟨k, s, ⟨ck, cs, cn⟩⟩] w' (SaysB (mayR ⟨k, s, ⟨ck, cs, cn⟩⟩) w')) := fun w' => MayReq_any _ w'
  unfold reqVal at C4
  dsimp only at C4
  rw [getR_told bs t hB hN hT]
  clear h hB hN hT b1 b2 hlen ht
  by_cases z1 : e1 ≠ 0
  · have d1 : (e1 == 0) = false := by simpa using z1
    rw [if_pos z1]
    go_enter Try.func20, Try.ntmps20
    go_wp2_with (first
      | (go_at_call 31; refine (C1.out _ (newAlloc _ _)).mono ?_; rintro e w1 ⟨rfl, hb1⟩; have B1 := step (newAlloc w _) hb1; obtain ⟨c0, c1, c2, c3, c4⟩ := box5 hb1; have f0 := free5 hb1))
    refine bodyPost_ret (by simp [results, Try.results20, go_sem, c0, c1, c2, c3, c4]; rfl) rfl ⟨rfl, set5 B1 _ _ _ _ _⟩
  rw [if_neg z1]
  obtain rfl : e1 = 0 := by omega
  clear z1
  by_cases z2 : e2 ≠ 0
  · have d1 : (e2 == 0) = false := by simpa using z2
    rw [if_pos z2]
    go_enter Try.func20, Try.ntmps20
    go_wp2_with (first
      | (go_at_call 31; refine (C1.out _ (newAlloc _ _)).mono ?_; rintro e w1 ⟨rfl, hb1⟩; have B1 := step (newAlloc w _) hb1; obtain ⟨c0, c1, c2, c3, c4⟩ := box5 hb1; have f0 := free5 hb1)
      | (go_at_call 32; refine (C2.out _ B1).mono ?_; rintro e w2 ⟨rfl, hb2⟩; have B2 := step B1 hb2; have hb2 := step hb1 hb2; obtain ⟨c0, c1, c2, c3, c4⟩ := box5 hb2; have f0 := free5 hb2))
    refine bodyPost_ret (by simp [results, Try.results20, go_sem, c0, c1, c2, c3, c4]; rfl) rfl ⟨rfl, set5 B2 _ _ _ _ _⟩
  rw [if_neg z2]
  obtain rfl : e2 = 0 := by omega
  clear z2
  by_cases z3 : e3 ≠ 0
  · have d1 : (e3 == 0) = false := by simpa using z3
    rw [if_pos z3]
    go_enter Try.func20, Try.ntmps20
    go_wp2_with (first
      | (go_at_call 31; refine (C1.out _ (newAlloc _ _)).mono ?_; rintro e w1 ⟨rfl, hb1⟩; have B1 := step (newAlloc w _) hb1; obtain ⟨c0, c1, c2, c3, c4⟩ := box5 hb1; have f0 := free5 hb1)
      | (go_at_call 32; refine (C2.out _ B1).mono ?_; rintro e w2 ⟨rfl, hb2⟩; have B2 := step B1 hb2; have hb2 := step hb1 hb2; obtain ⟨c0, c1, c2, c3, c4⟩ := box5 hb2; have f0 := free5 hb2)
      | (go_at_call 12; refine (C3.out _ B2).mono ?_; rintro e w3 ⟨rfl, hb3⟩; have B3 := stepAlloc (step B2 hb3) (.cells #[.int .i64 ck, .int .i64 cs, .string (bstr cn)] 23); have hb3 := stepAlloc (step hb2 hb3) (.cells #[.int .i64 ck, .int .i64 cs, .string (bstr cn)] 23); obtain ⟨c0, c1, c2, c3, c4⟩ := box5 hb3; have f0 := free5 hb3))
    refine bodyPost_ret (by simp [results, Try.results20, go_sem, c0, c1, c2, c3, c4]; rfl) rfl ⟨rfl, set5 B3 _ _ _ _ _⟩
  rw [if_neg z3]
  obtain rfl : e3 = 0 := by omega
  clear z3
  cases hm : mayR ⟨k, s, ⟨ck, cs, cn⟩⟩
  · have HM := Lib.hid hm
    clear hm
    go_enter Try.func20, Try.ntmps20
    go_wp2_with (first
      | (go_at_call 31; refine (C1.out _ (newAlloc _ _)).mono ?_; rintro e w1 ⟨rfl, hb1⟩; have B1 := step (newAlloc w _) hb1; obtain ⟨c0, c1, c2, c3, c4⟩ := box5 hb1; have f0 := free5 hb1)
      | (go_at_call 32; refine (C2.out _ B1).mono ?_; rintro e w2 ⟨rfl, hb2⟩; have B2 := step B1 hb2; have hb2 := step hb1 hb2; obtain ⟨c0, c1, c2, c3, c4⟩ := box5 hb2; have f0 := free5 hb2)
      | (go_at_call 12; refine (C3.out _ B2).mono ?_; rintro e w3 ⟨rfl, hb3⟩; have B3 := stepAlloc (step B2 hb3) (.cells #[.int .i64 ck, .int .i64 cs, .string (bstr cn)] 23); have hb3 := stepAlloc (step hb2 hb3) (.cells #[.int .i64 ck, .int .i64 cs, .string (bstr cn)] 23); obtain ⟨c0, c1, c2, c3, c4⟩ := box5 hb3; have f0 := free5 hb3)
      | (go_at_call 22; refine (C4.out _).mono ?_; rw [HM.out]; rintro e w4 ⟨rfl, hb4⟩; have B4 := step (stepAlloc B3 _) hb4; obtain ⟨g0, g1, g2, g3, g4⟩ := box5 hb4; simp at g0 g1 g2 g3 g4; have hb4 := step (stepAlloc hb3 _) hb4; obtain ⟨c0, c1, c2, c3, c4⟩ := box5 hb4; have f0 := free5 hb4))
    refine bodyPost_ret (by simp [results, Try.results20, go_sem, c0, c1, c2, c3, c4]; rfl) rfl ⟨rfl, set5 B4 _ _ _ _ _⟩
  · have HM := Lib.hid hm
    clear hm
    go_enter Try.func20, Try.ntmps20
    go_wp2_with (first
      | (go_at_call 31; refine (C1.out _ (newAlloc _ _)).mono ?_; rintro e w1 ⟨rfl, hb1⟩; have B1 := step (newAlloc w _) hb1; obtain ⟨c0, c1, c2, c3, c4⟩ := box5 hb1; have f0 := free5 hb1)
      | (go_at_call 32; refine (C2.out _ B1).mono ?_; rintro e w2 ⟨rfl, hb2⟩; have B2 := step B1 hb2; have hb2 := step hb1 hb2; obtain ⟨c0, c1, c2, c3, c4⟩ := box5 hb2; have f0 := free5 hb2)
      | (go_at_call 12; refine (C3.out _ B2).mono ?_; rintro e w3 ⟨rfl, hb3⟩; have B3 := stepAlloc (step B2 hb3) (.cells #[.int .i64 ck, .int .i64 cs, .string (bstr cn)] 23); have hb3 := stepAlloc (step hb2 hb3) (.cells #[.int .i64 ck, .int .i64 cs, .string (bstr cn)] 23); obtain ⟨c0, c1, c2, c3, c4⟩ := box5 hb3; have f0 := free5 hb3)
      | (go_at_call 22; refine (C4.out _).mono ?_; rw [HM.out]; rintro e w4 ⟨rfl, hb4⟩; have B4 := step (stepAlloc B3 _) hb4; obtain ⟨g0, g1, g2, g3, g4⟩ := box5 hb4; simp at g0 g1 g2 g3 g4; have hb4 := step (stepAlloc hb3 _) hb4; obtain ⟨c0, c1, c2, c3, c4⟩ := box5 hb4; have f0 := free5 hb4))
    refine bodyPost_ret (by simp [results, Try.results20, go_sem, c0, c1, c2, c3, c4]; rfl) rfl ⟨rfl, set5 B4 _ _ _ _ _⟩
end Cm
end Go.Proofs.Ytgjeheekemebaaa
