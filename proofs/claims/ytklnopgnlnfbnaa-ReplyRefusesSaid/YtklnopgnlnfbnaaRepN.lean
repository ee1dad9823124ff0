/- Contracts: package reply's GetAnswer. -/
import Derived.Test.YtklnopgnlnfbnaaRepM
set_option linter.unusedVariables false
set_option linter.unusedSimpArgs false
namespace Go.Proofs.Ytklnopgnlnfbnaa
open Go.RowKit
namespace Cm

set_option maxHeartbeats 4000000 in
theorem RepGetAnswer_any (v : Value) (bs : List UInt8) (t : Int) (w : World) (h : Rd w v bs) (ht : t ≤ 9223372036854775807) :
    Calls Try.prog 21 #[v, .int .i64 t] w (GetsA (getA bs t) w) := by
  have hlen := Rd.len_le h
  unfold maxLen at hlen
  rcases hB : byteOf bs t with ⟨k, t1, e1⟩
  rcases hN : numOf bs t1 with ⟨s, t2, e2⟩
  rcases hT : getP bs t2 with ⟨⟨rk, rs, rd, rl⟩, t3, e3⟩
  have b1 : t1 ≤ bs.length := by have := byteOf_le bs t; rw [hB] at this; exact this
  have b2 : t2 ≤ bs.length := by have := numOf_le bs t1; rw [hN] at this; exact this
  have C1 : Hid (∀ w', Below w.heap.size w w' → Calls Try.prog 33 #[v, .int .i64 t] w' (Three (k, t1, e1) w')) := fun w' hb => by rw [← hB]; exact Byte_any v bs t w' (h.later hb) ht
  have C2 : Hid (∀ w', Below w.heap.size w w' → Calls Try.prog 34 #[v, .int .i64 t1] w' (Three (s, t2, e2) w')) := fun w' hb => by rw [← hN]; exact Num_any v bs t1 w' (h.later hb) (by omega)
  have C3 : Hid (∀ w', Below w.heap.size w w' → Calls Try.prog 12 #[v, .int .i64 t2] w' (fun e w'' => ∃ a p, e = .returned (.tuple #[.agg #[.int .i64 rk, .int .i64 rs, .int .i64 rd, .slice a rl.length p], .int .i64 t3, .int .i64 e3]) ∧ w''.ownsRow (w'.heap.size + 1) 49 2 (.slice a rl.length p) rl.length (gCells rl) ∧ Below w'.heap.size w' w'')) := fun w' hb => by
    have := RepGet_any v bs t2 w' (h.later hb) (by omega)
    rw [hT] at this
    refine this.mono fun e w'' q => ?_
    obtain ⟨u, q1, q2, q3⟩ := q
    obtain ⟨a, p, rfl⟩ := Rw.own_form q2
    exact ⟨a, p, q1, q2, q3⟩
  have C4 : Hid (∀ x w', RdH w' x rl → Calls Try.prog 23 #[ansVal ⟨k, s, ⟨rk, rs, rd, rl⟩⟩ x] w' (SaysB (mayA ⟨k, s, ⟨rk, rs, rd, rl⟩⟩) w')) := fun x w' hx => RepMayAnswer_any _ x w' hx
  unfold ansVal at C4
  dsimp only at C4
  rw [getA_told bs t hB hN hT]
  clear h hB hN hT b1 b2 hlen ht
  by_cases z1 : e1 ≠ 0
  · have d1 : (e1 == 0) = false := by simpa using z1
    rw [if_pos z1]
    go_enter Try.func21, Try.ntmps21
    go_wp2_with (first
      | (go_at_call 33; refine (C1.out _ (newAlloc _ _)).mono ?_; rintro e w1 ⟨rfl, hb1⟩; have B1 := step (newAlloc w _) hb1; obtain ⟨c0, c1, c2, c3, c4, c5⟩ := box6 hb1; have f0 := free6 hb1))
    refine bodyPost_ret (by simp [results, Try.results21, go_sem, c0, c1, c2, c3, c4, c5] <;> rfl) rfl (GetsA.zeroed rfl (set6 B1 _ _ _ _ _ _))
  rw [if_neg z1]
  obtain rfl : e1 = 0 := by omega
  clear z1
  by_cases z2 : e2 ≠ 0
  · have d1 : (e2 == 0) = false := by simpa using z2
    rw [if_pos z2]
    go_enter Try.func21, Try.ntmps21
    go_wp2_with (first
      | (go_at_call 33; refine (C1.out _ (newAlloc _ _)).mono ?_; rintro e w1 ⟨rfl, hb1⟩; have B1 := step (newAlloc w _) hb1; obtain ⟨c0, c1, c2, c3, c4, c5⟩ := box6 hb1; have f0 := free6 hb1)
      | (go_at_call 34; refine (C2.out _ B1).mono ?_; rintro e w2 ⟨rfl, hb2⟩; have B2 := step B1 hb2; have hb2 := step hb1 hb2; obtain ⟨c0, c1, c2, c3, c4, c5⟩ := box6 hb2; have f0 := free6 hb2))
    refine bodyPost_ret (by simp [results, Try.results21, go_sem, c0, c1, c2, c3, c4, c5] <;> rfl) rfl (GetsA.zeroed rfl (set6 B2 _ _ _ _ _ _))
  rw [if_neg z2]
  obtain rfl : e2 = 0 := by omega
  clear z2
  by_cases z3 : e3 ≠ 0
  · have d1 : (e3 == 0) = false := by simpa using z3
    rw [if_pos z3]
    go_enter Try.func21, Try.ntmps21
    go_wp2_with (first
      | (go_at_call 33; refine (C1.out _ (newAlloc _ _)).mono ?_; rintro e w1 ⟨rfl, hb1⟩; have B1 := step (newAlloc w _) hb1; obtain ⟨c0, c1, c2, c3, c4, c5⟩ := box6 hb1; have f0 := free6 hb1)
      | (go_at_call 34; refine (C2.out _ B1).mono ?_; rintro e w2 ⟨rfl, hb2⟩; have B2 := step B1 hb2; have hb2 := step hb1 hb2; obtain ⟨c0, c1, c2, c3, c4, c5⟩ := box6 hb2; have f0 := free6 hb2)
      | (go_at_call 12; refine (C3.out _ B2).mono ?_; rintro e w3 ⟨a3, p3, rfl, ho3, hb3⟩; have HO3 := Lib.hid ho3; have HR3 := Lib.hid (RdH.own ho3); clear ho3; have B3 := stepAlloc (step B2 hb3) (.cells #[.int .i64 rk, .int .i64 rs, .int .i64 rd, .slice a3 rl.length p3] 25); have hb3 := stepAlloc (step hb2 hb3) (.cells #[.int .i64 rk, .int .i64 rs, .int .i64 rd, .slice a3 rl.length p3] 25); obtain ⟨c0, c1, c2, c3, c4, c5⟩ := box6 hb3; have f0 := free6 hb3))
    refine bodyPost_ret (by simp [results, Try.results21, go_sem, c0, c1, c2, c3, c4, c5] <;> rfl) rfl (GetsA.zeroed rfl (set6 B3 _ _ _ _ _ _))
  rw [if_neg z3]
  obtain rfl : e3 = 0 := by omega
  clear z3
  cases hm : mayA ⟨k, s, ⟨rk, rs, rd, rl⟩⟩
  · have HM := Lib.hid hm
    clear hm
    go_enter Try.func21, Try.ntmps21
    go_wp2_with (first
      | (go_at_call 33; refine (C1.out _ (newAlloc _ _)).mono ?_; rintro e w1 ⟨rfl, hb1⟩; have B1 := step (newAlloc w _) hb1; obtain ⟨c0, c1, c2, c3, c4, c5⟩ := box6 hb1; have f0 := free6 hb1)
      | (go_at_call 34; refine (C2.out _ B1).mono ?_; rintro e w2 ⟨rfl, hb2⟩; have B2 := step B1 hb2; have hb2 := step hb1 hb2; obtain ⟨c0, c1, c2, c3, c4, c5⟩ := box6 hb2; have f0 := free6 hb2)
      | (go_at_call 12; refine (C3.out _ B2).mono ?_; rintro e w3 ⟨a3, p3, rfl, ho3, hb3⟩; have HO3 := Lib.hid ho3; have HR3 := Lib.hid (RdH.own ho3); clear ho3; have B3 := stepAlloc (step B2 hb3) (.cells #[.int .i64 rk, .int .i64 rs, .int .i64 rd, .slice a3 rl.length p3] 25); have hb3 := stepAlloc (step hb2 hb3) (.cells #[.int .i64 rk, .int .i64 rs, .int .i64 rd, .slice a3 rl.length p3] 25); obtain ⟨c0, c1, c2, c3, c4, c5⟩ := box6 hb3; have f0 := free6 hb3)
      | (go_at_call 23; refine (C4.out _ _ (HR3.out.later (stepAlloc (newAlloc _ _) _))).mono ?_; rw [HM.out]; rintro e w4 ⟨rfl, hb4⟩; have B4 := step (stepAlloc B3 _) hb4; obtain ⟨g0, g1, g2, g3, g4, g5⟩ := box6 hb4; simp at g0 g1 g2 g3 g4 g5; have hb4' := step (stepAlloc (newAlloc _ _) _) hb4; have hb4 := step (stepAlloc hb3 _) hb4; obtain ⟨c0, c1, c2, c3, c4, c5⟩ := box6 hb4; have f0 := free6 hb4))
    refine bodyPost_ret (by simp [results, Try.results21, go_sem, c0, c1, c2, c3, c4, c5] <;> rfl) rfl (GetsA.zeroed rfl (set6 B4 _ _ _ _ _ _))
  · have HM := Lib.hid hm
    clear hm
    go_enter Try.func21, Try.ntmps21
    go_wp2_with (first
      | (go_at_call 33; refine (C1.out _ (newAlloc _ _)).mono ?_; rintro e w1 ⟨rfl, hb1⟩; have B1 := step (newAlloc w _) hb1; obtain ⟨c0, c1, c2, c3, c4, c5⟩ := box6 hb1; have f0 := free6 hb1)
      | (go_at_call 34; refine (C2.out _ B1).mono ?_; rintro e w2 ⟨rfl, hb2⟩; have B2 := step B1 hb2; have hb2 := step hb1 hb2; obtain ⟨c0, c1, c2, c3, c4, c5⟩ := box6 hb2; have f0 := free6 hb2)
      | (go_at_call 12; refine (C3.out _ B2).mono ?_; rintro e w3 ⟨a3, p3, rfl, ho3, hb3⟩; have HO3 := Lib.hid ho3; have HR3 := Lib.hid (RdH.own ho3); clear ho3; have B3 := stepAlloc (step B2 hb3) (.cells #[.int .i64 rk, .int .i64 rs, .int .i64 rd, .slice a3 rl.length p3] 25); have hb3 := stepAlloc (step hb2 hb3) (.cells #[.int .i64 rk, .int .i64 rs, .int .i64 rd, .slice a3 rl.length p3] 25); obtain ⟨c0, c1, c2, c3, c4, c5⟩ := box6 hb3; have f0 := free6 hb3)
      | (go_at_call 23; refine (C4.out _ _ (HR3.out.later (stepAlloc (newAlloc _ _) _))).mono ?_; rw [HM.out]; rintro e w4 ⟨rfl, hb4⟩; have B4 := step (stepAlloc B3 _) hb4; obtain ⟨g0, g1, g2, g3, g4, g5⟩ := box6 hb4; simp at g0 g1 g2 g3 g4 g5; have hb4' := step (stepAlloc (newAlloc _ _) _) hb4; have hb4 := step (stepAlloc hb3 _) hb4; obtain ⟨c0, c1, c2, c3, c4, c5⟩ := box6 hb4; have f0 := free6 hb4))
    have ho9 := Rw.own_below HO3.out hb4'
    refine bodyPost_ret (by simp [results, Try.results21, go_sem, c0, c1, c2, c3, c4, c5] <;> rfl) rfl ⟨_, rfl, own_lower (own_set6 ho9 (by have := B2.size; omega) _ _ _ _ _ _) (by have := B2.size; omega), set6 B4 _ _ _ _ _ _⟩
end Cm
end Go.Proofs.Ytklnopgnlnfbnaa
