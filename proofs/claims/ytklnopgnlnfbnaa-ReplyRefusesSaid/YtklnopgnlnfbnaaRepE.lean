/- Contracts: the document's PutAnswer. -/
import Derived.Test.YtklnopgnlnfbnaaRepD
set_option linter.unusedVariables false
set_option linter.unusedSimpArgs false
namespace Go.Proofs.Ytklnopgnlnfbnaa
open Go.RowKit
namespace Cm

theorem PutReply_in (r : ReplyV) (v : Value) (hm : mayP r = true) (w : World) (h : RdH w v r.held) : Calls Try.prog 11 #[repVal r v] w (MadeS (bytesP r, 0) w) := by
  refine (PutReply_any r v w h).mono fun e w' q => ?_
  unfold putP at q
  rw [if_pos hm] at q
  exact Made.s q

theorem bytesP_le (r : ReplyV) (hm : mayP r = true) : (bytesP r).length ≤ 95 := by
  obtain ⟨hk, hs, hd, hl4, hall⟩ := mayP_bounds r hm
  have := bytesH_le r.held hall
  rw [bytesP_length]
  omega

set_option maxHeartbeats 4000000 in
theorem PutAnswer_any (r : AnsV) (v : Value) (w : World) (h : RdH w v r.rep.held) :
    Calls Try.prog 20 #[ansVal r v] w (Made (putA r) w) := by
  have C0 : Hid (∀ w', Below w.heap.size w w' → Calls Try.prog 24 #[ansVal r v] w' (SaysB (mayA r) w')) := fun w' hb => RefMayAnswer_any r v w' (h.later hb)
  unfold putA
  cases hm : mayA r
  · have HM := Lib.hid hm
    clear hm h
    obtain ⟨c, q, k, s, d, l⟩ := r
    unfold ansVal at C0 ⊢
    dsimp only at C0 ⊢
    go_enter Try.func20, Try.ntmps20
    go_wp2_with (go_at_call 24; refine (C0.out _ (newAlloc _ _)).mono ?_; rw [HM.out]; rintro e w1 ⟨rfl, hb1⟩)
    go_ret2
    exact ⟨_, rfl, World.ownsRow_nil _ _ _ _, step (newAlloc _ _) hb1⟩
  · obtain ⟨hk, hs, hp⟩ := mayA_bounds r hm
    have C3 : Hid (∀ w', Below w.heap.size w w' → Calls Try.prog 11 #[repVal r.rep v] w' (MadeS (bytesP r.rep, 0) w')) := fun w' hb => PutReply_in r.rep v hp w' (h.later hb)
    have hcb := bytesP_le r.rep hp
    have HM := Lib.hid hm
    clear hm h hp
    obtain ⟨c, q, m⟩ := r
    unfold ansVal at C0 ⊢
    unfold repVal at C3
    dsimp only at C0 C3 hk hs hcb HM ⊢
    obtain ⟨K, rfl⟩ := Int.eq_ofNat_of_zero_le (show 0 ≤ c by omega)
    obtain ⟨S, rfl⟩ := Int.eq_ofNat_of_zero_le (show 0 ≤ q by omega)
    have hK : K < 256 := by omega
    have hKw : IntKind.u8.wrap (K : Int) = (K : Int) := by rw [IntKind.wrap_u8]; omega
    obtain ⟨i0, hi, hz0, hz1, hz2⟩ := info_parts info8
    have hbl : bytesA ⟨(K : Int), (S : Int), m⟩ = [UInt8.ofNat K] ++ be8 S ++ bytesP m := by simp [bytesA]
    have HBL := Lib.hid hbl
    clear hbl
    generalize bytesP m = cb at hcb C3 HBL
    obtain ⟨k, s, d, l⟩ := m
    dsimp only at C0 C3 ⊢
    go_enter Try.func20, Try.ntmps20
    go_wp2_with (first
      | (go_at_call 24; refine (C0.out _ (newAlloc _ _)).mono ?_; rw [HM.out]; rintro e w1 ⟨rfl, hb1⟩; obtain ⟨c0, c1, c2, c3, c4, c5⟩ := box6 hb1)
      | (go_at_call 11; refine (C3.out _ (step (newAlloc _ _) hb1)).mono ?_; rintro e w2 ⟨a2, l2, d2, rfl, hr2, hb2⟩; obtain ⟨c0, c1, c2, c3, c4, c5⟩ := box6 (step hb1 hb2)))
    have hbs := (step hb1 hb2).size
    have hbs1 : w.heap.size ≤ w2.heap.size := by simp at hbs; omega
    have HB1 := Lib.hid (step hb1 hb2)
    have HR2 := Lib.hid hr2
    clear hb1 hb2 hr2 C0 C3 HM
    go_region_held3 (fun w' => w'.cell? ⟨w.heap.size, 0, none⟩ = some (.int .i64 (K : Int)) ∧ w'.cell? ⟨w.heap.size, 1, none⟩ = some (.int .i64 (S : Int)))
      (first | go_keep | exact ⟨(box6 (step HB1.out HB4.out)).1, (box6 (step HB1.out HB4.out)).2.1⟩ | exact ⟨(box6 (step HB1.out HB3.out)).1, (box6 (step HB1.out HB3.out)).2.1⟩)
      (first
        | (go_at_call 32; refine (Ref1.Eight_ok S _).mono ?_; rintro e w9 ⟨rfl, rfl⟩)
        | (refine step_append_rd (by rfl) _ _ _ (by rfl) w2.heap.size 5 i0 Try.underlying26 hi hz0 hz1 hz2 _ 1 (cellsOf [UInt8.ofNat K]) (by rfl) (byte_eight w2 w2.heap.size K S hK (Nat.le_refl _)).1 _ (be8 S) (by rfl) (byte_eight w2 w2.heap.size K S hK (Nat.le_refl _)).2 (by simp [be8_length]) (by simp; omega) ?_; intro v3 w3 hown3 hgrow3; have HB3 := Lib.hid ((((Below.refl _ _).alloc (Nat.le_refl _) _).alloc (by simp) _).drew.grown hgrow3 (by simp; omega) (fun k hk => by simp [Value.ownBlock] at hk; omega)))
        | (refine step_append_rd (by rfl) _ _ _ (by rfl) w2.heap.size 5 i0 Try.underlying26 hi hz0 hz1 hz2 _ 1 (cellsOf [UInt8.ofNat K]) (by rfl) (eight_byte w2 w2.heap.size K S hK (Nat.le_refl _)).1 _ (be8 S) (by rfl) (eight_byte w2 w2.heap.size K S hK (Nat.le_refl _)).2 (by simp [be8_length]) (by simp; omega) ?_; intro v3 w3 hown3 hgrow3; have HB3 := Lib.hid ((((Below.refl _ _).alloc (Nat.le_refl _) _).alloc (by simp) _).drew.grown hgrow3 (by simp; omega) (fun k hk => by simp [Value.ownBlock] at hk; omega)))
        | (refine step_append_rd (by rfl) _ _ _ (by rfl) w2.heap.size 5 i0 Try.underlying26 hi hz0 hz1 hz2 _ _ _ (by rfl) hown3 _ cb (by rfl) (HR2.out.later HB3.out) (by simp [be8_length]; omega) HB3.out.size ?_; intro v4 w4 hown4 hgrow4; have HB4 := Lib.hid (HB3.out.grown hgrow4 HB3.out.size (fun k hk => (hown3.lt k hk).1))))
    all_goals
      go_wp2
      go_ret2
      refine ⟨v4, rfl, ?_, step (step (newAlloc _ _) HB1.out) HB4.out⟩
      have e : 1 + (be8 S).length + cb.length = ([UInt8.ofNat K] ++ be8 S ++ cb).length := by simp; omega
      rw [HBL.out, ← e, cellsOf_append, cellsOf_append]
      exact own_mono hown4 hbs1
end Cm
end Go.Proofs.Ytklnopgnlnfbnaa
