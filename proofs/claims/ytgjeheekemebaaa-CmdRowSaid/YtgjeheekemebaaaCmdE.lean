/- Contracts: the document's Put, Get of commands. -/
import Derived.Test.YtgjeheekemebaaaCmdD
import Derived.Test.YtgjeheekemebaaaStep
set_option linter.unusedVariables false
set_option linter.unusedSimpArgs false
namespace Go.Proofs.Ytgjeheekemebaaa
open Go.RowKit
namespace Cm

theorem byte_cell (k : Nat) (h : k < 256) : cellsOf [UInt8.ofNat k] = [.int .u8 (k : Int)] := by simp [cellsOf]; omega

theorem own1 (w : World) (base k : Nat) (h : k < 256) (hb : base ≤ w.heap.size) : (w.alloc (.cells #[.int .u8 (k : Int)] 5)).ownsRow base 5 1 (.slice (some ⟨w.heap.size, 0, none⟩) 1 1) 1 (cellsOf [UInt8.ofNat k]) :=
  own_mono (owns_lit w #[.int .u8 (k : Int)] [UInt8.ofNat k] (byte_cell k h).symm (by simp [maxLen])) hb

theorem rd1 (w : World) (k : Nat) (h : k < 256) : Rd (w.alloc (.cells #[.int .u8 (k : Int)] 5)) (.slice (some ⟨w.heap.size, 0, none⟩) 1 1) [UInt8.ofNat k] :=
  Rd.own (own1 w 0 k h (Nat.zero_le _))

/-- A byte of a new slice, and a number's eight bytes behind it, or ahead of it. -/
theorem byte_eight (w : World) (base k n : Nat) (h : k < 256) (hb : base ≤ w.heap.size) :
    ((w.alloc (.cells #[.int .u8 (k : Int)] 5)).alloc (.cells (beArr n 8) 5)).drew.ownsRow base 5 1 (.slice (some ⟨w.heap.size, 0, none⟩) 1 1) 1 (cellsOf [UInt8.ofNat k]) ∧
    Rd ((w.alloc (.cells #[.int .u8 (k : Int)] 5)).alloc (.cells (beArr n 8) 5)).drew (.slice (some ⟨w.heap.size + 1, 0, none⟩) 8 8) (be8 n) := by
  refine ⟨((own1 w base k h hb).alloc _).drew, ?_⟩
  have := (rd8 (w.alloc (.cells #[.int .u8 (k : Int)] 5)) n).later (Below.refl _ _).drew
  rwa [show (w.alloc (.cells #[.int .u8 (k : Int)] 5)).heap.size = w.heap.size + 1 by simp] at this

theorem eight_byte (w : World) (base k n : Nat) (h : k < 256) (hb : base ≤ w.heap.size) :
    ((w.alloc (.cells (beArr n 8) 5)).alloc (.cells #[.int .u8 (k : Int)] 5)).drew.ownsRow base 5 1 (.slice (some ⟨w.heap.size + 1, 0, none⟩) 1 1) 1 (cellsOf [UInt8.ofNat k]) ∧
    Rd ((w.alloc (.cells (beArr n 8) 5)).alloc (.cells #[.int .u8 (k : Int)] 5)).drew (.slice (some ⟨w.heap.size, 0, none⟩) 8 8) (be8 n) := by
  refine ⟨?_, ((rd8 w n).later (newAlloc _ _)).later (Below.refl _ _).drew⟩
  have := (own1 (w.alloc (.cells (beArr n 8) 5)) base k h (by simp; omega)).drew
  rwa [show (w.alloc (.cells (beArr n 8) 5)).heap.size = w.heap.size + 1 by simp] at this

set_option maxHeartbeats 2000000 in
theorem RefPut_any (c : CmdV) (w : World) : Calls Try.prog 11 #[cmdVal c] w (Made (putF c) w) := by
  have C0 := Lib.hid (fun w => RefMay_any c w)
  unfold putF
  cases hm : mayF c
  · have HM := Lib.hid hm
    clear hm
    obtain ⟨k, s, n⟩ := c
    unfold cmdVal at C0 ⊢
    dsimp only at C0 ⊢
    go_enter Try.func11, Try.ntmps11
    go_wp2_with (go_at_call 15; refine (C0.out _).mono ?_; rw [HM.out]; rintro e w1 ⟨rfl, hb1⟩)
    go_ret2
    exact ⟨_, rfl, World.ownsRow_nil _ _ _ _, step (newAlloc _ _) hb1⟩
  · obtain ⟨hk, hs, hn⟩ := may_bounds c hm
    have HM := Lib.hid hm
    clear hm
    obtain ⟨k, s, n⟩ := c
    unfold cmdVal at C0 ⊢
    dsimp only at C0 hk hs hn HM ⊢
    obtain ⟨K, rfl⟩ := Int.eq_ofNat_of_zero_le (show 0 ≤ k by omega)
    obtain ⟨S, rfl⟩ := Int.eq_ofNat_of_zero_le (show 0 ≤ s by omega)
    have hK : K < 256 := by omega
    have hKw : IntKind.u8.wrap (K : Int) = (K : Int) := by rw [IntKind.wrap_u8]; omega
    obtain ⟨i0, hi, hz0, hz1, hz2⟩ := info_parts info8
    have hbl : bytesC ⟨(K : Int), (S : Int), n⟩ = [UInt8.ofNat K] ++ be8 S ++ [UInt8.ofNat n.length] ++ n := by simp [bytesC]
    have HBL := Lib.hid hbl
    clear hbl
    go_enter Try.func11, Try.ntmps11
    go_wp2_with (go_at_call 15; refine (C0.out _).mono ?_; rw [HM.out]; rintro e w1 ⟨rfl, hb1⟩; obtain ⟨c0, c1, c2⟩ := box3 hb1)
    have hbs := hb1.size
    have hbs1 : w.heap.size ≤ w1.heap.size := by simp at hbs; omega
    have HB1 := Lib.hid hb1
    clear hb1
    go_region_held3 (fun w' => w'.cell? ⟨w.heap.size, 0, none⟩ = some (.int .i64 (K : Int)) ∧ w'.cell? ⟨w.heap.size, 1, none⟩ = some (.int .i64 (S : Int)) ∧ w'.cell? ⟨w.heap.size, 2, none⟩ = some (.string (bstr n)))
      (first | go_keep | exact box3 (step HB1.out HB2.out))
      (first
        | (go_at_call 30; refine (Ref1.Eight_ok S _).mono ?_; rintro e w2 ⟨rfl, rfl⟩)
        | (refine step_append_rd (by rfl) _ _ _ (by rfl) w1.heap.size 5 i0 Try.underlying24 hi hz0 hz1 hz2 _ 1 (cellsOf [UInt8.ofNat K]) (by rfl) (byte_eight w1 w1.heap.size K S hK (Nat.le_refl _)).1 _ (be8 S) (by rfl) (byte_eight w1 w1.heap.size K S hK (Nat.le_refl _)).2 (by simp [be8_length]) (by simp; omega) ?_; intro v2 w2 hown2 hgrow2; have HB2 := Lib.hid ((((Below.refl _ _).alloc (Nat.le_refl _) _).alloc (by simp) _).drew.grown hgrow2 (by simp; omega) (fun k hk => by simp [Value.ownBlock] at hk; omega)))
        | (refine step_append_rd (by rfl) _ _ _ (by rfl) w1.heap.size 5 i0 Try.underlying24 hi hz0 hz1 hz2 _ 1 (cellsOf [UInt8.ofNat K]) (by rfl) (eight_byte w1 w1.heap.size K S hK (Nat.le_refl _)).1 _ (be8 S) (by rfl) (eight_byte w1 w1.heap.size K S hK (Nat.le_refl _)).2 (by simp [be8_length]) (by simp; omega) ?_; intro v2 w2 hown2 hgrow2; have HB2 := Lib.hid ((((Below.refl _ _).alloc (Nat.le_refl _) _).alloc (by simp) _).drew.grown hgrow2 (by simp; omega) (fun k hk => by simp [Value.ownBlock] at hk; omega))))
    all_goals
      obtain ⟨c0, c1, c2⟩ := box3 (step HB1.out HB2.out)
      have hz : w1.heap.size ≤ w2.heap.size := HB2.out.size
      have hnl : n.length < 256 := by omega
      have hnw : IntKind.u8.wrap (n.length : Int) = (n.length : Int) := by rw [IntKind.wrap_u8]; omega
      have hns := bstr_size n
      rename_i hHeld
      clear hHeld hgrow2
      generalize hX : cellsOf [UInt8.ofNat K] ++ cellsOf (be8 S) = X at hown2
      generalize hN : 1 + (be8 S).length = N at hown2
      have HX := Lib.hid hX
      have hN9 : N = 9 := by rw [← hN, be8_length]
      have HO := Lib.hid hown2
      clear hX hN hown2
      go_wp2_with fail
      go_region_held3 (fun w' => w'.cell? ⟨w.heap.size, 0, none⟩ = some (.int .i64 (K : Int)) ∧ w'.cell? ⟨w.heap.size, 1, none⟩ = some (.int .i64 (S : Int)) ∧ w'.cell? ⟨w.heap.size, 2, none⟩ = some (.string (bstr n)))
        (first | go_keep | exact box3 (step HB1.out HB4.out) | exact box3 (step HB1.out HB3.out))
        (first
          | (refine step_append_rd (by rfl) _ _ _ (by rfl) w1.heap.size 5 i0 Try.underlying24 hi hz0 hz1 hz2 _ N X (by rfl) (HO.out.alloc _).drew _ [UInt8.ofNat n.length] (by rfl) ((rd1 w2 _ hnl).later (Below.refl _ _).drew) (by simp; omega) (by simp; omega) ?_; intro v3 w3 hown3 hgrow3; have HB3 := Lib.hid ((HB2.out.alloc hz _).drew.grown hgrow3 (by simp; omega) (fun k hk => (HO.out.lt k hk).1)))
          | (refine step_append_str (by rfl) _ _ _ _ (by rfl) w1.heap.size 5 i0 Try.underlying24 Try.underlying9 hi hz0 hz1 hz2 _ _ _ (by rfl) hown3 n (by rfl) (by simp; omega) HB3.out.size ?_; intro v4 w4 hown4 hgrow4; have HB4 := Lib.hid (HB3.out.grown hgrow4 HB3.out.size (fun k hk => (hown3.lt k hk).1))))
      rename_i hHeld
      clear hHeld hgrow3 hgrow4
      go_wp2
      go_ret2
      refine ⟨v4, rfl, ?_, step (step (newAlloc _ _) HB1.out) HB4.out⟩
      have e : N + [UInt8.ofNat n.length].length + n.length = (bytesC ⟨(K : Int), (S : Int), n⟩).length := by rw [bytesC_length]; simp; omega
      rw [← HX.out, ← cellsOf_append, ← cellsOf_append, ← cellsOf_append, ← HBL.out, e] at hown4
      exact own_mono hown4 hbs1
end Cm
end Go.Proofs.Ytgjeheekemebaaa
