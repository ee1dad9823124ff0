/- Contracts of the document's answers for layer 1: numbers, and what is put. -/
import Derived.Test.YtklnopgnlnfbnaaRefA
set_option linter.unusedVariables false
set_option linter.unusedSimpArgs false
namespace Go.Proofs.Ytklnopgnlnfbnaa
open Go.RowKit
namespace Ref1

theorem val_cons_lt (x : UInt8) (l : List UInt8) (h : x.toNat < 64) : val (x :: l) < 64 * 256 ^ l.length := by
  have h1 := val_go l x.toNat
  have h2 : (x.toNat + 1) * 256 ^ l.length ≤ 64 * 256 ^ l.length := Nat.mul_le_mul_right _ (by omega)
  have e : val (x :: l) = l.foldl (fun a x => a * 256 + x.toNat) x.toNat := by simp [val]
  rw [e]
  exact Nat.lt_of_lt_of_le h1 h2

theorem val_cons_ge (l : List UInt8) (a : Nat) : a * 256 ^ l.length ≤ l.foldl (fun a x => a * 256 + x.toNat) a := by
  induction l generalizing a with
  | nil => simp
  | cons x l ih =>
    have h1 := ih (a * 256 + x.toNat)
    have h2 : a * 256 * 256 ^ l.length ≤ (a * 256 + x.toNat) * 256 ^ l.length := Nat.mul_le_mul_right _ (by omega)
    rw [List.foldl_cons, List.length_cons, Nat.pow_succ, Nat.mul_comm (256 ^ l.length) 256, ← Nat.mul_assoc]
    exact Nat.le_trans h2 h1

/-- The first of eight bytes tells whether the number is below 2^62. -/
theorem first_small (bs : List UInt8) (k : Nat) (h : k + 8 ≤ bs.length) : val (sub bs k 8) < 2 ^ 62 ↔ (bs.getD k 0).toNat < 64 := by
  have hl := sub_length bs k 8 h
  have h0 := sub_getD bs k 8 0 (by omega)
  match hs : sub bs k 8, hl with
  | x :: l, hl =>
    rw [hs] at h0
    simp only [List.getD_cons_zero, Nat.add_zero] at h0
    simp only [List.length_cons] at hl
    have hl' : l.length = 7 := by omega
    rw [← h0]
    constructor
    · intro hv
      have := val_cons_ge l x.toNat
      rw [hl'] at this
      have e : val (x :: l) = l.foldl (fun a x => a * 256 + x.toNat) x.toNat := by simp [val]
      rw [e] at hv
      omega
    · intro hx
      have := val_cons_lt x l hx
      rw [hl'] at this
      omega

theorem part_small (bs : List UInt8) (k j : Nat) (h : k + 8 ≤ bs.length) (hj : j < 8) (hx : (bs.getD k 0).toNat < 64) : val (sub bs k j) < 18014398509481984 := by
  match j, hj with
  | 0, _ => simp [sub, val]
  | j + 1, hj =>
    have hl := sub_length bs k (j + 1) (by omega)
    have h0 := sub_getD bs k (j + 1) 0 (by omega)
    match hs : sub bs k (j + 1), hl with
    | x :: l, hl =>
      rw [hs] at h0
      simp only [List.getD_cons_zero, Nat.add_zero] at h0
      simp only [List.length_cons] at hl
      have := val_cons_lt x l (by rw [h0]; exact hx)
      have h2 : 64 * 256 ^ l.length ≤ 64 * 256 ^ 6 := Nat.mul_le_mul_left _ (Nat.pow_le_pow_right (by omega) (by omega))
      omega

theorem Num_any (v : Value) (bs : List UInt8) (t : Int) (w : World) (h : Rd w v bs) (ht : t ≤ 9223372036854775807) :
    Calls Try.prog 37 #[v, .int .i64 t] w (Three (numOf bs t) w) := by
  obtain ⟨a, len, cap, rfl, hl, hc, hm, hn, hx⟩ := h.ex
  unfold numOf
  by_cases h1 : t < 0 ∨ (bs.length : Int) < t + 8
  · rw [if_pos h1]
    clear hx hn h
    subst hl
    go_enter Try.func37, Try.ntmps37
    go_wp2_with (go_at_call 52; refine (room_no _ _ _ _ _ _ (by omega) (by omega) (by omega)).mono ?_; rintro e w' ⟨rfl, rfl⟩)
    go_ret3
    exact ⟨rfl, Below.refl _ _⟩
  · rw [if_neg h1]
    obtain ⟨k, rfl⟩ := Int.eq_ofNat_of_zero_le (show 0 ≤ t by omega)
    simp only [Int.toNat_natCast]
    have hk8 : k + 8 ≤ bs.length := by omega
    have hfs := first_small bs k hk8
    match a, hx with
    | none, _ => have := (hn rfl).1; omega
    | some x, hx =>
      obtain ⟨hs, hi⟩ := hx x rfl (by omega)
      obtain ⟨b, off, spot⟩ := x
      simp only at hs hi
      subst hs
      clear hx hn h h1
      unfold maxLen at hm
      subst hl
      have hk := hi k (by omega)
      have HI := Lib.hid hi
      have hb : (bs.getD k 0).toNat < 256 := UInt8.toNat_lt _
      clear hi
      have hkl : k < bs.length := by omega
      by_cases h2 : (bs.getD k 0).toNat < 64
      · rw [if_pos (hfs.2 h2)]
        clear hfs
        have HP := Lib.hid (fun j hj => part_small bs k j hk8 hj h2)
        have h2' : decide ((64 : Int) ≤ ((bs.getD k 0).toNat : Int)) = false := decide_eq_false (by omega)
        have h2'' : ((bs.getD k 0).toNat : Int) < 64 := by omega
        clear h2
        generalize bs.getD k 0 = c0 at hk hb h2' h2''
        go_enter Try.func37, Try.ntmps37
        go_wp2_with (go_at_call 52; refine (room_yes _ _ _ _ _ _ (by unfold maxLen; omega) (by omega) (by omega) (by omega)).mono ?_; rintro e w' ⟨rfl, rfl⟩)
        go_loop [7, 8] (fun v i => ∃ j : Nat, j ≤ 8 ∧ i = .int .i64 j ∧ v = .int .i64 (val (sub bs k j) : Int)) (fun _ i => 8 - (intOf i).toNat)
        case atStart => exact ⟨0, by omega, rfl, rfl⟩
        case round =>
          obtain ⟨j, hj, rfl, rfl⟩ := hrel
          by_cases hlt : j < 8
          · have hcell := HI.out (k + j) (by omega)
            have hc : (bs.getD (k + j) 0).toNat < 256 := UInt8.toNat_lt _
            have HS := Lib.hid (val_sub_succ bs k j (by omega))
            have hv : val (sub bs k j) < 18014398509481984 := HP.out j hlt
            generalize bs.getD (k + j) 0 = c at hcell hc HS
            go_wp2
            go_round
            case rel => exact ⟨j + 1, by omega, by go_num, by rw [or_i64 _ _ (by omega) hc]; exact congrArg (fun n : Nat => Value.int .i64 (n : Int)) HS.out.symm⟩
            case measure => simp [intOf]; omega
          · obtain rfl : j = 8 := by omega
            go_wp2
            go_ret3
            exact ⟨rfl, Below.refl _ _⟩
      · rw [if_neg (fun q => h2 (hfs.1 q))]
        clear hfs HI
        have h2' : decide ((64 : Int) ≤ ((bs.getD k 0).toNat : Int)) = true := decide_eq_true (by omega)
        generalize bs.getD k 0 = c0 at hk hb h2'
        clear h2
        go_enter Try.func37, Try.ntmps37
        go_wp2_with (go_at_call 52; refine (room_yes _ _ _ _ _ _ (by unfold maxLen; omega) (by omega) (by omega) (by omega)).mono ?_; rintro e w' ⟨rfl, rfl⟩)
        go_ret3
        exact ⟨rfl, Below.refl _ _⟩

set_option maxRecDepth 100000 in
theorem Eight_ok (n : Nat) (w : World) :
    Calls Try.prog 32 #[.int .i64 (n : Int)] w fun e w' => e = .returned (.slice (some ⟨w.heap.size, 0, none⟩) 8 8) ∧ w.alloc (.cells (beArr n 8) 5) = w' := by
  have hmk := make8
  go_enter Try.func32, Try.ntmps32
  go_wp2
  go_loopw [0, 4] (fun v i wr => ∃ k : Nat, k ≤ 8 ∧ i = .int .i64 (7 - (k : Int)) ∧ v = .int .i64 ((n / 256 ^ k : Nat) : Int) ∧ wr = w.alloc (.cells (beArr n k) 5)) (fun _ i _ => (intOf i + 1).toNat)
  case atStart => exact ⟨0, by omega, rfl, by simp, rfl⟩
  case round =>
    obtain ⟨k, hk, rfl, rfl, rfl⟩ := hrel
    by_cases hlt : k < 8
    · have hcell : (w.alloc (.cells (beArr n k) 5)).cell? ⟨w.heap.size, 7 - k, none⟩ = some (beCell n k (7 - k)) := by
        match k, hlt with
        | 0, _ | 1, _ | 2, _ | 3, _ | 4, _ | 5, _ | 6, _ | 7, _ => simp [beArr, go_sem]
      go_wp2
      go_roundw
      case rel => exact ⟨k + 1, by omega, by go_num, by rw [shr_step], by rw [low_byte, beArr_step n k hlt]⟩
      case measure => simp [intOf]; omega
    · obtain rfl : k = 8 := by omega
      go_wp2
      go_ret
      exact ⟨rfl, rfl⟩










end Ref1
end Go.Proofs.Ytklnopgnlnfbnaa
