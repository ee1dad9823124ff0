/- Contracts of the document's answers for layer 1. -/
import Derived.Test.YtklnopgnlnfbnaaOctE
set_option linter.unusedVariables false
set_option linter.unusedSimpArgs false
namespace Go.Proofs.Ytklnopgnlnfbnaa
open Go.RowKit
namespace Ref1

theorem room_yes (a : Option Addr) (len cap : Nat) (t s : Int) (w : World) (hm : len ≤ maxLen) (h0 : 0 ≤ t) (h1 : 0 ≤ s) (h2 : t + s ≤ len) :
    Calls Try.prog 52 #[.slice a len cap, .int .i64 t, .int .i64 s] w fun e w' => e = .returned (.bool true) ∧ w = w' := by
  unfold maxLen at hm
  go_enter Try.func52, Try.ntmps52
  go_wp2
  go_ret
  exact ⟨by simp <;> omega, rfl⟩

theorem room_no (a : Option Addr) (len cap : Nat) (t s : Int) (w : World) (hm : len ≤ maxLen) (h1 : 0 ≤ s) (h2 : t < 0 ∨ (len : Int) < t + s) :
    Calls Try.prog 52 #[.slice a len cap, .int .i64 t, .int .i64 s] w fun e w' => e = .returned (.bool false) ∧ w = w' := by
  unfold maxLen at hm
  by_cases h0 : t < 0
  · clear h2
    go_enter Try.func52, Try.ntmps52
    go_wp2
    go_ret
    exact ⟨by simp <;> omega, rfl⟩
  · have h3 : (len : Int) < t + s := by omega
    clear h2
    by_cases h4 : t ≤ len
    · go_enter Try.func52, Try.ntmps52
      go_wp2
      go_ret
      exact ⟨by simp <;> omega, rfl⟩
    · go_enter Try.func52, Try.ntmps52
      go_wp2
      go_ret
      exact ⟨by simp <;> omega, rfl⟩

theorem Byte_any (v : Value) (bs : List UInt8) (t : Int) (w : World) (h : Rd w v bs) (ht : t ≤ 9223372036854775807) :
    Calls Try.prog 36 #[v, .int .i64 t] w (Three (byteOf bs t) w) := by
  obtain ⟨a, len, cap, rfl, hl, hc, hm, hn, hx⟩ := h.ex
  unfold byteOf
  by_cases h1 : t < 0 ∨ (bs.length : Int) ≤ t
  · rw [if_pos h1]
    clear hx hn h
    subst hl
    go_enter Try.func36, Try.ntmps36
    go_wp2_with (go_at_call 52; refine (room_no _ _ _ _ _ _ (by omega) (by omega) (by omega)).mono ?_; rintro e w' ⟨rfl, rfl⟩)
    go_ret3
    exact ⟨rfl, Below.refl _ _⟩
  · rw [if_neg h1]
    obtain ⟨k, rfl⟩ := Int.eq_ofNat_of_zero_le (show 0 ≤ t by omega)
    match a, hx with
    | none, _ => have := (hn rfl).1; omega
    | some x, hx =>
      obtain ⟨hs, hi⟩ := hx x rfl (by omega)
      have hk := hi k (by omega)
      obtain ⟨b, off, spot⟩ := x
      simp only at hs hk
      subst hs
      clear hi hx hn h
      have hkl : k < len := by omega
      unfold maxLen at hm
      simp only [Int.toNat_natCast]
      have hb : (bs.getD k 0).toNat < 256 := UInt8.toNat_lt _
      generalize bs.getD k 0 = c at hk hb ⊢
      subst hl
      clear h1
      go_enter Try.func36, Try.ntmps36
      go_wp2_with (go_at_call 52; refine (room_yes _ _ _ _ _ _ (by unfold maxLen; omega) (by omega) (by omega) (by omega)).mono ?_; rintro e w' ⟨rfl, rfl⟩)
      go_ret3
      exact ⟨rfl, Below.refl _ _⟩


theorem Text_any (v : Value) (bs : List UInt8) (t m : Int) (w : World) (h : Rd w v bs) (ht : t ≤ 9223372036854775807) :
    Calls Try.prog 38 #[v, .int .i64 t, .int .i64 m] w (TextTold (textOf bs t m) w) := by
  have H := h
  obtain ⟨a, len, cap, rfl, hl, hc, hm, hn, hx⟩ := h.ex
  unfold textOf
  by_cases h1 : t < 0 ∨ (bs.length : Int) ≤ t
  · rw [if_pos h1]
    have hb : byteOf bs t = (0, 0, 2) := by unfold byteOf; rw [if_pos h1]
    have HB := Lib.hid hb
    clear hb hx hn h h1
    go_enter Try.func38, Try.ntmps38
    go_wp2_with (go_at_call 36; refine (Byte_any _ bs _ _ H ht).mono ?_; rw [HB.out]; rintro e w' ⟨rfl, hbel⟩)
    go_ret3
    exact ⟨rfl, hbel⟩
  · rw [if_neg h1]
    obtain ⟨k, rfl⟩ := Int.eq_ofNat_of_zero_le (show 0 ≤ t by omega)
    simp only [Int.toNat_natCast]
    have hb : byteOf bs k = (((bs.getD k 0).toNat : Int), (k : Int) + 1, 0) := by unfold byteOf; rw [if_neg h1]; rfl
    have hlt := UInt8.toNat_lt (bs.getD k 0)
    generalize (bs.getD k 0).toNat = n at hb hlt ⊢
    have HB := Lib.hid hb
    clear hb
    unfold maxLen at hm
    by_cases h2 : m < (n : Int)
    · rw [if_pos h2]
      clear hx hn h h1
      go_enter Try.func38, Try.ntmps38
      go_wp2_with (go_at_call 36; refine (Byte_any _ bs _ _ H ht).mono ?_; rw [HB.out]; rintro e w' ⟨rfl, hbel⟩)
      go_ret3
      exact ⟨rfl, hbel⟩
    · rw [if_neg h2]
      by_cases h3 : (bs.length : Int) < k + 1 + n
      · rw [if_pos h3]
        clear hx hn h h1
        subst hl
        go_enter Try.func38, Try.ntmps38
        go_wp2_with (first | (go_at_call 36; refine (Byte_any _ bs _ _ H ht).mono ?_; rw [HB.out]; rintro e w' ⟨rfl, hbel⟩) | (go_at_call 52; refine (room_no _ _ _ _ _ _ (by unfold maxLen; omega) (by omega) (by omega)).mono ?_; rintro e w' ⟨rfl, rfl⟩))
        go_ret3
        exact ⟨rfl, hbel⟩
      · rw [if_neg h3]
        match a, hx with
        | none, _ => have := (hn rfl).1; omega
        | some x, hx =>
          obtain ⟨hs, hi⟩ := hx x rfl (by omega)
          obtain ⟨b, off, spot⟩ := x
          simp only at hs hi
          subst hs
          clear hx hn
          subst hl
          have hcell : ∀ w', Below w.heap.size w w' → ∀ i, i < bs.length → w'.cell? ⟨b, off + i, none⟩ = some (.int .u8 ((bs.getD i 0).toNat : Int)) := fun w' hb i hi' => by
            rw [hb.cell (p := ⟨b, off + i, none⟩) (lt_of_cell (hi i hi'))]; exact hi i hi'
          clear hi h
          by_cases hk : cap = k + 1
          · obtain rfl : n = 0 := by omega
            have hcv := fun w a c => conv_zero w (P := Try.prog) Try.underlying26 Try.underlying5 Try.underlying9 a c
            have e0 : sub bs (k + 1) 0 = [] := by simp [sub]
            rw [e0]
            clear e0
            subst hk
            clear hcell
            go_enter Try.func38, Try.ntmps38
            go_wp2_with (first | (go_at_call 36; refine (Byte_any _ bs _ _ H ht).mono ?_; rw [HB.out]; rintro e w' ⟨rfl, hbel⟩) | (go_at_call 52; refine (room_yes _ _ _ _ _ _ (by unfold maxLen; omega) (by omega) (by omega) (by omega)).mono ?_; rintro e w' ⟨rfl, rfl⟩))
            go_ret3
            exact ⟨rfl, hbel⟩
          · have hcv := fun w' hb c => conv_sub w' (P := Try.prog) Try.underlying26 Try.underlying5 Try.underlying9 b off (k + 1) n c bs (hcell w' hb) (by omega)
            clear hcell
            generalize sub bs (k + 1) n = r at hcv ⊢
            go_enter Try.func38, Try.ntmps38
            go_wp2_with (first | (go_at_call 36; refine (Byte_any _ bs _ _ H ht).mono ?_; rw [HB.out]; rintro e w' ⟨rfl, hbel⟩; have hcv' := hcv w' hbel) | (go_at_call 52; refine (room_yes _ _ _ _ _ _ (by unfold maxLen; omega) (by omega) (by omega) (by omega)).mono ?_; rintro e w' ⟨rfl, rfl⟩))
            go_ret3
            exact ⟨rfl, hbel⟩
end Ref1
end Go.Proofs.Ytklnopgnlnfbnaa
