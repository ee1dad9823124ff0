/- Contracts of package octet's readers: readByte, readText, readEnd. -/
import Derived.Test.YtklnopgnlnfbnaaOctA
set_option linter.unusedVariables false
set_option linter.unusedSimpArgs false
namespace Go.Proofs.Ytklnopgnlnfbnaa
open Go.RowKit

/-- The panic of a reading that fails. -/
def Fails (c : Int) (w : World) (e : Ending) (w' : World) : Prop :=
  e = .panicked [{ v := .iface 79 (.agg #[.int .i64 c]), recovered := false }] ∧ w = w'

theorem need_short (a : Option Addr) (len cap : Nat) (t s : Int) (w : World) (hm : len ≤ maxLen) (ht : t ≤ 9223372036854775807) (hs : 0 ≤ s) (h1 : t < 0 ∨ (len : Int) < t + s) :
    Calls Try.prog 54 #[.slice a len cap, .int .i64 t, .int .i64 s] w (Fails 2 w) := by
  by_cases h0 : t < 0
  · exact need_neg a len cap t s w h0
  · exact need_few a len cap t s w hm (by omega) ht (by omega)

theorem readByte_ok (v : Value) (bs : List UInt8) (t : Int) (w : World) (h : Rd w v bs) (h0 : 0 ≤ t) (h1 : t < bs.length) :
    Calls Try.prog 48 #[v, .int .i64 t] w fun e w' => e = .returned (.tuple #[.int .i64 ((bs.getD t.toNat 0).toNat : Int), .int .i64 (t + 1)]) ∧ w = w' := by
  obtain ⟨a, len, cap, rfl, hl, hc, hm, hn, hx⟩ := h.ex
  obtain ⟨k, rfl⟩ := Int.eq_ofNat_of_zero_le h0
  match a, hx with
  | none, _ => have := (hn rfl).1; omega
  | some x, hx =>
    obtain ⟨hs, hi⟩ := hx x rfl (by omega)
    have hk := hi k (by omega)
    obtain ⟨b, off, spot⟩ := x
    simp only at hs hk
    subst hs
    clear hi hx hn h
    have hkl : k < len := by omega
    unfold maxLen at hm
    have hb : (bs.getD k 0).toNat < 256 := UInt8.toNat_lt _
    simp only [Int.toNat_natCast]
    generalize bs.getD k 0 = c at hk hb ⊢
    subst hl
    go_enter Try.func48, Try.ntmps48
    go_wp2_with (go_at_call 54; refine (need_ok _ _ _ _ _ _ (by unfold maxLen; omega) (by omega) (by omega) (by omega)).mono ?_; rintro e w' ⟨rfl, rfl⟩)
    go_ret2
    exact ⟨rfl, rfl⟩

theorem readByte_short (v : Value) (bs : List UInt8) (t : Int) (w : World) (h : Rd w v bs) (ht : t ≤ 9223372036854775807) (h1 : t < 0 ∨ (bs.length : Int) ≤ t) :
    Calls Try.prog 48 #[v, .int .i64 t] w (Fails 2 w) := by
  obtain ⟨a, len, cap, rfl, hl, hc, hm, hn, hx⟩ := h.ex
  clear hx hn h
  subst hl
  go_enter Try.func48, Try.ntmps48
  go_wp2_with (go_at_call 54; refine (need_short _ _ _ _ _ _ (by omega) (by omega) (by omega) (by omega)).mono ?_; rintro e w' ⟨rfl, rfl⟩)
  exact ⟨rfl, rfl, rfl⟩

theorem readNum_short (v : Value) (bs : List UInt8) (t : Int) (w : World) (h : Rd w v bs) (ht : t ≤ 9223372036854775807) (h1 : t < 0 ∨ (bs.length : Int) < t + 8) :
    Calls Try.prog 50 #[v, .int .i64 t] w (Fails 2 w) := by
  obtain ⟨a, len, cap, rfl, hl, hc, hm, hn, hx⟩ := h.ex
  clear hx hn h
  subst hl
  go_enter Try.func50, Try.ntmps50
  go_wp2_with (go_at_call 54; refine (need_short _ _ _ _ _ _ (by omega) (by omega) (by omega) (by omega)).mono ?_; rintro e w' ⟨rfl, rfl⟩)
  exact ⟨rfl, rfl, rfl⟩




theorem readText_at (v : Value) (bs : List UInt8) (t m : Int) (w : World) (h : Rd w v bs) (ht : t ≤ 9223372036854775807) (h1 : t < 0 ∨ (bs.length : Int) ≤ t) :
    Calls Try.prog 58 #[v, .int .i64 t, .int .i64 m] w (Fails 2 w) := by
  go_enter Try.func58, Try.ntmps58
  go_wp2_with (go_at_call 48; refine (readByte_short _ bs _ _ h (by omega) (by omega)).mono ?_; rintro e w' ⟨rfl, rfl⟩)
  exact ⟨rfl, rfl, rfl⟩

theorem readText_long (v : Value) (bs : List UInt8) (t m : Int) (w : World) (h : Rd w v bs) (h0 : 0 ≤ t) (h1 : t < bs.length) (h2 : m < ((bs.getD t.toNat 0).toNat : Int)) :
    Calls Try.prog 58 #[v, .int .i64 t, .int .i64 m] w (Fails 3 w) := by
  generalize hn : (bs.getD t.toNat 0).toNat = n at h2
  have HN := Lib.hid hn
  clear hn
  go_enter Try.func58, Try.ntmps58
  go_wp2_with (go_at_call 48; refine (readByte_ok _ bs _ _ h (by omega) (by omega)).mono ?_; rw [HN.out]; rintro e w' ⟨rfl, rfl⟩)
  exact ⟨rfl, rfl, rfl⟩

theorem readText_few (v : Value) (bs : List UInt8) (t m : Int) (w : World) (h : Rd w v bs) (h0 : 0 ≤ t) (h1 : t < bs.length) (h2 : ((bs.getD t.toNat 0).toNat : Int) ≤ m) (h3 : (bs.length : Int) < t + 1 + (bs.getD t.toNat 0).toNat) :
    Calls Try.prog 58 #[v, .int .i64 t, .int .i64 m] w (Fails 2 w) := by
  have H := h
  obtain ⟨a, len, cap, rfl, hl, hc, hm, hn, hx⟩ := h.ex
  clear hx hn h
  subst hl
  have hlt := UInt8.toNat_lt (bs.getD t.toNat 0)
  generalize hn : (bs.getD t.toNat 0).toNat = n at h2 h3 hlt
  have HN := Lib.hid hn
  clear hn
  unfold maxLen at hm
  go_enter Try.func58, Try.ntmps58
  go_wp2_with (first | (go_at_call 48; refine (readByte_ok _ bs _ _ H (by omega) (by omega)).mono ?_; rw [HN.out]; rintro e w' ⟨rfl, rfl⟩) | (go_at_call 54; refine (need_short _ _ _ _ _ _ (by unfold maxLen; omega) (by omega) (by omega) (by omega)).mono ?_; rintro e w' ⟨rfl, rfl⟩))
  exact ⟨rfl, rfl, rfl⟩

def NumPost (n : Nat) (t : Int) (w : World) (e : Ending) (w' : World) : Prop :=
  (n < 2 ^ 62 ∧ e = .returned (.tuple #[.int .i64 (n : Int), .int .i64 (t + 8)]) ∧ w = w') ∨ (2 ^ 62 ≤ n ∧ Fails 4 w e w')

theorem readNum_any (v : Value) (bs : List UInt8) (t : Int) (w : World) (h : Rd w v bs) (h0 : 0 ≤ t) (h1 : t + 8 ≤ bs.length) :
    Calls Try.prog 50 #[v, .int .i64 t] w (NumPost (val (sub bs t.toNat 8)) t w) := by
  obtain ⟨a, len, cap, rfl, hl, hc, hm, hn, hx⟩ := h.ex
  obtain ⟨k, rfl⟩ := Int.eq_ofNat_of_zero_le h0
  simp only [Int.toNat_natCast]
  match a, hx with
  | none, _ => have := (hn rfl).1; omega
  | some x, hx =>
    obtain ⟨hs, hi⟩ := hx x rfl (by omega)
    obtain ⟨b, off, spot⟩ := x
    simp only at hs hi
    subst hs
    clear hx hn h
    unfold maxLen at hm
    subst hl
    have HI := Lib.hid hi
    clear hi
    go_enter Try.func50, Try.ntmps50
    go_wp2_with (go_at_call 54; refine (need_ok _ _ _ _ _ _ (by unfold maxLen; omega) (by omega) (by omega) (by omega)).mono ?_; rintro e w' ⟨rfl, rfl⟩)
    go_loop [7, 20] (fun v i => ∃ j : Nat, j ≤ 8 ∧ i = .int .i64 j ∧ v = .int .u64 (val (sub bs k j) : Int)) (fun _ i => 8 - (intOf i).toNat)
    case atStart => exact ⟨0, by omega, rfl, rfl⟩
    case round =>
      obtain ⟨j, hj, rfl, rfl⟩ := hrel
      by_cases hlt : j < 8
      · have hcell := HI.out (k + j) (by omega)
        rw [← Nat.add_assoc] at hcell
        have hc : (bs.getD (k + j) 0).toNat < 256 := UInt8.toNat_lt _
        have HS := Lib.hid (val_sub_succ bs k j (by omega))
        have hv : val (sub bs k j) < 72057594037927936 := val_le (sub bs k j) 7 (by unfold sub; simp; omega)
        generalize bs.getD (k + j) 0 = c at hcell hc HS
        go_wp2
        go_round
        case rel => exact ⟨j + 1, by omega, by go_num, by rw [or_u64' _ _ hv hc]; exact congrArg (fun n : Nat => Value.int .u64 (n : Int)) HS.out.symm⟩
        case measure => simp [intOf]; omega
      · obtain rfl : j = 8 := by omega
        by_cases hv : val (sub bs k 8) < 4611686018427387904
        · have hd : decide ((4611686018427387904 : Int) ≤ (val (sub bs k 8) : Int)) = false := by simp; omega
          go_wp2
          go_ret2
          exact .inl ⟨hv, rfl, rfl⟩
        · have hd : decide ((4611686018427387904 : Int) ≤ (val (sub bs k 8) : Int)) = true := by simp; omega
          go_wp2
          exact ⟨rfl, .inr ⟨by omega, rfl, rfl⟩⟩

theorem readNum_ok (v : Value) (bs : List UInt8) (t : Int) (w : World) (h : Rd w v bs) (h0 : 0 ≤ t) (h1 : t + 8 ≤ bs.length) (h2 : val (sub bs t.toNat 8) < 2 ^ 62) :
    Calls Try.prog 50 #[v, .int .i64 t] w fun e w' => e = .returned (.tuple #[.int .i64 (val (sub bs t.toNat 8) : Int), .int .i64 (t + 8)]) ∧ w = w' :=
  (readNum_any v bs t w h h0 h1).mono fun e w' q => by
    rcases q with q | q
    · exact q.2
    · exact absurd q.1 (by omega)

theorem readNum_form (v : Value) (bs : List UInt8) (t : Int) (w : World) (h : Rd w v bs) (h0 : 0 ≤ t) (h1 : t + 8 ≤ bs.length) (h2 : 2 ^ 62 ≤ val (sub bs t.toNat 8)) :
    Calls Try.prog 50 #[v, .int .i64 t] w (Fails 4 w) :=
  (readNum_any v bs t w h h0 h1).mono fun e w' q => by
    rcases q with q | q
    · exact absurd q.1 (by omega)
    · exact q.2

/-- What text reading comes to where all is there. -/
theorem readText_ok (v : Value) (bs : List UInt8) (t m : Int) (w : World) (h : Rd w v bs) (h0 : 0 ≤ t) (h1 : t < bs.length) (h2 : ((bs.getD t.toNat 0).toNat : Int) ≤ m) (h3 : t + 1 + (bs.getD t.toNat 0).toNat ≤ (bs.length : Int)) :
    Calls Try.prog 58 #[v, .int .i64 t, .int .i64 m] w fun e w' =>
      e = .returned (.tuple #[.string (bstr (sub bs (t.toNat + 1) (bs.getD t.toNat 0).toNat)), .int .i64 (t + 1 + (bs.getD t.toNat 0).toNat)]) ∧ w = w' := by
  have H := h
  obtain ⟨a, len, cap, rfl, hl, hc, hm, hn, hx⟩ := h.ex
  obtain ⟨k, rfl⟩ := Int.eq_ofNat_of_zero_le h0
  simp only [Int.toNat_natCast] at h2 h3 ⊢
  match a, hx with
  | none, _ => have := (hn rfl).1; omega
  | some x, hx =>
    obtain ⟨hs, hi⟩ := hx x rfl (by omega)
    obtain ⟨b, off, spot⟩ := x
    simp only at hs hi
    subst hs
    clear hx hn h
    unfold maxLen at hm
    subst hl
    have hlt := UInt8.toNat_lt (bs.getD k 0)
    generalize hn : (bs.getD k 0).toNat = n at h2 h3 hlt ⊢
    have HN := Lib.hid hn
    clear hn
    by_cases hk : cap = k + 1
    · obtain rfl : n = 0 := by omega
      have hcv := fun a c => conv_zero w (P := Try.prog) Try.underlying26 Try.underlying5 Try.underlying9 a c
      have e0 : sub bs (k + 1) 0 = [] := by simp [sub]
      rw [e0]
      clear e0
      subst hk
      clear hi
      go_enter Try.func58, Try.ntmps58
      go_wp2_with (first | (go_at_call 48; refine (readByte_ok _ bs _ _ H (by omega) (by omega)).mono ?_; rw [Int.toNat_natCast, HN.out]; rintro e w' ⟨rfl, rfl⟩) | (go_at_call 54; refine (need_ok _ _ _ _ _ _ (by unfold maxLen; omega) (by omega) (by omega) (by omega)).mono ?_; rintro e w' ⟨rfl, rfl⟩))
      go_ret2
      exact ⟨rfl, rfl⟩
    · have hcv := fun c => conv_sub w (P := Try.prog) Try.underlying26 Try.underlying5 Try.underlying9 b off (k + 1) n c bs hi (by omega)
      clear hi
      generalize sub bs (k + 1) n = r at hcv ⊢
      go_enter Try.func58, Try.ntmps58
      go_wp2_with (first | (go_at_call 48; refine (readByte_ok _ bs _ _ H (by omega) (by omega)).mono ?_; rw [Int.toNat_natCast, HN.out]; rintro e w' ⟨rfl, rfl⟩) | (go_at_call 54; refine (need_ok _ _ _ _ _ _ (by unfold maxLen; omega) (by omega) (by omega) (by omega)).mono ?_; rintro e w' ⟨rfl, rfl⟩))
      go_ret2
      exact ⟨rfl, rfl⟩
end Go.Proofs.Ytklnopgnlnfbnaa
