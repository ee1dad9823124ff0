/- Contracts of package octet's writers. -/
import Derived.Test.YtklnopgnlnfbnaaOctD
import Derived.Lib.AppendStr
set_option linter.unusedVariables false
set_option linter.unusedSimpArgs false
namespace Go.Proofs.Ytklnopgnlnfbnaa
open Go.RowKit

/-- The bytes of a number, the most significant one first: the i-th of eight. -/
def beByte (n i : Nat) : Nat := n / 256 ^ (7 - i) % 256

def be8 (n : Nat) : List UInt8 := [UInt8.ofNat (beByte n 0), UInt8.ofNat (beByte n 1), UInt8.ofNat (beByte n 2), UInt8.ofNat (beByte n 3), UInt8.ofNat (beByte n 4), UInt8.ofNat (beByte n 5), UInt8.ofNat (beByte n 6), UInt8.ofNat (beByte n 7)]

/-- The row of eight cells of which the last k are laid. -/
def beCell (n k i : Nat) : Value := .int .u8 (if 8 - k ≤ i then (beByte n i : Int) else 0)
def beArr (n k : Nat) : Array Value := #[beCell n k 0, beCell n k 1, beCell n k 2, beCell n k 3, beCell n k 4, beCell n k 5, beCell n k 6, beCell n k 7]

theorem beArr_zero (n : Nat) : beArr n 0 = #[.int .u8 0, .int .u8 0, .int .u8 0, .int .u8 0, .int .u8 0, .int .u8 0, .int .u8 0, .int .u8 0] := rfl

theorem beCell_succ (n k i : Nat) (hk : k < 8) (hi : i < 8) (h : i ≠ 7 - k) : beCell n (k + 1) i = beCell n k i := by
  unfold beCell
  by_cases h1 : 8 - k ≤ i
  · rw [if_pos h1, if_pos (by omega)]
  · rw [if_neg h1, if_neg (by omega)]

theorem beArr_step (n k : Nat) (hk : k < 8) : (beArr n k).setIfInBounds (7 - k) (.int .u8 ((n / 256 ^ k % 256 : Nat) : Int)) = beArr n (k + 1) := by
  have hlast : beCell n (k + 1) (7 - k) = .int .u8 ((n / 256 ^ k % 256 : Nat) : Int) := by
    unfold beCell beByte
    rw [if_pos (by omega), show 7 - (7 - k) = k by omega]
  rw [← hlast]
  have e := fun i (hi : i < 8) (h : i ≠ 7 - k) => beCell_succ n k i hk hi h
  unfold beArr
  match k, hk with
  | 0, _ => simp [e 0 (by omega) (by omega), e 1 (by omega) (by omega), e 2 (by omega) (by omega), e 3 (by omega) (by omega), e 4 (by omega) (by omega), e 5 (by omega) (by omega), e 6 (by omega) (by omega)]
  | 1, _ => simp [e 0 (by omega) (by omega), e 1 (by omega) (by omega), e 2 (by omega) (by omega), e 3 (by omega) (by omega), e 4 (by omega) (by omega), e 5 (by omega) (by omega), e 7 (by omega) (by omega)]
  | 2, _ => simp [e 0 (by omega) (by omega), e 1 (by omega) (by omega), e 2 (by omega) (by omega), e 3 (by omega) (by omega), e 4 (by omega) (by omega), e 6 (by omega) (by omega), e 7 (by omega) (by omega)]
  | 3, _ => simp [e 0 (by omega) (by omega), e 1 (by omega) (by omega), e 2 (by omega) (by omega), e 3 (by omega) (by omega), e 5 (by omega) (by omega), e 6 (by omega) (by omega), e 7 (by omega) (by omega)]
  | 4, _ => simp [e 0 (by omega) (by omega), e 1 (by omega) (by omega), e 2 (by omega) (by omega), e 4 (by omega) (by omega), e 5 (by omega) (by omega), e 6 (by omega) (by omega), e 7 (by omega) (by omega)]
  | 5, _ => simp [e 0 (by omega) (by omega), e 1 (by omega) (by omega), e 3 (by omega) (by omega), e 4 (by omega) (by omega), e 5 (by omega) (by omega), e 6 (by omega) (by omega), e 7 (by omega) (by omega)]
  | 6, _ => simp [e 0 (by omega) (by omega), e 2 (by omega) (by omega), e 3 (by omega) (by omega), e 4 (by omega) (by omega), e 5 (by omega) (by omega), e 6 (by omega) (by omega), e 7 (by omega) (by omega)]
  | 7, _ => simp [e 1 (by omega) (by omega), e 2 (by omega) (by omega), e 3 (by omega) (by omega), e 4 (by omega) (by omega), e 5 (by omega) (by omega), e 6 (by omega) (by omega), e 7 (by omega) (by omega)]

/-- Bytes and a code told; the bytes lie in new memory of the call's own. -/
def Made (r : List UInt8 × Int) (w : World) (e : Ending) (w' : World) : Prop :=
  ∃ v, e = .returned (.tuple #[v, .int .i64 r.2]) ∧ w'.ownsRow w.heap.size 5 1 v r.1.length (cellsOf r.1) ∧ Below w.heap.size w w'

theorem make8 (w : World) : (Instr.makeSlice 26 (.int .i64 8) (.int .i64 8)).run Try.prog w = .ok (.slice (some ⟨w.heap.size, 0, none⟩) 8 8) (w.alloc (.cells (beArr 0 0) 5)) := by
  rw [beArr_zero]; kernel_rfl

theorem shr_step (n k : Nat) : ((n : Int) / 256 ^ k / 256) = ((n / 256 ^ (k + 1) : Nat) : Int) := by
  rw [Nat.pow_succ, ← Nat.div_div_eq_div_mul]; simp

theorem low_byte (n k : Nat) : ((n : Int) / 256 ^ k % 256) = ((n / 256 ^ k % 256 : Nat) : Int) := by simp

set_option maxRecDepth 100000 in
theorem PutNum_ok (n : Nat) (w : World) (h : n < 2 ^ 62) :
    Calls Try.prog 29 #[.int .i64 (n : Int)] w fun e w' => e = .returned (.tuple #[.slice (some ⟨w.heap.size, 0, none⟩) 8 8, .int .i64 0]) ∧ w.alloc (.cells (beArr n 8) 5) = w' := by
  have hmk := make8
  have hd : decide ((4611686018427387904 : Int) ≤ (n : Int)) = false := by simp; omega
  have hn : decide ((n : Int) < 0) = false := by simp
  have HH := Lib.hid h
  clear h
  go_enter Try.func29, Try.ntmps29
  go_wp2
  go_loopw [0, 5] (fun v i wr => ∃ k : Nat, k ≤ 8 ∧ i = .int .i64 (7 - (k : Int)) ∧ v = .int .i64 ((n / 256 ^ k : Nat) : Int) ∧ wr = w.alloc (.cells (beArr n k) 5)) (fun _ i _ => (intOf i + 1).toNat)
  case atStart => exact ⟨0, by omega, rfl, by simp, rfl⟩
  case round =>
    obtain ⟨k, hk, rfl, rfl, rfl⟩ := hrel
    by_cases hlt : k < 8
    · have hcell : (w.alloc (.cells (beArr n k) 5)).cell? ⟨w.heap.size, 7 - k, none⟩ = some (beCell n k (7 - k)) := by
        match k, hlt with
        | 0, _ | 1, _ | 2, _ | 3, _ | 4, _ | 5, _ | 6, _ | 7, _ => simp [beArr, go_sem]
      go_wp2
      go_roundw
      case rel => exact ⟨k + 1, by omega, by go_num, by rw [shr_step], by rw [low_byte, beArr_step n k hlt]⟩
      case measure => simp [intOf]; omega
    · obtain rfl : k = 8 := by omega
      go_wp2
      go_ret2
      exact ⟨rfl, rfl⟩

theorem beByte_lt (n i : Nat) : beByte n i < 256 := Nat.mod_lt _ (by omega)

theorem toNat_byte (n : Nat) (h : n < 256) : (UInt8.ofNat n).toNat = n := by simp; omega

theorem beArr_cells (n : Nat) : (beArr n 8).toList = cellsOf (be8 n) := by
  have h := fun i => toNat_byte (beByte n i) (beByte_lt n i)
  simp only [beArr, beCell, cellsOf, be8, List.map_cons, List.map_nil, h]
  rfl

theorem be8_length (n : Nat) : (be8 n).length = 8 := rfl

theorem owns_lit (w : World) (cs : Array Value) (bs : List UInt8) (h : cs.toList = cellsOf bs) (hm : bs.length ≤ maxLen) :
    (w.alloc (.cells cs 5)).ownsRow w.heap.size 5 1 (.slice (some ⟨w.heap.size, 0, none⟩) bs.length bs.length) bs.length (cellsOf bs) := by
  have hl : cs.size = bs.length := by rw [← Array.length_toList, h]; simp [cellsOf]
  have := World.ownsRow_lit (base := w.heap.size) (e := 5) (size := 1) w cs bs.length (Nat.le_refl _) hm (by omega)
  rw [h] at this
  exact this

/-- What a number is put as: bytes, and a code. -/
def putNumOf (v : Int) : List UInt8 × Int := if v < 0 ∨ 2 ^ 62 ≤ v then ([], 1) else (be8 v.toNat, 0)

theorem made_none (c : Int) (w : World) (e : Ending) (w' : World) (h : e = .returned (.tuple #[.slice none 0 0, .int .i64 c]) ∧ w = w') : Made ([], c) w e w' := by
  obtain ⟨rfl, rfl⟩ := h
  exact ⟨_, rfl, World.ownsRow_nil _ _ _ _, Below.refl _ _⟩

theorem made_lit (cs : Array Value) (bs : List UInt8) (w : World) (e : Ending) (w' : World) (hc : cs.toList = cellsOf bs) (hm : bs.length ≤ maxLen)
    (h : e = .returned (.tuple #[.slice (some ⟨w.heap.size, 0, none⟩) bs.length bs.length, .int .i64 0]) ∧ w.alloc (.cells cs 5) = w') : Made (bs, 0) w e w' := by
  obtain ⟨rfl, rfl⟩ := h
  exact ⟨_, rfl, owns_lit w cs bs hc hm, (Below.refl _ _).alloc (Nat.le_refl _) _⟩

theorem PutNum_bad (v : Int) (w : World) (h : v < 0 ∨ 2 ^ 62 ≤ v) :
    Calls Try.prog 29 #[.int .i64 v] w fun e w' => e = .returned (.tuple #[.slice none 0 0, .int .i64 1]) ∧ w = w' := by
  by_cases h0 : v < 0
  · have hd : decide (v < 0) = true := by simp; omega
    clear h
    go_enter Try.func29, Try.ntmps29
    go_wp2
    go_ret2
    exact ⟨rfl, rfl⟩
  · have hd : decide (v < 0) = false := by simp; omega
    have he : decide ((4611686018427387904 : Int) ≤ v) = true := by simp; omega
    clear h h0
    go_enter Try.func29, Try.ntmps29
    go_wp2
    go_ret2
    exact ⟨rfl, rfl⟩

theorem PutNum_any (v : Int) (w : World) : Calls Try.prog 29 #[.int .i64 v] w (Made (putNumOf v) w) := by
  unfold putNumOf
  by_cases h : v < 0 ∨ 2 ^ 62 ≤ v
  · rw [if_pos h]
    exact (PutNum_bad v w h).mono fun e w' q => made_none 1 w e w' q
  · rw [if_neg h]
    obtain ⟨n, rfl⟩ := Int.eq_ofNat_of_zero_le (show 0 ≤ v by omega)
    rw [Int.toNat_natCast]
    exact (PutNum_ok n w (by omega)).mono fun e w' q => made_lit _ (be8 n) w e w' (beArr_cells n) (by rw [be8_length]; unfold maxLen; omega) q

def putByteOf (v : Int) : List UInt8 × Int := if v < 0 ∨ 255 < v then ([], 1) else ([UInt8.ofNat v.toNat], 0)

theorem PutByte_bad (v : Int) (w : World) (h : v < 0 ∨ 255 < v) :
    Calls Try.prog 28 #[.int .i64 v] w fun e w' => e = .returned (.tuple #[.slice none 0 0, .int .i64 1]) ∧ w = w' := by
  by_cases h0 : v < 0
  · have hd : decide (v < 0) = true := by simp; omega
    clear h
    go_enter Try.func28, Try.ntmps28
    go_wp2
    go_ret2
    exact ⟨rfl, rfl⟩
  · have hd : decide (v < 0) = false := by simp; omega
    have he : decide ((255 : Int) < v) = true := by simp; omega
    clear h h0
    go_enter Try.func28, Try.ntmps28
    go_wp2
    go_ret2
    exact ⟨rfl, rfl⟩

theorem PutByte_ok (n : Nat) (w : World) (h : n < 256) :
    Calls Try.prog 28 #[.int .i64 (n : Int)] w fun e w' => e = .returned (.tuple #[.slice (some ⟨w.heap.size, 0, none⟩) 1 1, .int .i64 0]) ∧ w.alloc (.cells #[.int .u8 (n : Int)] 5) = w' := by
  have hd : decide ((n : Int) < 0) = false := by simp
  have he : decide ((255 : Int) < (n : Int)) = false := by simp; omega
  go_enter Try.func28, Try.ntmps28
  go_wp2
  go_ret2
  exact ⟨rfl, rfl⟩

theorem PutByte_any (v : Int) (w : World) : Calls Try.prog 28 #[.int .i64 v] w (Made (putByteOf v) w) := by
  unfold putByteOf
  by_cases h : v < 0 ∨ 255 < v
  · rw [if_pos h]
    exact (PutByte_bad v w h).mono fun e w' q => made_none 1 w e w' q
  · rw [if_neg h]
    obtain ⟨n, rfl⟩ := Int.eq_ofNat_of_zero_le (show 0 ≤ v by omega)
    rw [Int.toNat_natCast]
    exact (PutByte_ok n w (by omega)).mono fun e w' q => made_lit _ [UInt8.ofNat n] w e w' (by simp [cellsOf]; omega) (by simp [maxLen]) q

theorem info8 : (Try.prog.info? 5).map (fun i => (i.zero, i.size, i.bytes)) = some (some (.int .u8 0), 1, 1) := by kernel_rfl

def putTextOf (s : ByteArray) : List UInt8 × Int := if 255 < s.size then ([], 3) else (UInt8.ofNat s.size :: s.data.toList, 0)

theorem PutText_bad (s : ByteArray) (w : World) (h : 255 < s.size) :
    Calls Try.prog 45 #[.string s] w fun e w' => e = .returned (.tuple #[.slice none 0 0, .int .i64 3]) ∧ w = w' := by
  have hd : decide ((255 : Int) < (s.size : Int)) = true := by simp; omega
  go_enter Try.func45, Try.ntmps45
  go_wp2
  go_ret2
  exact ⟨rfl, rfl⟩

theorem PutText_ok (s : ByteArray) (w : World) (h : s.size ≤ 255) :
    Calls Try.prog 45 #[.string s] w (Made (UInt8.ofNat s.size :: s.data.toList, 0) w) := by
  obtain ⟨i0, hi, hz0, hz1, hz2⟩ := info_parts info8
  have hd : decide ((255 : Int) < (s.size : Int)) = false := by simp; omega
  have hrd : ∀ w0 : World, Rd (w0.alloc (.cells #[.int .u8 (s.size : Int)] 5)) (.slice (some ⟨w0.heap.size, 0, none⟩) 1 1) [UInt8.ofNat s.size] := fun w0 =>
    Rd.own (owns_lit w0 #[.int .u8 (s.size : Int)] [UInt8.ofNat s.size] (by simp [cellsOf]; omega) (by simp [maxLen]))
  go_enter Try.func45, Try.ntmps45
  go_wp2_with (first
    | (at_make; refine wpList_make_own _ rfl _ _ 26 rfl w.heap.size 5 i0 (.int .u8 0) 1 Try.underlying26 hi hz0 hz1 .i64 .i64 _ (1 + s.size) rfl rfl (by omega) (by rw [hz2]; omega) (by unfold maxLen; omega) (Nat.le_refl _) ?_; intro w0 hown0 hgrow0)
    | (at_builtin; refine wpList_append_rd rfl _ _ 26 rfl w.heap.size 5 i0 Try.underlying26 hi hz0 hz1 hz2 (.slice (some ⟨w.heap.size, 0, none⟩) 0 (1 + s.size)) 0 [] rfl (hown0.alloc _) _ [UInt8.ofNat s.size] rfl (hrd _) (by simp) (by have := hgrow0.size; simp; omega) ?_; intro v1 w1 hown1 hgrow1)
    | (at_builtin; (refine Lib.wpList_append_own_string _ rfl _ _ 26 9 rfl w.heap.size 5 i0 Try.underlying26 Try.underlying9 hi hz0 hz1 hz2 v1 _ _ rfl hown1 s rfl (by unfold maxLen; simp; omega) (by simp; omega) (by have := hgrow0.size; have := hgrow1.size; simp at this; omega) ?_); intro v2 w2 hown2 hgrow2 _))
  go_ret2
  refine ⟨v2, rfl, ?_, ?_⟩
  · have e1 : 0 + [UInt8.ofNat s.size].length + s.size = (UInt8.ofNat s.size :: s.data.toList).length := by
      rw [List.length_cons, List.length_cons, List.length_nil, Array.length_toList]; show 0 + (0 + 1) + s.data.size = s.data.size + 1; omega
    rw [e1] at hown2
    exact hown2
  · have b0 : Below w.heap.size w w0 := (Below.refl _ _).grown hgrow0 (Nat.le_refl _) (fun k hk => by cases hk)
    have b1 : Below w.heap.size w w1 := (b0.alloc hgrow0.size _).grown hgrow1 (by have := hgrow0.size; simp; omega) (fun k hk => by simp [Value.ownBlock] at hk; omega)
    exact b1.grown hgrow2 b1.size (fun k hk => (hown1.lt k hk).1)

theorem PutText_any (s : ByteArray) (w : World) : Calls Try.prog 45 #[.string s] w (Made (putTextOf s) w) := by
  unfold putTextOf
  by_cases h : 255 < s.size
  · rw [if_pos h]
    exact (PutText_bad s w h).mono fun e w' q => made_none 3 w e w' q
  · rw [if_neg h]
    exact PutText_ok s w (by omega)
end Go.Proofs.Ytklnopgnlnfbnaa
