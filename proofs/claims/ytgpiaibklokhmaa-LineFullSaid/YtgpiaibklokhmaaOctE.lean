/- Contracts of package octet's writers. -/
import Derived.Test.YtgpiaibklokhmaaOctD
import Derived.Lib.AppendStr
set_option linter.unusedVariables false
set_option linter.unusedSimpArgs false
namespace Go.Proofs.Ytgpiaibklokhmaa
open Go.RowKit

/-- The bytes of a number, the most significant one first: the i-th of eight. -/
def beByte (n i : Nat) : Nat := n / 256 ^ (7 - i) % 256

def be8 (n : Nat) : List UInt8 := [UInt8.ofNat (beByte n 0), UInt8.ofNat (beByte n 1), UInt8.ofNat (beByte n 2), UInt8.ofNat (beByte n 3), UInt8.ofNat (beByte n 4), UInt8.ofNat (beByte n 5), UInt8.ofNat (beByte n 6), UInt8.ofNat (beByte n 7)]

/-- The row of eight cells of which the last k are laid. -/
def beCell (n k i : Nat) : Value := .int .u8 (if 8 - k ≤ i then (beByte n i : Int) else 0)
def beArr (n k : Nat) : Array Value := #[beCell n k 0, beCell n k 1, beCell n k 2, beCell n k 3, beCell n k 4, beCell n k 5, beCell n k 6, beCell n k 7]

theorem beArr_zero (n : Nat) : beArr n 0 = #[.int .u8 0, .int .u8 0, .int .u8 0, .int .u8 0, .int .u8 0, .int .u8 0, .int .u8 0, .int .u8 0] := rfl

theorem beCell_succ (n k i : Nat) (hk : k < 8) (hi : i < 8) (h : i ≠ 7 - k) : beCell n (k + 1) i = beCell n k i := by
  unfold beCell
  by_cases h1 : 8 - k ≤ i
  · rw [if_pos h1, if_pos (by omega)]
  · rw [if_neg h1, if_neg (by omega)]

theorem beArr_step (n k : Nat) (hk : k < 8) : (beArr n k).setIfInBounds (7 - k) (.int .u8 ((n / 256 ^ k % 256 : Nat) : Int)) = beArr n (k + 1) := by
  have hlast : beCell n (k + 1) (7 - k) = .int .u8 ((n / 256 ^ k % 256 : Nat) : Int) := by
    unfold beCell beByte
    rw [if_pos (by omega), show 7 - (7 - k) = k by omega]
  rw [← hlast]
  have e := fun i (hi : i < 8) (h : i ≠ 7 - k) => beCell_succ n k i hk hi h
  unfold beArr
  match k, hk with
  | 0, _ => simp [e 0 (by omega) (by omega), e 1 (by omega) (by omega), e 2 (by omega) (by omega), e 3 (by omega) (by omega), e 4 (by omega) (by omega), e 5 (by omega) (by omega), e 6 (by omega) (by omega)]
  | 1, _ => simp [e 0 (by omega) (by omega), e 1 (by omega) (by omega), e 2 (by omega) (by omega), e 3 (by omega) (by omega), e 4 (by omega) (by omega), e 5 (by omega) (by omega), e 7 (by omega) (by omega)]
  | 2, _ => simp [e 0 (by omega) (by omega), e 1 (by omega) (by omega), e 2 (by omega) (by omega), e 3 (by omega) (by omega), e 4 (by omega) (by omega), e 6 (by omega) (by omega), e 7 (by omega) (by omega)]
  | 3, _ => simp [e 0 (by omega) (by omega), e 1 (by omega) (by omega), e 2 (by omega) (by omega), e 3 (by omega) (by omega), e 5 (by omega) (by omega), e 6 (by omega) (by omega), e 7 (by omega) (by omega)]
  | 4, _ => simp [e 0 (by omega) (by omega), e 1 (by omega) (by omega), e 2 (by omega) (by omega), e 4 (by omega) (by omega), e 5 (by omega) (by omega), e 6 (by omega) (by omega), e 7 (by omega) (by omega)]
  | 5, _ => simp [e 0 (by omega) (by omega), e 1 (by omega) (by omega), e 3 (by omega) (by omega), e 4 (by omega) (by omega), e 5 (by omega) (by omega), e 6 (by omega) (by omega), e 7 (by omega) (by omega)]
  | 6, _ => simp [e 0 (by omega) (by omega), e 2 (by omega) (by omega), e 3 (by omega) (by omega), e 4 (by omega) (by omega), e 5 (by omega) (by omega), e 6 (by omega) (by omega), e 7 (by omega) (by omega)]
  | 7, _ => simp [e 1 (by omega) (by omega), e 2 (by omega) (by omega), e 3 (by omega) (by omega), e 4 (by omega) (by omega), e 5 (by omega) (by omega), e 6 (by omega) (by omega), e 7 (by omega) (by omega)]

/-- Bytes and a code told; the bytes lie in new memory of the call's own. -/
def Made (r : List UInt8 × Int) (w : World) (e : Ending) (w' : World) : Prop :=
  ∃ v, e = .returned (.tuple #[v, .int .i64 r.2]) ∧ w'.ownsRow w.heap.size 5 1 v r.1.length (cellsOf r.1) ∧ Below w.heap.size w w'

theorem make8 (w : World) : (Instr.makeSlice 41 (.int .i64 8) (.int .i64 8)).run Try.prog w = .ok (.slice (some ⟨w.heap.size, 0, none⟩) 8 8) (w.alloc (.cells (beArr 0 0) 5)) := by
  rw [beArr_zero]; kernel_rfl

theorem shr_step (n k : Nat) : ((n : Int) / 256 ^ k / 256) = ((n / 256 ^ (k + 1) : Nat) : Int) := by
  rw [Nat.pow_succ, ← Nat.div_div_eq_div_mul]; simp

theorem low_byte (n k : Nat) : ((n : Int) / 256 ^ k % 256) = ((n / 256 ^ k % 256 : Nat) : Int) := by simp


theorem beByte_lt (n i : Nat) : beByte n i < 256 := Nat.mod_lt _ (by omega)

theorem toNat_byte (n : Nat) (h : n < 256) : (UInt8.ofNat n).toNat = n := by simp; omega

theorem beArr_cells (n : Nat) : (beArr n 8).toList = cellsOf (be8 n) := by
  have h := fun i => toNat_byte (beByte n i) (beByte_lt n i)
  simp only [beArr, beCell, cellsOf, be8, List.map_cons, List.map_nil, h]
  rfl

theorem be8_length (n : Nat) : (be8 n).length = 8 := rfl

theorem owns_lit (w : World) (cs : Array Value) (bs : List UInt8) (h : cs.toList = cellsOf bs) (hm : bs.length ≤ maxLen) :
    (w.alloc (.cells cs 5)).ownsRow w.heap.size 5 1 (.slice (some ⟨w.heap.size, 0, none⟩) bs.length bs.length) bs.length (cellsOf bs) := by
  have hl : cs.size = bs.length := by rw [← Array.length_toList, h]; simp [cellsOf]
  have := World.ownsRow_lit (base := w.heap.size) (e := 5) (size := 1) w cs bs.length (Nat.le_refl _) hm (by omega)
  rw [h] at this
  exact this

/-- What a number is put as: bytes, and a code. -/
def putNumOf (v : Int) : List UInt8 × Int := if v < 0 ∨ 2 ^ 62 ≤ v then ([], 1) else (be8 v.toNat, 0)

theorem made_none (c : Int) (w : World) (e : Ending) (w' : World) (h : e = .returned (.tuple #[.slice none 0 0, .int .i64 c]) ∧ w = w') : Made ([], c) w e w' := by
  obtain ⟨rfl, rfl⟩ := h
  exact ⟨_, rfl, World.ownsRow_nil _ _ _ _, Below.refl _ _⟩

theorem made_lit (cs : Array Value) (bs : List UInt8) (w : World) (e : Ending) (w' : World) (hc : cs.toList = cellsOf bs) (hm : bs.length ≤ maxLen)
    (h : e = .returned (.tuple #[.slice (some ⟨w.heap.size, 0, none⟩) bs.length bs.length, .int .i64 0]) ∧ w.alloc (.cells cs 5) = w') : Made (bs, 0) w e w' := by
  obtain ⟨rfl, rfl⟩ := h
  exact ⟨_, rfl, owns_lit w cs bs hc hm, (Below.refl _ _).alloc (Nat.le_refl _) _⟩



def putByteOf (v : Int) : List UInt8 × Int := if v < 0 ∨ 255 < v then ([], 1) else ([UInt8.ofNat v.toNat], 0)




theorem info8 : (Try.prog.info? 5).map (fun i => (i.zero, i.size, i.bytes)) = some (some (.int .u8 0), 1, 1) := by kernel_rfl

def putTextOf (s : ByteArray) : List UInt8 × Int := if 255 < s.size then ([], 3) else (UInt8.ofNat s.size :: s.data.toList, 0)




end Go.Proofs.Ytgpiaibklokhmaa
