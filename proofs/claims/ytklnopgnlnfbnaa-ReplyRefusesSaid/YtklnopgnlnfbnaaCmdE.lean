/- Contracts: the document's Put, Get of commands. -/
import Derived.Test.YtklnopgnlnfbnaaCmdD
import Derived.Test.YtklnopgnlnfbnaaStep
set_option linter.unusedVariables false
set_option linter.unusedSimpArgs false
namespace Go.Proofs.Ytklnopgnlnfbnaa
open Go.RowKit
namespace Cm

theorem byte_cell (k : Nat) (h : k < 256) : cellsOf [UInt8.ofNat k] = [.int .u8 (k : Int)] := by simp [cellsOf]; omega

theorem own1 (w : World) (base k : Nat) (h : k < 256) (hb : base ≤ w.heap.size) : (w.alloc (.cells #[.int .u8 (k : Int)] 5)).ownsRow base 5 1 (.slice (some ⟨w.heap.size, 0, none⟩) 1 1) 1 (cellsOf [UInt8.ofNat k]) :=
  own_mono (owns_lit w #[.int .u8 (k : Int)] [UInt8.ofNat k] (byte_cell k h).symm (by simp [maxLen])) hb

theorem rd1 (w : World) (k : Nat) (h : k < 256) : Rd (w.alloc (.cells #[.int .u8 (k : Int)] 5)) (.slice (some ⟨w.heap.size, 0, none⟩) 1 1) [UInt8.ofNat k] :=
  Rd.own (own1 w 0 k h (Nat.zero_le _))

/-- A byte of a new slice, and a number's eight bytes behind it, or ahead of it. -/
theorem byte_eight (w : World) (base k n : Nat) (h : k < 256) (hb : base ≤ w.heap.size) :
    ((w.alloc (.cells #[.int .u8 (k : Int)] 5)).alloc (.cells (beArr n 8) 5)).drew.ownsRow base 5 1 (.slice (some ⟨w.heap.size, 0, none⟩) 1 1) 1 (cellsOf [UInt8.ofNat k]) ∧
    Rd ((w.alloc (.cells #[.int .u8 (k : Int)] 5)).alloc (.cells (beArr n 8) 5)).drew (.slice (some ⟨w.heap.size + 1, 0, none⟩) 8 8) (be8 n) := by
  refine ⟨((own1 w base k h hb).alloc _).drew, ?_⟩
  have := (rd8 (w.alloc (.cells #[.int .u8 (k : Int)] 5)) n).later (Below.refl _ _).drew
  rwa [show (w.alloc (.cells #[.int .u8 (k : Int)] 5)).heap.size = w.heap.size + 1 by simp] at this

theorem eight_byte (w : World) (base k n : Nat) (h : k < 256) (hb : base ≤ w.heap.size) :
    ((w.alloc (.cells (beArr n 8) 5)).alloc (.cells #[.int .u8 (k : Int)] 5)).drew.ownsRow base 5 1 (.slice (some ⟨w.heap.size + 1, 0, none⟩) 1 1) 1 (cellsOf [UInt8.ofNat k]) ∧
    Rd ((w.alloc (.cells (beArr n 8) 5)).alloc (.cells #[.int .u8 (k : Int)] 5)).drew (.slice (some ⟨w.heap.size, 0, none⟩) 8 8) (be8 n) := by
  refine ⟨?_, ((rd8 w n).later (newAlloc _ _)).later (Below.refl _ _).drew⟩
  have := (own1 (w.alloc (.cells (beArr n 8) 5)) base k h (by simp; omega)).drew
  rwa [show (w.alloc (.cells (beArr n 8) 5)).heap.size = w.heap.size + 1 by simp] at this


end Cm
end Go.Proofs.Ytklnopgnlnfbnaa
