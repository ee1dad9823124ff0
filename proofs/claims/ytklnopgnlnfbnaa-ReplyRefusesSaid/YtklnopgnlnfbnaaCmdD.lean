/- Contracts: package cmd's PutReq, GetReq. -/
import Derived.Test.YtklnopgnlnfbnaaCmdC
set_option linter.unusedVariables false
set_option linter.unusedSimpArgs false
namespace Go.Proofs.Ytklnopgnlnfbnaa
open Go.RowKit
namespace Cm



/-- A request, a place and a code told. -/
def GetsR (r : ReqV × Int × Int) (w : World) (e : Ending) (w' : World) : Prop :=
  e = .returned (.tuple #[reqVal r.1, .int .i64 r.2.1, .int .i64 r.2.2]) ∧ Below w.heap.size w w'

theorem getF_le (bs : List UInt8) (t : Int) : (getF bs t).2.1 ≤ bs.length := by
  unfold getF
  split
  · simp
  · split
    · simp
    · split
      · simp
      · split
        · exact textOf_le _ _ _
        · simp

theorem getR_told (bs : List UInt8) (t : Int) {k t1 e1 s t2 e2 t3 e3 : Int} {c : CmdV} (hB : byteOf bs t = (k, t1, e1)) (hN : numOf bs t1 = (s, t2, e2)) (hT : getF bs t2 = (c, t3, e3)) :
    getR bs t = if e1 ≠ 0 then (zeroR, 0, e1) else if e2 ≠ 0 then (zeroR, 0, e2) else if e3 ≠ 0 then (zeroR, 0, e3) else if mayR ⟨k, s, c⟩ then (⟨k, s, c⟩, t3, 0) else (zeroR, 0, 4) := by
  unfold getR
  rw [hB]
  dsimp only
  rw [hN]
  dsimp only
  rw [hT]

theorem free5 {w w' : World} {x y z u v : Value} {t : TypeId} (h : Below (w.alloc (.cells #[x, y, z, u, v] t)).heap.size (w.alloc (.cells #[x, y, z, u, v] t)) w') :
    ∀ k, w'.frozen? ⟨w.heap.size, k, none⟩ = false := by
  intro k
  have hl : w.heap.size < (w.alloc (.cells #[x, y, z, u, v] t)).heap.size := by simp
  rw [h.frozen (p := ⟨w.heap.size, k, none⟩) hl]
  simp [go_sem]

theorem set5 {w w1 : World} (h : Below w.heap.size w w1) (x y z u v : Value) : Below w.heap.size w (((((w1.setCell ⟨w.heap.size, 0, none⟩ x).setCell ⟨w.heap.size, 1, none⟩ y).setCell ⟨w.heap.size, 2, none⟩ z).setCell ⟨w.heap.size, 3, none⟩ u).setCell ⟨w.heap.size, 4, none⟩ v) :=
  ((((h.setCell (Nat.le_refl _) _).setCell (Nat.le_refl _) _).setCell (Nat.le_refl _) _).setCell (Nat.le_refl _) _).setCell (Nat.le_refl _) _


end Cm
end Go.Proofs.Ytklnopgnlnfbnaa
