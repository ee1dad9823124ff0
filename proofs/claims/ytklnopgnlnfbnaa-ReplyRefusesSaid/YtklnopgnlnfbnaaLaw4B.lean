/- What CmdMay asks, as a plain function. -/
import Derived.Test.YtklnopgnlnfbnaaLaw4
set_option linter.unusedVariables false
set_option linter.unusedSimpArgs false
namespace Go.Proofs.Ytklnopgnlnfbnaa
open Go.RowKit
namespace Cm

/-- The name stands, or stands not, as named says. -/
def named (b : Bool) (nm : List UInt8) : Prop := if b then nameF nm = true else nm = []

theorem named_name (r : Nat) (h : r < 6) : nameF (namedF r) = true := by
  match r, h with
  | 0, _ | 1, _ | 2, _ | 3, _ | 4, _ | 5, _ => decide +kernel

/-- What the statement says of which commands may be. -/
theorem may_named (b : Bool) (k s : Int) (nm : List UInt8) (h : named b nm) :
    mayF ⟨k, s, nm⟩ = if k = 1 then (s == 0) && !b else if k = 2 ∨ k = 6 then (decide (1 ≤ s) && decide (s ≤ 2305843009213693952)) && !b else if k = 3 ∨ k = 4 ∨ k = 5 then (decide (1 ≤ s) && decide (s ≤ 2305843009213693952)) && b else false := by
  unfold mayF highF
  cases b
  · obtain rfl : nm = [] := h
    dsimp only
    split
    · cases h0 : (s == 0) <;> simp_all
    · split
      · simp
      · split
        · have : nameF [] = false := by decide
          simp [this]
        · rfl
  · have h' : nameF nm = true := h
    have hne : nm ≠ [] := by rintro rfl; exact absurd h' (by decide)
    dsimp only
    split
    · simp [hne]
    · split
      · simp [hne]
      · split
        · simp [h']
        · rfl

/-- A code told. -/
def Coded (c : Int) (w : World) (e : Ending) (w' : World) : Prop := ∃ a l d, e = .returned (.tuple #[.slice a l d, .int .i64 c]) ∧ Below w.heap.size w w'



theorem cells3_later {w w' : World} {b : Nat} {x y z : Value} (h : Below w.heap.size w w') (q : w.cell? ⟨b, 0, none⟩ = some x ∧ w.cell? ⟨b, 1, none⟩ = some y ∧ w.cell? ⟨b, 2, none⟩ = some z) :
    w'.cell? ⟨b, 0, none⟩ = some x ∧ w'.cell? ⟨b, 1, none⟩ = some y ∧ w'.cell? ⟨b, 2, none⟩ = some z := by
  obtain ⟨q0, q1, q2⟩ := q
  refine ⟨?_, ?_, ?_⟩
  · rw [h.cell (p := ⟨b, 0, none⟩) (lt_of_cell q0)]; exact q0
  · rw [h.cell (p := ⟨b, 1, none⟩) (lt_of_cell q1)]; exact q1
  · rw [h.cell (p := ⟨b, 2, none⟩) (lt_of_cell q2)]; exact q2

theorem mayR_ask (c q : Int) (m : CmdV) (hc : 0 ≤ c ∧ c < 8) (hq : 1 ≤ q ∧ q ≤ 2305843009213693952) : mayR ⟨c, q, m⟩ = mayF m := by
  unfold mayR highF
  simp [hc.1, hc.2, hq.1, hq.2]
theorem mayR_eight (q : Int) (m : CmdV) : mayR ⟨8, q, m⟩ = false := by unfold mayR; simp
theorem mayR_nought (c : Int) (m : CmdV) : mayR ⟨c, 0, m⟩ = false := by unfold mayR highF; simp
end Cm
end Go.Proofs.Ytklnopgnlnfbnaa
