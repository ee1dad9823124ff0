/- Contracts of the statements' own helpers of layer 1: Same, awake. -/
import Derived.Test.YtgpiaibklokhmaaRefB
set_option linter.unusedVariables false
set_option linter.unusedSimpArgs false
namespace Go.Proofs.Ytgpiaibklokhmaa
open Go.RowKit



/-- Bytes told, to be read. -/
def MadeRd (r : List UInt8 × Int) (w : World) (e : Ending) (w' : World) : Prop :=
  ∃ v, e = .returned (.tuple #[v, .int .i64 r.2]) ∧ Rd w' v r.1 ∧ Below w.heap.size w w'

theorem Made.rd {r : List UInt8 × Int} {w : World} {e : Ending} {w' : World} (h : Made r w e w') : MadeRd r w e w' := by
  obtain ⟨v, he, ho, hb⟩ := h
  exact ⟨v, he, Rd.own ho, hb⟩

theorem rd_lit (w : World) (cs : Array Value) (bs : List UInt8) (h : cs.toList = cellsOf bs) (hm : bs.length ≤ maxLen) : Rd (w.alloc (.cells cs 5)) (.slice (some ⟨w.heap.size, 0, none⟩) bs.length bs.length) bs :=
  Rd.own (owns_lit w cs bs h hm)


end Go.Proofs.Ytgpiaibklokhmaa
