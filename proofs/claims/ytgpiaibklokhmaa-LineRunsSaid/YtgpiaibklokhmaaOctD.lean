/- Contracts of package octet's exported readers. -/
import Derived.Test.YtgpiaibklokhmaaOctC
set_option linter.unusedVariables false
set_option linter.unusedSimpArgs false
namespace Go.Proofs.Ytgpiaibklokhmaa
open Go.RowKit

/-- What a reading of a number from t on comes to: the number, the place behind it, the code. -/
def numOf (bs : List UInt8) (t : Int) : Int × Int × Int :=
  if t < 0 ∨ (bs.length : Int) < t + 8 then (0, 0, 2) else if val (sub bs t.toNat 8) < 2 ^ 62 then ((val (sub bs t.toNat 8) : Int), t + 8, 0) else (0, 0, 4)

def byteOf (bs : List UInt8) (t : Int) : Int × Int × Int :=
  if t < 0 ∨ (bs.length : Int) ≤ t then (0, 0, 2) else (((bs.getD t.toNat 0).toNat : Int), t + 1, 0)

def textOf (bs : List UInt8) (t m : Int) : List UInt8 × Int × Int :=
  if t < 0 ∨ (bs.length : Int) ≤ t then ([], 0, 2) else
  if m < ((bs.getD t.toNat 0).toNat : Int) then ([], 0, 3) else
  if (bs.length : Int) < t + 1 + (bs.getD t.toNat 0).toNat then ([], 0, 2) else
  (sub bs (t.toNat + 1) (bs.getD t.toNat 0).toNat, t + 1 + (bs.getD t.toNat 0).toNat, 0)

def endOf (bs : List UInt8) (t : Int) : Int :=
  if t < 0 ∨ (bs.length : Int) < t then 2 else if t < (bs.length : Int) then 3 else 0

/-- Three numbers told, nothing that was there has turned. -/
def Three (r : Int × Int × Int) (w : World) (e : Ending) (w' : World) : Prop :=
  e = .returned (.tuple #[.int .i64 r.1, .int .i64 r.2.1, .int .i64 r.2.2]) ∧ Below w.heap.size w w'

/-- A text, a place and a code told. -/
def TextTold (r : List UInt8 × Int × Int) (w : World) (e : Ending) (w' : World) : Prop :=
  e = .returned (.tuple #[.string (bstr r.1), .int .i64 r.2.1, .int .i64 r.2.2]) ∧ Below w.heap.size w w'

def OneTold (r : Int) (w : World) (e : Ending) (w' : World) : Prop :=
  e = .returned (.int .i64 r) ∧ Below w.heap.size w w'

theorem made_func (fn : Fn) (first cap : Array Value) (w : World) : (Instr.makeFunc fn first cap).run Try.prog w = .ok (.func fn first cap) w := rfl

















end Go.Proofs.Ytgpiaibklokhmaa
