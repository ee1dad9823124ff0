/-
  No cell of these rows narrows 'for every input' (looked for: loops, veiled, ifaces, maps, wideKeys, modest, calm, conditions, laid).
  DERIVED. THE GIVEN ROWS OF THIS SEAT. 5 by the template 'for every input the law returns true; each argument reads behind the call as it read before'; 0 by the template 'total and deterministic' (their statements: YtdocoflcelhmbaaTotals.lean).
  GIVEN WITH THE SEED: the statements are not yours to turn. If you find one false, say at which input.
  Laid BY PROGRAM, IN A SANDBOX (cutbox-rows.mjs): the forced cells as the released guide's own fill.sh prints them over the translation c33893aec723d8ba… (all of the seat's roots in one cut). By AI agents, Wed Nov 11 2026. No macro, syntax, notation, axiom, sorry.
-/
import Derived.Test.YtdocoflcelhmbaaChecked
import GoSem.Claim
import GoSem.ClaimJoined
import GoSem.ClaimMapViews
import Derived.JoinedTies
import Derived.KernelRfl
namespace Go.Proofs.Ytdocoflcelhmbaa
/- THE CELL 'sum', in the pinned program and in every row, IS THE sha256 OF THE DUMP (.gsa) THAT YtdocoflcelhmbaaProg.lean LOADS. Nothing in Lean hashes anything: it is a label: what it is worth is what the hold of that sum in a sandbox is worth. -/
noncomputable def Try.pinned : Pinned := { name := "ytdocoflcelhmbaa", sum := "c33893aec723d8ba8cb0ddd87dee35edf2d4edef44676c01afaec603645fb734", checked := Try.checked }
namespace Rows
def none {H : Type} : Left H := { results := [], args := [] }

/-- 'padlocklaw13.ViewAll': WHATEVER THE INPUT: true; the input reads as it did. -/
def viewAllSpec : ChangeSpec := { name := "viewAll", fn := fun _ => fun
  | [d1, d2, d3, d4, d5, d6, d7] => { results := [.lit (.bool true)], args := [d1, d2, d3, d4, d5, d6, d7] }
  | _ => none }
def viewAllRow : OpenClaim := { program := "ytdocoflcelhmbaa", sum := "c33893aec723d8ba8cb0ddd87dee35edf2d4edef44676c01afaec603645fb734", func := "padlock/padlocklaw13.ViewAll", spec := "viewAll", apart := false }
def ViewAllSaid : Prop := viewAllRow.holds Try.pinned (OpenSpec.ofChange viewAllSpec)

/-- ITS FALSE NEIGHBOUR: 'it returns false'. Refute it at one input. -/
def viewAllWrong : ChangeSpec := { name := "viewAll", fn := fun _ => fun
  | [d1, d2, d3, d4, d5, d6, d7] => { results := [.lit (.bool false)], args := [d1, d2, d3, d4, d5, d6, d7] }
  | _ => none }
def ViewAllWrongFalsely : Prop := viewAllRow.holds Try.pinned (OpenSpec.ofChange viewAllWrong)

/-- 'padlocklaw13.ViewQuorums': WHATEVER THE INPUT: true; the input reads as it did. -/
def viewQuorumsSpec : ChangeSpec := { name := "viewQuorums", fn := fun _ => fun
  | [d1, d2, d3] => { results := [.lit (.bool true)], args := [d1, d2, d3] }
  | _ => none }
def viewQuorumsRow : OpenClaim := { program := "ytdocoflcelhmbaa", sum := "c33893aec723d8ba8cb0ddd87dee35edf2d4edef44676c01afaec603645fb734", func := "padlock/padlocklaw13.ViewQuorums", spec := "viewQuorums", apart := false }
def ViewQuorumsSaid : Prop := viewQuorumsRow.holds Try.pinned (OpenSpec.ofChange viewQuorumsSpec)

/-- ITS FALSE NEIGHBOUR: 'it returns false'. Refute it at one input. -/
def viewQuorumsWrong : ChangeSpec := { name := "viewQuorums", fn := fun _ => fun
  | [d1, d2, d3] => { results := [.lit (.bool false)], args := [d1, d2, d3] }
  | _ => none }
def ViewQuorumsWrongFalsely : Prop := viewQuorumsRow.holds Try.pinned (OpenSpec.ofChange viewQuorumsWrong)

/-- 'padlocklaw13.ViewTurns': WHATEVER THE INPUT: true; the input reads as it did. -/
def viewTurnsSpec : ChangeSpec := { name := "viewTurns", fn := fun _ => fun
  | [d1, d2] => { results := [.lit (.bool true)], args := [d1, d2] }
  | _ => none }
def viewTurnsRow : OpenClaim := { program := "ytdocoflcelhmbaa", sum := "c33893aec723d8ba8cb0ddd87dee35edf2d4edef44676c01afaec603645fb734", func := "padlock/padlocklaw13.ViewTurns", spec := "viewTurns", apart := false }
def ViewTurnsSaid : Prop := viewTurnsRow.holds Try.pinned (OpenSpec.ofChange viewTurnsSpec)

/-- ITS FALSE NEIGHBOUR: 'it returns false'. Refute it at one input. -/
def viewTurnsWrong : ChangeSpec := { name := "viewTurns", fn := fun _ => fun
  | [d1, d2] => { results := [.lit (.bool false)], args := [d1, d2] }
  | _ => none }
def ViewTurnsWrongFalsely : Prop := viewTurnsRow.holds Try.pinned (OpenSpec.ofChange viewTurnsWrong)

/-- 'padlocklaw13.ViewTimeouts': WHATEVER THE INPUT: true; the input reads as it did. -/
def viewTimeoutsSpec : ChangeSpec := { name := "viewTimeouts", fn := fun _ => fun
  | [d1, d2, d3, d4] => { results := [.lit (.bool true)], args := [d1, d2, d3, d4] }
  | _ => none }
def viewTimeoutsRow : OpenClaim := { program := "ytdocoflcelhmbaa", sum := "c33893aec723d8ba8cb0ddd87dee35edf2d4edef44676c01afaec603645fb734", func := "padlock/padlocklaw13.ViewTimeouts", spec := "viewTimeouts", apart := false }
def ViewTimeoutsSaid : Prop := viewTimeoutsRow.holds Try.pinned (OpenSpec.ofChange viewTimeoutsSpec)

/-- ITS FALSE NEIGHBOUR: 'it returns false'. Refute it at one input. -/
def viewTimeoutsWrong : ChangeSpec := { name := "viewTimeouts", fn := fun _ => fun
  | [d1, d2, d3, d4] => { results := [.lit (.bool false)], args := [d1, d2, d3, d4] }
  | _ => none }
def ViewTimeoutsWrongFalsely : Prop := viewTimeoutsRow.holds Try.pinned (OpenSpec.ofChange viewTimeoutsWrong)

/-- 'padlocklaw13.ViewConfs': WHATEVER THE INPUT: true; the input reads as it did. -/
def viewConfsSpec : ChangeSpec := { name := "viewConfs", fn := fun _ => fun
  | [d1, d2, d3] => { results := [.lit (.bool true)], args := [d1, d2, d3] }
  | _ => none }
def viewConfsRow : OpenClaim := { program := "ytdocoflcelhmbaa", sum := "c33893aec723d8ba8cb0ddd87dee35edf2d4edef44676c01afaec603645fb734", func := "padlock/padlocklaw13.ViewConfs", spec := "viewConfs", apart := false }
def ViewConfsSaid : Prop := viewConfsRow.holds Try.pinned (OpenSpec.ofChange viewConfsSpec)

/-- ITS FALSE NEIGHBOUR: 'it returns false'. Refute it at one input. -/
def viewConfsWrong : ChangeSpec := { name := "viewConfs", fn := fun _ => fun
  | [d1, d2, d3] => { results := [.lit (.bool false)], args := [d1, d2, d3] }
  | _ => none }
def ViewConfsWrongFalsely : Prop := viewConfsRow.holds Try.pinned (OpenSpec.ofChange viewConfsWrong)

/- THE SECOND FORM. 'bulk': how many values and letters a reading holds, each counted each time it is reached (what is shared counts as often as it is met; a slice's spare places count too). A statement '..UptoSaid' is the law's where the arguments, and the package variables that the reading takes, are together of bulk at most 1048576: NARROWER than '..Said'. Prove '..Said' where nothing that the law and all that it calls make is longer than what came in: it says more and counts as full. Else prove '..UptoSaid'. A law counts once. -/
mutual
def uptoBulk {H : Type} : DataW H → Nat
  | .lit (.string bytes) => bytes.length + 1
  | .lit _ => 1
  | .nil => 1
  | .ptr d => uptoBulk d + 1
  | .slice elems spare => uptoBulkAll elems + uptoBulkAll spare + 1
  | .agg parts => uptoBulkAll parts + 1
  | .iface _ d => uptoBulk d + 1
  | .map entries => uptoBulkEntries entries + 1
  | .held _ => 1
def uptoBulkAll {H : Type} : List (DataW H) → Nat
  | [] => 0
  | d :: r => uptoBulk d + uptoBulkAll r
def uptoBulkEntries {H : Type} : List (Lit × DataW H) → Nat
  | [] => 0
  | x :: r => uptoBulkEntry x + uptoBulkEntries r
def uptoBulkEntry {H : Type} : Lit × DataW H → Nat
  | (.string bytes, d) => bytes.length + uptoBulk d + 1
  | (_, d) => uptoBulk d + 1
 end
def uptoSmall : (H : Type) → List (DataW H) → Bool := fun _ ds => decide (uptoBulkAll ds ≤ 1048576)
def OpenSpec.upto (s : _root_.Go.ChangeSpec) : _root_.Go.OpenSpec := { _root_.Go.OpenSpec.ofChange s with cond := some uptoSmall }

/-- 'padlocklaw13.ViewAll', WHERE WHAT IT READS IS OF BULK AT MOST 1048576: true; the input reads as it did. -/
def viewAllUptoRow : OpenClaim := { program := "ytdocoflcelhmbaa", sum := "c33893aec723d8ba8cb0ddd87dee35edf2d4edef44676c01afaec603645fb734", func := "padlock/padlocklaw13.ViewAll", spec := "viewAll", apart := false, narrowed := true }
def ViewAllUptoSaid : Prop := viewAllUptoRow.holds Try.pinned (OpenSpec.upto viewAllSpec)

/-- 'padlocklaw13.ViewQuorums', WHERE WHAT IT READS IS OF BULK AT MOST 1048576: true; the input reads as it did. -/
def viewQuorumsUptoRow : OpenClaim := { program := "ytdocoflcelhmbaa", sum := "c33893aec723d8ba8cb0ddd87dee35edf2d4edef44676c01afaec603645fb734", func := "padlock/padlocklaw13.ViewQuorums", spec := "viewQuorums", apart := false, narrowed := true }
def ViewQuorumsUptoSaid : Prop := viewQuorumsUptoRow.holds Try.pinned (OpenSpec.upto viewQuorumsSpec)

/-- 'padlocklaw13.ViewTurns', WHERE WHAT IT READS IS OF BULK AT MOST 1048576: true; the input reads as it did. -/
def viewTurnsUptoRow : OpenClaim := { program := "ytdocoflcelhmbaa", sum := "c33893aec723d8ba8cb0ddd87dee35edf2d4edef44676c01afaec603645fb734", func := "padlock/padlocklaw13.ViewTurns", spec := "viewTurns", apart := false, narrowed := true }
def ViewTurnsUptoSaid : Prop := viewTurnsUptoRow.holds Try.pinned (OpenSpec.upto viewTurnsSpec)

/-- 'padlocklaw13.ViewTimeouts', WHERE WHAT IT READS IS OF BULK AT MOST 1048576: true; the input reads as it did. -/
def viewTimeoutsUptoRow : OpenClaim := { program := "ytdocoflcelhmbaa", sum := "c33893aec723d8ba8cb0ddd87dee35edf2d4edef44676c01afaec603645fb734", func := "padlock/padlocklaw13.ViewTimeouts", spec := "viewTimeouts", apart := false, narrowed := true }
def ViewTimeoutsUptoSaid : Prop := viewTimeoutsUptoRow.holds Try.pinned (OpenSpec.upto viewTimeoutsSpec)

/-- 'padlocklaw13.ViewConfs', WHERE WHAT IT READS IS OF BULK AT MOST 1048576: true; the input reads as it did. -/
def viewConfsUptoRow : OpenClaim := { program := "ytdocoflcelhmbaa", sum := "c33893aec723d8ba8cb0ddd87dee35edf2d4edef44676c01afaec603645fb734", func := "padlock/padlocklaw13.ViewConfs", spec := "viewConfs", apart := false, narrowed := true }
def ViewConfsUptoSaid : Prop := viewConfsUptoRow.holds Try.pinned (OpenSpec.upto viewConfsSpec)

end Rows
end Go.Proofs.Ytdocoflcelhmbaa
