/-
  No cell of these rows narrows 'for every input' (looked for: loops, veiled, ifaces, maps, wideKeys, modest, calm, conditions, laid).
  DERIVED. THE GIVEN ROWS OF THIS SEAT. 5 by the template 'for every input the law returns true; each argument reads behind the call as it read before'; 0 by the template 'total and deterministic' (their statements: YtbcnednhfmchpaaTotals.lean).
  GIVEN WITH THE SEED: the statements are not yours to turn. If you find one false, say at which input.
  Laid BY PROGRAM, IN A SANDBOX (cutbox-rows.mjs): the forced cells as the released guide's own fill.sh prints them over the translation 44b4f62f77dac385… (all of the seat's roots in one cut). By AI agents, Wed Nov 11 2026. No macro, syntax, notation, axiom, sorry.
-/
import Derived.Test.YtbcnednhfmchpaaChecked
import GoSem.Claim
import GoSem.ClaimJoined
import GoSem.ClaimMapViews
import Derived.JoinedTies
import Derived.KernelRfl
namespace Go.Proofs.Ytbcnednhfmchpaa
/- THE CELL 'sum', in the pinned program and in every row, IS THE sha256 OF THE DUMP (.gsa) THAT YtbcnednhfmchpaaProg.lean LOADS. Nothing in Lean hashes anything: it is a label: what it is worth is what the hold of that sum in a sandbox is worth. -/
noncomputable def Try.pinned : Pinned := { name := "ytbcnednhfmchpaa", sum := "44b4f62f77dac3854ad762d98bf75fe54487b76f234a43c952a54b45ae5152ec", checked := Try.checked }
namespace Rows
def none {H : Type} : Left H := { results := [], args := [] }

/-- 'padlocklaw15.LearnRuns': WHATEVER THE INPUT: true; the input reads as it did. -/
def learnRunsSpec : ChangeSpec := { name := "learnRuns", fn := fun _ => fun
  | [d1, d2] => { results := [.lit (.bool true)], args := [d1, d2] }
  | _ => none }
def learnRunsRow : OpenClaim := { program := "ytbcnednhfmchpaa", sum := "44b4f62f77dac3854ad762d98bf75fe54487b76f234a43c952a54b45ae5152ec", func := "padlock/padlocklaw15.LearnRuns", spec := "learnRuns", unfollowed := true, recurses := true, apart := false }
def LearnRunsSaid : Prop := learnRunsRow.holds Try.pinned (OpenSpec.ofChange learnRunsSpec)

/-- ITS FALSE NEIGHBOUR: 'it returns false'. Refute it at one input. -/
def learnRunsWrong : ChangeSpec := { name := "learnRuns", fn := fun _ => fun
  | [d1, d2] => { results := [.lit (.bool false)], args := [d1, d2] }
  | _ => none }
def LearnRunsWrongFalsely : Prop := learnRunsRow.holds Try.pinned (OpenSpec.ofChange learnRunsWrong)

/-- 'padlocklaw15.LearnOrder': WHATEVER THE INPUT: true; the input reads as it did. -/
def learnOrderSpec : ChangeSpec := { name := "learnOrder", fn := fun _ => fun
  | [d1, d2, d3, d4] => { results := [.lit (.bool true)], args := [d1, d2, d3, d4] }
  | _ => none }
def learnOrderRow : OpenClaim := { program := "ytbcnednhfmchpaa", sum := "44b4f62f77dac3854ad762d98bf75fe54487b76f234a43c952a54b45ae5152ec", func := "padlock/padlocklaw15.LearnOrder", spec := "learnOrder", unfollowed := true, recurses := true, apart := false }
def LearnOrderSaid : Prop := learnOrderRow.holds Try.pinned (OpenSpec.ofChange learnOrderSpec)

/-- ITS FALSE NEIGHBOUR: 'it returns false'. Refute it at one input. -/
def learnOrderWrong : ChangeSpec := { name := "learnOrder", fn := fun _ => fun
  | [d1, d2, d3, d4] => { results := [.lit (.bool false)], args := [d1, d2, d3, d4] }
  | _ => none }
def LearnOrderWrongFalsely : Prop := learnOrderRow.holds Try.pinned (OpenSpec.ofChange learnOrderWrong)

/-- 'padlocklaw15.LearnBallots': WHATEVER THE INPUT: true; the input reads as it did. -/
def learnBallotsSpec : ChangeSpec := { name := "learnBallots", fn := fun _ => fun
  | [d1, d2, d3, d4, d5] => { results := [.lit (.bool true)], args := [d1, d2, d3, d4, d5] }
  | _ => none }
def learnBallotsRow : OpenClaim := { program := "ytbcnednhfmchpaa", sum := "44b4f62f77dac3854ad762d98bf75fe54487b76f234a43c952a54b45ae5152ec", func := "padlock/padlocklaw15.LearnBallots", spec := "learnBallots", unfollowed := true, recurses := true, apart := false }
def LearnBallotsSaid : Prop := learnBallotsRow.holds Try.pinned (OpenSpec.ofChange learnBallotsSpec)

/-- ITS FALSE NEIGHBOUR: 'it returns false'. Refute it at one input. -/
def learnBallotsWrong : ChangeSpec := { name := "learnBallots", fn := fun _ => fun
  | [d1, d2, d3, d4, d5] => { results := [.lit (.bool false)], args := [d1, d2, d3, d4, d5] }
  | _ => none }
def LearnBallotsWrongFalsely : Prop := learnBallotsRow.holds Try.pinned (OpenSpec.ofChange learnBallotsWrong)

/-- 'padlocklaw15.LearnStays': WHATEVER THE INPUT: true; the input reads as it did. -/
def learnStaysSpec : ChangeSpec := { name := "learnStays", fn := fun _ => fun
  | [d1, d2, d3] => { results := [.lit (.bool true)], args := [d1, d2, d3] }
  | _ => none }
def learnStaysRow : OpenClaim := { program := "ytbcnednhfmchpaa", sum := "44b4f62f77dac3854ad762d98bf75fe54487b76f234a43c952a54b45ae5152ec", func := "padlock/padlocklaw15.LearnStays", spec := "learnStays", unfollowed := true, recurses := true, apart := false }
def LearnStaysSaid : Prop := learnStaysRow.holds Try.pinned (OpenSpec.ofChange learnStaysSpec)

/-- ITS FALSE NEIGHBOUR: 'it returns false'. Refute it at one input. -/
def learnStaysWrong : ChangeSpec := { name := "learnStays", fn := fun _ => fun
  | [d1, d2, d3] => { results := [.lit (.bool false)], args := [d1, d2, d3] }
  | _ => none }
def LearnStaysWrongFalsely : Prop := learnStaysRow.holds Try.pinned (OpenSpec.ofChange learnStaysWrong)

/-- 'padlocklaw15.LearnRoom': WHATEVER THE INPUT: true; the input reads as it did. -/
def learnRoomSpec : ChangeSpec := { name := "learnRoom", fn := fun _ => fun
  | [d1, d2, d3] => { results := [.lit (.bool true)], args := [d1, d2, d3] }
  | _ => none }
def learnRoomRow : OpenClaim := { program := "ytbcnednhfmchpaa", sum := "44b4f62f77dac3854ad762d98bf75fe54487b76f234a43c952a54b45ae5152ec", func := "padlock/padlocklaw15.LearnRoom", spec := "learnRoom", unfollowed := true, recurses := true, apart := false }
def LearnRoomSaid : Prop := learnRoomRow.holds Try.pinned (OpenSpec.ofChange learnRoomSpec)

/-- ITS FALSE NEIGHBOUR: 'it returns false'. Refute it at one input. -/
def learnRoomWrong : ChangeSpec := { name := "learnRoom", fn := fun _ => fun
  | [d1, d2, d3] => { results := [.lit (.bool false)], args := [d1, d2, d3] }
  | _ => none }
def LearnRoomWrongFalsely : Prop := learnRoomRow.holds Try.pinned (OpenSpec.ofChange learnRoomWrong)

/- THE SECOND FORM. 'bulk': how many values and letters a reading holds, each counted each time it is reached (what is shared counts as often as it is met; a slice's spare places count too). A statement '..UptoSaid' is the law's where the arguments, and the package variables that the reading takes, are together of bulk at most 1048576: NARROWER than '..Said'. Prove '..Said' where nothing that the law and all that it calls make is longer than what came in: it says more and counts as full. Else prove '..UptoSaid'. A law counts once. -/
mutual
def uptoBulk {H : Type} : DataW H → Nat
  | .lit (.string bytes) => bytes.length + 1
  | .lit _ => 1
  | .nil => 1
  | .ptr d => uptoBulk d + 1
  | .slice elems spare => uptoBulkAll elems + uptoBulkAll spare + 1
  | .agg parts => uptoBulkAll parts + 1
  | .iface _ d => uptoBulk d + 1
  | .map entries => uptoBulkEntries entries + 1
  | .held _ => 1
def uptoBulkAll {H : Type} : List (DataW H) → Nat
  | [] => 0
  | d :: r => uptoBulk d + uptoBulkAll r
def uptoBulkEntries {H : Type} : List (Lit × DataW H) → Nat
  | [] => 0
  | x :: r => uptoBulkEntry x + uptoBulkEntries r
def uptoBulkEntry {H : Type} : Lit × DataW H → Nat
  | (.string bytes, d) => bytes.length + uptoBulk d + 1
  | (_, d) => uptoBulk d + 1
 end
def uptoSmall : (H : Type) → List (DataW H) → Bool := fun _ ds => decide (uptoBulkAll ds ≤ 1048576)
def OpenSpec.upto (s : _root_.Go.ChangeSpec) : _root_.Go.OpenSpec := { _root_.Go.OpenSpec.ofChange s with cond := some uptoSmall }

/-- 'padlocklaw15.LearnRuns', WHERE WHAT IT READS IS OF BULK AT MOST 1048576: true; the input reads as it did. -/
def learnRunsUptoRow : OpenClaim := { program := "ytbcnednhfmchpaa", sum := "44b4f62f77dac3854ad762d98bf75fe54487b76f234a43c952a54b45ae5152ec", func := "padlock/padlocklaw15.LearnRuns", spec := "learnRuns", unfollowed := true, recurses := true, apart := false, narrowed := true }
def LearnRunsUptoSaid : Prop := learnRunsUptoRow.holds Try.pinned (OpenSpec.upto learnRunsSpec)

/-- 'padlocklaw15.LearnOrder', WHERE WHAT IT READS IS OF BULK AT MOST 1048576: true; the input reads as it did. -/
def learnOrderUptoRow : OpenClaim := { program := "ytbcnednhfmchpaa", sum := "44b4f62f77dac3854ad762d98bf75fe54487b76f234a43c952a54b45ae5152ec", func := "padlock/padlocklaw15.LearnOrder", spec := "learnOrder", unfollowed := true, recurses := true, apart := false, narrowed := true }
def LearnOrderUptoSaid : Prop := learnOrderUptoRow.holds Try.pinned (OpenSpec.upto learnOrderSpec)

/-- 'padlocklaw15.LearnBallots', WHERE WHAT IT READS IS OF BULK AT MOST 1048576: true; the input reads as it did. -/
def learnBallotsUptoRow : OpenClaim := { program := "ytbcnednhfmchpaa", sum := "44b4f62f77dac3854ad762d98bf75fe54487b76f234a43c952a54b45ae5152ec", func := "padlock/padlocklaw15.LearnBallots", spec := "learnBallots", unfollowed := true, recurses := true, apart := false, narrowed := true }
def LearnBallotsUptoSaid : Prop := learnBallotsUptoRow.holds Try.pinned (OpenSpec.upto learnBallotsSpec)

/-- 'padlocklaw15.LearnStays', WHERE WHAT IT READS IS OF BULK AT MOST 1048576: true; the input reads as it did. -/
def learnStaysUptoRow : OpenClaim := { program := "ytbcnednhfmchpaa", sum := "44b4f62f77dac3854ad762d98bf75fe54487b76f234a43c952a54b45ae5152ec", func := "padlock/padlocklaw15.LearnStays", spec := "learnStays", unfollowed := true, recurses := true, apart := false, narrowed := true }
def LearnStaysUptoSaid : Prop := learnStaysUptoRow.holds Try.pinned (OpenSpec.upto learnStaysSpec)

/-- 'padlocklaw15.LearnRoom', WHERE WHAT IT READS IS OF BULK AT MOST 1048576: true; the input reads as it did. -/
def learnRoomUptoRow : OpenClaim := { program := "ytbcnednhfmchpaa", sum := "44b4f62f77dac3854ad762d98bf75fe54487b76f234a43c952a54b45ae5152ec", func := "padlock/padlocklaw15.LearnRoom", spec := "learnRoom", unfollowed := true, recurses := true, apart := false, narrowed := true }
def LearnRoomUptoSaid : Prop := learnRoomUptoRow.holds Try.pinned (OpenSpec.upto learnRoomSpec)

end Rows
end Go.Proofs.Ytbcnednhfmchpaa
