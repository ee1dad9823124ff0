/-
  No cell of these rows narrows 'for every input' (looked for: loops, veiled, ifaces, maps, wideKeys, modest, calm, conditions, laid).
  DERIVED. THE GIVEN ROWS OF THIS SEAT. 5 by the template 'for every input the law returns true; each argument reads behind the call as it read before'; 0 by the template 'total and deterministic' (their statements: YtfkpgndbohoogaaTotals.lean).
  GIVEN WITH THE SEED: the statements are not yours to turn. If you find one false, say at which input.
  Laid BY PROGRAM, IN A SANDBOX (cutbox-rows.mjs): the forced cells as the released guide's own fill.sh prints them over the translation be813c50e5df0151… (all of the seat's roots in one cut). By AI agents, Wed Nov 11 2026. No macro, syntax, notation, axiom, sorry.
-/
import Derived.Test.YtfkpgndbohoogaaChecked
import GoSem.Claim
import GoSem.ClaimJoined
import GoSem.ClaimMapViews
import Derived.JoinedTies
import Derived.KernelRfl
namespace Go.Proofs.Ytfkpgndbohoogaa
/- THE CELL 'sum', in the pinned program and in every row, IS THE sha256 OF THE DUMP (.gsa) THAT YtfkpgndbohoogaaProg.lean LOADS. Nothing in Lean hashes anything: it is a label: what it is worth is what the hold of that sum in a sandbox is worth. -/
noncomputable def Try.pinned : Pinned := { name := "ytfkpgndbohoogaa", sum := "be813c50e5df0151357a47d1fec22b48b255767fe075c79c17f4d93389b5946a", checked := Try.checked }
namespace Rows
def none {H : Type} : Left H := { results := [], args := [] }

/-- 'padlocklaw9.MemoRuns': WHATEVER THE INPUT: true; the input reads as it did. -/
def memoRunsSpec : ChangeSpec := { name := "memoRuns", fn := fun _ => fun
  | [d1, d2, d3] => { results := [.lit (.bool true)], args := [d1, d2, d3] }
  | _ => none }
def memoRunsRow : OpenClaim := { program := "ytfkpgndbohoogaa", sum := "be813c50e5df0151357a47d1fec22b48b255767fe075c79c17f4d93389b5946a", func := "padlock/padlocklaw9.MemoRuns", spec := "memoRuns", inPlace := ["slices.overlaps[padlock/api.Memo]"], unfollowed := true, recurses := true, apart := false }
def MemoRunsSaid : Prop := memoRunsRow.holds Try.pinned (OpenSpec.ofChange memoRunsSpec)

/-- ITS FALSE NEIGHBOUR: 'it returns false'. Refute it at one input. -/
def memoRunsWrong : ChangeSpec := { name := "memoRuns", fn := fun _ => fun
  | [d1, d2, d3] => { results := [.lit (.bool false)], args := [d1, d2, d3] }
  | _ => none }
def MemoRunsWrongFalsely : Prop := memoRunsRow.holds Try.pinned (OpenSpec.ofChange memoRunsWrong)

/-- 'padlocklaw9.MemoRights': WHATEVER THE INPUT: true; the input reads as it did. -/
def memoRightsSpec : ChangeSpec := { name := "memoRights", fn := fun _ => fun
  | [d] => { results := [.lit (.bool true)], args := [d] }
  | _ => none }
def memoRightsRow : OpenClaim := { program := "ytfkpgndbohoogaa", sum := "be813c50e5df0151357a47d1fec22b48b255767fe075c79c17f4d93389b5946a", func := "padlock/padlocklaw9.MemoRights", spec := "memoRights", inPlace := ["slices.overlaps[padlock/api.Memo]"], unfollowed := true, recurses := true, apart := false }
def MemoRightsSaid : Prop := memoRightsRow.holds Try.pinned (OpenSpec.ofChange memoRightsSpec)

/-- ITS FALSE NEIGHBOUR: 'it returns false'. Refute it at one input. -/
def memoRightsWrong : ChangeSpec := { name := "memoRights", fn := fun _ => fun
  | [d] => { results := [.lit (.bool false)], args := [d] }
  | _ => none }
def MemoRightsWrongFalsely : Prop := memoRightsRow.holds Try.pinned (OpenSpec.ofChange memoRightsWrong)

/-- 'padlocklaw9.MemoKeeps': WHATEVER THE INPUT: true; the input reads as it did. -/
def memoKeepsSpec : ChangeSpec := { name := "memoKeeps", fn := fun _ => fun
  | [d] => { results := [.lit (.bool true)], args := [d] }
  | _ => none }
def memoKeepsRow : OpenClaim := { program := "ytfkpgndbohoogaa", sum := "be813c50e5df0151357a47d1fec22b48b255767fe075c79c17f4d93389b5946a", func := "padlock/padlocklaw9.MemoKeeps", spec := "memoKeeps", inPlace := ["slices.overlaps[padlock/api.Memo]"], unfollowed := true, recurses := true, apart := false }
def MemoKeepsSaid : Prop := memoKeepsRow.holds Try.pinned (OpenSpec.ofChange memoKeepsSpec)

/-- ITS FALSE NEIGHBOUR: 'it returns false'. Refute it at one input. -/
def memoKeepsWrong : ChangeSpec := { name := "memoKeeps", fn := fun _ => fun
  | [d] => { results := [.lit (.bool false)], args := [d] }
  | _ => none }
def MemoKeepsWrongFalsely : Prop := memoKeepsRow.holds Try.pinned (OpenSpec.ofChange memoKeepsWrong)

/-- 'padlocklaw9.MemoOrder': WHATEVER THE INPUT: true; the input reads as it did. -/
def memoOrderSpec : ChangeSpec := { name := "memoOrder", fn := fun _ => fun
  | [d1, d2] => { results := [.lit (.bool true)], args := [d1, d2] }
  | _ => none }
def memoOrderRow : OpenClaim := { program := "ytfkpgndbohoogaa", sum := "be813c50e5df0151357a47d1fec22b48b255767fe075c79c17f4d93389b5946a", func := "padlock/padlocklaw9.MemoOrder", spec := "memoOrder", inPlace := ["slices.overlaps[padlock/api.Memo]"], unfollowed := true, recurses := true, apart := false }
def MemoOrderSaid : Prop := memoOrderRow.holds Try.pinned (OpenSpec.ofChange memoOrderSpec)

/-- ITS FALSE NEIGHBOUR: 'it returns false'. Refute it at one input. -/
def memoOrderWrong : ChangeSpec := { name := "memoOrder", fn := fun _ => fun
  | [d1, d2] => { results := [.lit (.bool false)], args := [d1, d2] }
  | _ => none }
def MemoOrderWrongFalsely : Prop := memoOrderRow.holds Try.pinned (OpenSpec.ofChange memoOrderWrong)

/-- 'padlocklaw9.MemoSame': WHATEVER THE INPUT: true; the input reads as it did. -/
def memoSameSpec : ChangeSpec := { name := "memoSame", fn := fun _ => fun
  | [d1, d2, d3, d4] => { results := [.lit (.bool true)], args := [d1, d2, d3, d4] }
  | _ => none }
def memoSameRow : OpenClaim := { program := "ytfkpgndbohoogaa", sum := "be813c50e5df0151357a47d1fec22b48b255767fe075c79c17f4d93389b5946a", func := "padlock/padlocklaw9.MemoSame", spec := "memoSame", inPlace := ["slices.overlaps[padlock/api.Memo]"], unfollowed := true, recurses := true, apart := false }
def MemoSameSaid : Prop := memoSameRow.holds Try.pinned (OpenSpec.ofChange memoSameSpec)

/-- ITS FALSE NEIGHBOUR: 'it returns false'. Refute it at one input. -/
def memoSameWrong : ChangeSpec := { name := "memoSame", fn := fun _ => fun
  | [d1, d2, d3, d4] => { results := [.lit (.bool false)], args := [d1, d2, d3, d4] }
  | _ => none }
def MemoSameWrongFalsely : Prop := memoSameRow.holds Try.pinned (OpenSpec.ofChange memoSameWrong)

/- THE SECOND FORM. 'bulk': how many values and letters a reading holds, each counted each time it is reached (what is shared counts as often as it is met; a slice's spare places count too). A statement '..UptoSaid' is the law's where the arguments, and the package variables that the reading takes, are together of bulk at most 1048576: NARROWER than '..Said'. Prove '..Said' where nothing that the law and all that it calls make is longer than what came in: it says more and counts as full. Else prove '..UptoSaid'. A law counts once. -/
mutual
def uptoBulk {H : Type} : DataW H → Nat
  | .lit (.string bytes) => bytes.length + 1
  | .lit _ => 1
  | .nil => 1
  | .ptr d => uptoBulk d + 1
  | .slice elems spare => uptoBulkAll elems + uptoBulkAll spare + 1
  | .agg parts => uptoBulkAll parts + 1
  | .iface _ d => uptoBulk d + 1
  | .map entries => uptoBulkEntries entries + 1
  | .held _ => 1
def uptoBulkAll {H : Type} : List (DataW H) → Nat
  | [] => 0
  | d :: r => uptoBulk d + uptoBulkAll r
def uptoBulkEntries {H : Type} : List (Lit × DataW H) → Nat
  | [] => 0
  | x :: r => uptoBulkEntry x + uptoBulkEntries r
def uptoBulkEntry {H : Type} : Lit × DataW H → Nat
  | (.string bytes, d) => bytes.length + uptoBulk d + 1
  | (_, d) => uptoBulk d + 1
 end
def uptoSmall : (H : Type) → List (DataW H) → Bool := fun _ ds => decide (uptoBulkAll ds ≤ 1048576)
def OpenSpec.upto (s : _root_.Go.ChangeSpec) : _root_.Go.OpenSpec := { _root_.Go.OpenSpec.ofChange s with cond := some uptoSmall }

/-- 'padlocklaw9.MemoRuns', WHERE WHAT IT READS IS OF BULK AT MOST 1048576: true; the input reads as it did. -/
def memoRunsUptoRow : OpenClaim := { program := "ytfkpgndbohoogaa", sum := "be813c50e5df0151357a47d1fec22b48b255767fe075c79c17f4d93389b5946a", func := "padlock/padlocklaw9.MemoRuns", spec := "memoRuns", inPlace := ["slices.overlaps[padlock/api.Memo]"], unfollowed := true, recurses := true, apart := false, narrowed := true }
def MemoRunsUptoSaid : Prop := memoRunsUptoRow.holds Try.pinned (OpenSpec.upto memoRunsSpec)

/-- 'padlocklaw9.MemoRights', WHERE WHAT IT READS IS OF BULK AT MOST 1048576: true; the input reads as it did. -/
def memoRightsUptoRow : OpenClaim := { program := "ytfkpgndbohoogaa", sum := "be813c50e5df0151357a47d1fec22b48b255767fe075c79c17f4d93389b5946a", func := "padlock/padlocklaw9.MemoRights", spec := "memoRights", inPlace := ["slices.overlaps[padlock/api.Memo]"], unfollowed := true, recurses := true, apart := false, narrowed := true }
def MemoRightsUptoSaid : Prop := memoRightsUptoRow.holds Try.pinned (OpenSpec.upto memoRightsSpec)

/-- 'padlocklaw9.MemoKeeps', WHERE WHAT IT READS IS OF BULK AT MOST 1048576: true; the input reads as it did. -/
def memoKeepsUptoRow : OpenClaim := { program := "ytfkpgndbohoogaa", sum := "be813c50e5df0151357a47d1fec22b48b255767fe075c79c17f4d93389b5946a", func := "padlock/padlocklaw9.MemoKeeps", spec := "memoKeeps", inPlace := ["slices.overlaps[padlock/api.Memo]"], unfollowed := true, recurses := true, apart := false, narrowed := true }
def MemoKeepsUptoSaid : Prop := memoKeepsUptoRow.holds Try.pinned (OpenSpec.upto memoKeepsSpec)

/-- 'padlocklaw9.MemoOrder', WHERE WHAT IT READS IS OF BULK AT MOST 1048576: true; the input reads as it did. -/
def memoOrderUptoRow : OpenClaim := { program := "ytfkpgndbohoogaa", sum := "be813c50e5df0151357a47d1fec22b48b255767fe075c79c17f4d93389b5946a", func := "padlock/padlocklaw9.MemoOrder", spec := "memoOrder", inPlace := ["slices.overlaps[padlock/api.Memo]"], unfollowed := true, recurses := true, apart := false, narrowed := true }
def MemoOrderUptoSaid : Prop := memoOrderUptoRow.holds Try.pinned (OpenSpec.upto memoOrderSpec)

/-- 'padlocklaw9.MemoSame', WHERE WHAT IT READS IS OF BULK AT MOST 1048576: true; the input reads as it did. -/
def memoSameUptoRow : OpenClaim := { program := "ytfkpgndbohoogaa", sum := "be813c50e5df0151357a47d1fec22b48b255767fe075c79c17f4d93389b5946a", func := "padlock/padlocklaw9.MemoSame", spec := "memoSame", inPlace := ["slices.overlaps[padlock/api.Memo]"], unfollowed := true, recurses := true, apart := false, narrowed := true }
def MemoSameUptoSaid : Prop := memoSameUptoRow.holds Try.pinned (OpenSpec.upto memoSameSpec)

end Rows
end Go.Proofs.Ytfkpgndbohoogaa
