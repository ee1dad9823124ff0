/-
  No cell of these rows narrows 'for every input' (looked for: loops, veiled, ifaces, maps, wideKeys, modest, calm, conditions, laid).
  DERIVED. THE GIVEN ROWS OF THIS SEAT. 5 by the template 'for every input the law returns true; each argument reads behind the call as it read before'; 0 by the template 'total and deterministic' (their statements: YtmodbbmdkealdaaTotals.lean).
  GIVEN WITH THE SEED: the statements are not yours to turn. If you find one false, say at which input.
  Laid BY PROGRAM, IN A SANDBOX (cutbox-rows.mjs): the forced cells as the released guide's own fill.sh prints them over the translation bcf88dd8cc4a40c5… (all of the seat's roots in one cut). By AI agents, Wed Nov 11 2026. No macro, syntax, notation, axiom, sorry.
-/
import Derived.Test.YtmodbbmdkealdaaChecked
import GoSem.Claim
import GoSem.ClaimJoined
import GoSem.ClaimMapViews
import Derived.JoinedTies
import Derived.KernelRfl
namespace Go.Proofs.Ytmodbbmdkealdaa
/- THE CELL 'sum', in the pinned program and in every row, IS THE sha256 OF THE DUMP (.gsa) THAT YtmodbbmdkealdaaProg.lean LOADS. Nothing in Lean hashes anything: it is a label: what it is worth is what the hold of that sum in a sandbox is worth. -/
noncomputable def Try.pinned : Pinned := { name := "ytmodbbmdkealdaa", sum := "bcf88dd8cc4a40c5585974fef63f5d45ef532cd45bdfd9cf9d69a43d19360cab", checked := Try.checked }
namespace Rows
def none {H : Type} : Left H := { results := [], args := [] }

/-- 'padlocklaw14.AcceptRuns': WHATEVER THE INPUT: true; the input reads as it did. -/
def acceptRunsSpec : ChangeSpec := { name := "acceptRuns", fn := fun _ => fun
  | [d1, d2] => { results := [.lit (.bool true)], args := [d1, d2] }
  | _ => none }
def acceptRunsRow : OpenClaim := { program := "ytmodbbmdkealdaa", sum := "bcf88dd8cc4a40c5585974fef63f5d45ef532cd45bdfd9cf9d69a43d19360cab", func := "padlock/padlocklaw14.AcceptRuns", spec := "acceptRuns", unfollowed := true, recurses := true, apart := false }
def AcceptRunsSaid : Prop := acceptRunsRow.holds Try.pinned (OpenSpec.ofChange acceptRunsSpec)

/-- ITS FALSE NEIGHBOUR: 'it returns false'. Refute it at one input. -/
def acceptRunsWrong : ChangeSpec := { name := "acceptRuns", fn := fun _ => fun
  | [d1, d2] => { results := [.lit (.bool false)], args := [d1, d2] }
  | _ => none }
def AcceptRunsWrongFalsely : Prop := acceptRunsRow.holds Try.pinned (OpenSpec.ofChange acceptRunsWrong)

/-- 'padlocklaw14.AcceptBounds': WHATEVER THE INPUT: true; the input reads as it did. -/
def acceptBoundsSpec : ChangeSpec := { name := "acceptBounds", fn := fun _ => fun
  | [d] => { results := [.lit (.bool true)], args := [d] }
  | _ => none }
def acceptBoundsRow : OpenClaim := { program := "ytmodbbmdkealdaa", sum := "bcf88dd8cc4a40c5585974fef63f5d45ef532cd45bdfd9cf9d69a43d19360cab", func := "padlock/padlocklaw14.AcceptBounds", spec := "acceptBounds", unfollowed := true, recurses := true, apart := false }
def AcceptBoundsSaid : Prop := acceptBoundsRow.holds Try.pinned (OpenSpec.ofChange acceptBoundsSpec)

/-- ITS FALSE NEIGHBOUR: 'it returns false'. Refute it at one input. -/
def acceptBoundsWrong : ChangeSpec := { name := "acceptBounds", fn := fun _ => fun
  | [d] => { results := [.lit (.bool false)], args := [d] }
  | _ => none }
def AcceptBoundsWrongFalsely : Prop := acceptBoundsRow.holds Try.pinned (OpenSpec.ofChange acceptBoundsWrong)

/-- 'padlocklaw14.AcceptPromises': WHATEVER THE INPUT: true; the input reads as it did. -/
def acceptPromisesSpec : ChangeSpec := { name := "acceptPromises", fn := fun _ => fun
  | [d1, d2, d3, d4] => { results := [.lit (.bool true)], args := [d1, d2, d3, d4] }
  | _ => none }
def acceptPromisesRow : OpenClaim := { program := "ytmodbbmdkealdaa", sum := "bcf88dd8cc4a40c5585974fef63f5d45ef532cd45bdfd9cf9d69a43d19360cab", func := "padlock/padlocklaw14.AcceptPromises", spec := "acceptPromises", unfollowed := true, recurses := true, apart := false }
def AcceptPromisesSaid : Prop := acceptPromisesRow.holds Try.pinned (OpenSpec.ofChange acceptPromisesSpec)

/-- ITS FALSE NEIGHBOUR: 'it returns false'. Refute it at one input. -/
def acceptPromisesWrong : ChangeSpec := { name := "acceptPromises", fn := fun _ => fun
  | [d1, d2, d3, d4] => { results := [.lit (.bool false)], args := [d1, d2, d3, d4] }
  | _ => none }
def AcceptPromisesWrongFalsely : Prop := acceptPromisesRow.holds Try.pinned (OpenSpec.ofChange acceptPromisesWrong)

/-- 'padlocklaw14.AcceptTrims': WHATEVER THE INPUT: true; the input reads as it did. -/
def acceptTrimsSpec : ChangeSpec := { name := "acceptTrims", fn := fun _ => fun
  | [d1, d2, d3] => { results := [.lit (.bool true)], args := [d1, d2, d3] }
  | _ => none }
def acceptTrimsRow : OpenClaim := { program := "ytmodbbmdkealdaa", sum := "bcf88dd8cc4a40c5585974fef63f5d45ef532cd45bdfd9cf9d69a43d19360cab", func := "padlock/padlocklaw14.AcceptTrims", spec := "acceptTrims", unfollowed := true, recurses := true, apart := false }
def AcceptTrimsSaid : Prop := acceptTrimsRow.holds Try.pinned (OpenSpec.ofChange acceptTrimsSpec)

/-- ITS FALSE NEIGHBOUR: 'it returns false'. Refute it at one input. -/
def acceptTrimsWrong : ChangeSpec := { name := "acceptTrims", fn := fun _ => fun
  | [d1, d2, d3] => { results := [.lit (.bool false)], args := [d1, d2, d3] }
  | _ => none }
def AcceptTrimsWrongFalsely : Prop := acceptTrimsRow.holds Try.pinned (OpenSpec.ofChange acceptTrimsWrong)

/-- 'padlocklaw14.AcceptLast': WHATEVER THE INPUT: true; the input reads as it did. -/
def acceptLastSpec : ChangeSpec := { name := "acceptLast", fn := fun _ => fun
  | [d1, d2, d3, d4] => { results := [.lit (.bool true)], args := [d1, d2, d3, d4] }
  | _ => none }
def acceptLastRow : OpenClaim := { program := "ytmodbbmdkealdaa", sum := "bcf88dd8cc4a40c5585974fef63f5d45ef532cd45bdfd9cf9d69a43d19360cab", func := "padlock/padlocklaw14.AcceptLast", spec := "acceptLast", unfollowed := true, recurses := true, apart := false }
def AcceptLastSaid : Prop := acceptLastRow.holds Try.pinned (OpenSpec.ofChange acceptLastSpec)

/-- ITS FALSE NEIGHBOUR: 'it returns false'. Refute it at one input. -/
def acceptLastWrong : ChangeSpec := { name := "acceptLast", fn := fun _ => fun
  | [d1, d2, d3, d4] => { results := [.lit (.bool false)], args := [d1, d2, d3, d4] }
  | _ => none }
def AcceptLastWrongFalsely : Prop := acceptLastRow.holds Try.pinned (OpenSpec.ofChange acceptLastWrong)

/- THE SECOND FORM. 'bulk': how many values and letters a reading holds, each counted each time it is reached (what is shared counts as often as it is met; a slice's spare places count too). A statement '..UptoSaid' is the law's where the arguments, and the package variables that the reading takes, are together of bulk at most 1048576: NARROWER than '..Said'. Prove '..Said' where nothing that the law and all that it calls make is longer than what came in: it says more and counts as full. Else prove '..UptoSaid'. A law counts once. -/
mutual
def uptoBulk {H : Type} : DataW H → Nat
  | .lit (.string bytes) => bytes.length + 1
  | .lit _ => 1
  | .nil => 1
  | .ptr d => uptoBulk d + 1
  | .slice elems spare => uptoBulkAll elems + uptoBulkAll spare + 1
  | .agg parts => uptoBulkAll parts + 1
  | .iface _ d => uptoBulk d + 1
  | .map entries => uptoBulkEntries entries + 1
  | .held _ => 1
def uptoBulkAll {H : Type} : List (DataW H) → Nat
  | [] => 0
  | d :: r => uptoBulk d + uptoBulkAll r
def uptoBulkEntries {H : Type} : List (Lit × DataW H) → Nat
  | [] => 0
  | x :: r => uptoBulkEntry x + uptoBulkEntries r
def uptoBulkEntry {H : Type} : Lit × DataW H → Nat
  | (.string bytes, d) => bytes.length + uptoBulk d + 1
  | (_, d) => uptoBulk d + 1
 end
def uptoSmall : (H : Type) → List (DataW H) → Bool := fun _ ds => decide (uptoBulkAll ds ≤ 1048576)
def OpenSpec.upto (s : _root_.Go.ChangeSpec) : _root_.Go.OpenSpec := { _root_.Go.OpenSpec.ofChange s with cond := some uptoSmall }

/-- 'padlocklaw14.AcceptRuns', WHERE WHAT IT READS IS OF BULK AT MOST 1048576: true; the input reads as it did. -/
def acceptRunsUptoRow : OpenClaim := { program := "ytmodbbmdkealdaa", sum := "bcf88dd8cc4a40c5585974fef63f5d45ef532cd45bdfd9cf9d69a43d19360cab", func := "padlock/padlocklaw14.AcceptRuns", spec := "acceptRuns", unfollowed := true, recurses := true, apart := false, narrowed := true }
def AcceptRunsUptoSaid : Prop := acceptRunsUptoRow.holds Try.pinned (OpenSpec.upto acceptRunsSpec)

/-- 'padlocklaw14.AcceptBounds', WHERE WHAT IT READS IS OF BULK AT MOST 1048576: true; the input reads as it did. -/
def acceptBoundsUptoRow : OpenClaim := { program := "ytmodbbmdkealdaa", sum := "bcf88dd8cc4a40c5585974fef63f5d45ef532cd45bdfd9cf9d69a43d19360cab", func := "padlock/padlocklaw14.AcceptBounds", spec := "acceptBounds", unfollowed := true, recurses := true, apart := false, narrowed := true }
def AcceptBoundsUptoSaid : Prop := acceptBoundsUptoRow.holds Try.pinned (OpenSpec.upto acceptBoundsSpec)

/-- 'padlocklaw14.AcceptPromises', WHERE WHAT IT READS IS OF BULK AT MOST 1048576: true; the input reads as it did. -/
def acceptPromisesUptoRow : OpenClaim := { program := "ytmodbbmdkealdaa", sum := "bcf88dd8cc4a40c5585974fef63f5d45ef532cd45bdfd9cf9d69a43d19360cab", func := "padlock/padlocklaw14.AcceptPromises", spec := "acceptPromises", unfollowed := true, recurses := true, apart := false, narrowed := true }
def AcceptPromisesUptoSaid : Prop := acceptPromisesUptoRow.holds Try.pinned (OpenSpec.upto acceptPromisesSpec)

/-- 'padlocklaw14.AcceptTrims', WHERE WHAT IT READS IS OF BULK AT MOST 1048576: true; the input reads as it did. -/
def acceptTrimsUptoRow : OpenClaim := { program := "ytmodbbmdkealdaa", sum := "bcf88dd8cc4a40c5585974fef63f5d45ef532cd45bdfd9cf9d69a43d19360cab", func := "padlock/padlocklaw14.AcceptTrims", spec := "acceptTrims", unfollowed := true, recurses := true, apart := false, narrowed := true }
def AcceptTrimsUptoSaid : Prop := acceptTrimsUptoRow.holds Try.pinned (OpenSpec.upto acceptTrimsSpec)

/-- 'padlocklaw14.AcceptLast', WHERE WHAT IT READS IS OF BULK AT MOST 1048576: true; the input reads as it did. -/
def acceptLastUptoRow : OpenClaim := { program := "ytmodbbmdkealdaa", sum := "bcf88dd8cc4a40c5585974fef63f5d45ef532cd45bdfd9cf9d69a43d19360cab", func := "padlock/padlocklaw14.AcceptLast", spec := "acceptLast", unfollowed := true, recurses := true, apart := false, narrowed := true }
def AcceptLastUptoSaid : Prop := acceptLastUptoRow.holds Try.pinned (OpenSpec.upto acceptLastSpec)

end Rows
end Go.Proofs.Ytmodbbmdkealdaa
