/-
  No cell of these rows narrows 'for every input' (looked for: loops, veiled, ifaces, maps, wideKeys, modest, calm, conditions, laid).
  DERIVED. THE GIVEN ROWS OF THIS SEAT. 5 by the template 'for every input the law returns true; each argument reads behind the call as it read before'; 0 by the template 'total and deterministic' (their statements: YtkhcnhfdcbellaaTotals.lean).
  GIVEN WITH THE SEED: the statements are not yours to turn. If you find one false, say at which input.
  Laid BY PROGRAM, IN A SANDBOX (cutbox-rows.mjs): the forced cells as the released guide's own fill.sh prints them over the translation 6e669eccb07c96f8… (all of the seat's roots in one cut). By AI agents, Wed Nov 11 2026. No macro, syntax, notation, axiom, sorry.
-/
import Derived.Test.YtkhcnhfdcbellaaChecked
import GoSem.Claim
import GoSem.ClaimJoined
import GoSem.ClaimMapViews
import Derived.JoinedTies
import Derived.KernelRfl
namespace Go.Proofs.Ytkhcnhfdcbellaa
/- THE CELL 'sum', in the pinned program and in every row, IS THE sha256 OF THE DUMP (.gsa) THAT YtkhcnhfdcbellaaProg.lean LOADS. Nothing in Lean hashes anything: it is a label: what it is worth is what the hold of that sum in a sandbox is worth. -/
noncomputable def Try.pinned : Pinned := { name := "ytkhcnhfdcbellaa", sum := "6e669eccb07c96f85ecb1ed3c18f2707fe189b51c42826b645ccb9adfc768b0e", checked := Try.checked }
namespace Rows
def none {H : Type} : Left H := { results := [], args := [] }

/-- 'padlocklaw6.SessionRuns': WHATEVER THE INPUT: true; the input reads as it did. -/
def sessionRunsSpec : ChangeSpec := { name := "sessionRuns", fn := fun _ => fun
  | [d1, d2, d3, d4] => { results := [.lit (.bool true)], args := [d1, d2, d3, d4] }
  | _ => none }
def sessionRunsRow : OpenClaim := { program := "ytkhcnhfdcbellaa", sum := "6e669eccb07c96f85ecb1ed3c18f2707fe189b51c42826b645ccb9adfc768b0e", func := "padlock/padlocklaw6.SessionRuns", spec := "sessionRuns", unfollowed := true, recurses := true, apart := false }
def SessionRunsSaid : Prop := sessionRunsRow.holds Try.pinned (OpenSpec.ofChange sessionRunsSpec)

/-- ITS FALSE NEIGHBOUR: 'it returns false'. Refute it at one input. -/
def sessionRunsWrong : ChangeSpec := { name := "sessionRuns", fn := fun _ => fun
  | [d1, d2, d3, d4] => { results := [.lit (.bool false)], args := [d1, d2, d3, d4] }
  | _ => none }
def SessionRunsWrongFalsely : Prop := sessionRunsRow.holds Try.pinned (OpenSpec.ofChange sessionRunsWrong)

/-- 'padlocklaw6.SessionRights': WHATEVER THE INPUT: true; the input reads as it did. -/
def sessionRightsSpec : ChangeSpec := { name := "sessionRights", fn := fun _ => fun
  | [d] => { results := [.lit (.bool true)], args := [d] }
  | _ => none }
def sessionRightsRow : OpenClaim := { program := "ytkhcnhfdcbellaa", sum := "6e669eccb07c96f85ecb1ed3c18f2707fe189b51c42826b645ccb9adfc768b0e", func := "padlock/padlocklaw6.SessionRights", spec := "sessionRights", unfollowed := true, recurses := true, apart := false }
def SessionRightsSaid : Prop := sessionRightsRow.holds Try.pinned (OpenSpec.ofChange sessionRightsSpec)

/-- ITS FALSE NEIGHBOUR: 'it returns false'. Refute it at one input. -/
def sessionRightsWrong : ChangeSpec := { name := "sessionRights", fn := fun _ => fun
  | [d] => { results := [.lit (.bool false)], args := [d] }
  | _ => none }
def SessionRightsWrongFalsely : Prop := sessionRightsRow.holds Try.pinned (OpenSpec.ofChange sessionRightsWrong)

/-- 'padlocklaw6.SessionBack': WHATEVER THE INPUT: true; the input reads as it did. -/
def sessionBackSpec : ChangeSpec := { name := "sessionBack", fn := fun _ => fun
  | [d1, d2, d3] => { results := [.lit (.bool true)], args := [d1, d2, d3] }
  | _ => none }
def sessionBackRow : OpenClaim := { program := "ytkhcnhfdcbellaa", sum := "6e669eccb07c96f85ecb1ed3c18f2707fe189b51c42826b645ccb9adfc768b0e", func := "padlock/padlocklaw6.SessionBack", spec := "sessionBack", unfollowed := true, recurses := true, apart := false }
def SessionBackSaid : Prop := sessionBackRow.holds Try.pinned (OpenSpec.ofChange sessionBackSpec)

/-- ITS FALSE NEIGHBOUR: 'it returns false'. Refute it at one input. -/
def sessionBackWrong : ChangeSpec := { name := "sessionBack", fn := fun _ => fun
  | [d1, d2, d3] => { results := [.lit (.bool false)], args := [d1, d2, d3] }
  | _ => none }
def SessionBackWrongFalsely : Prop := sessionBackRow.holds Try.pinned (OpenSpec.ofChange sessionBackWrong)

/-- 'padlocklaw6.SessionDue': WHATEVER THE INPUT: true; the input reads as it did. -/
def sessionDueSpec : ChangeSpec := { name := "sessionDue", fn := fun _ => fun
  | [d1, d2, d3, d4, d5] => { results := [.lit (.bool true)], args := [d1, d2, d3, d4, d5] }
  | _ => none }
def sessionDueRow : OpenClaim := { program := "ytkhcnhfdcbellaa", sum := "6e669eccb07c96f85ecb1ed3c18f2707fe189b51c42826b645ccb9adfc768b0e", func := "padlock/padlocklaw6.SessionDue", spec := "sessionDue", unfollowed := true, recurses := true, apart := false }
def SessionDueSaid : Prop := sessionDueRow.holds Try.pinned (OpenSpec.ofChange sessionDueSpec)

/-- ITS FALSE NEIGHBOUR: 'it returns false'. Refute it at one input. -/
def sessionDueWrong : ChangeSpec := { name := "sessionDue", fn := fun _ => fun
  | [d1, d2, d3, d4, d5] => { results := [.lit (.bool false)], args := [d1, d2, d3, d4, d5] }
  | _ => none }
def SessionDueWrongFalsely : Prop := sessionDueRow.holds Try.pinned (OpenSpec.ofChange sessionDueWrong)

/-- 'padlocklaw6.SessionRefuses': WHATEVER THE INPUT: true; the input reads as it did. -/
def sessionRefusesSpec : ChangeSpec := { name := "sessionRefuses", fn := fun _ => fun
  | [d1, d2, d3, d4] => { results := [.lit (.bool true)], args := [d1, d2, d3, d4] }
  | _ => none }
def sessionRefusesRow : OpenClaim := { program := "ytkhcnhfdcbellaa", sum := "6e669eccb07c96f85ecb1ed3c18f2707fe189b51c42826b645ccb9adfc768b0e", func := "padlock/padlocklaw6.SessionRefuses", spec := "sessionRefuses", unfollowed := true, recurses := true, apart := false }
def SessionRefusesSaid : Prop := sessionRefusesRow.holds Try.pinned (OpenSpec.ofChange sessionRefusesSpec)

/-- ITS FALSE NEIGHBOUR: 'it returns false'. Refute it at one input. -/
def sessionRefusesWrong : ChangeSpec := { name := "sessionRefuses", fn := fun _ => fun
  | [d1, d2, d3, d4] => { results := [.lit (.bool false)], args := [d1, d2, d3, d4] }
  | _ => none }
def SessionRefusesWrongFalsely : Prop := sessionRefusesRow.holds Try.pinned (OpenSpec.ofChange sessionRefusesWrong)

/- THE SECOND FORM. 'bulk': how many values and letters a reading holds, each counted each time it is reached (what is shared counts as often as it is met; a slice's spare places count too). A statement '..UptoSaid' is the law's where the arguments, and the package variables that the reading takes, are together of bulk at most 1048576: NARROWER than '..Said'. Prove '..Said' where nothing that the law and all that it calls make is longer than what came in: it says more and counts as full. Else prove '..UptoSaid'. A law counts once. -/
mutual
def uptoBulk {H : Type} : DataW H → Nat
  | .lit (.string bytes) => bytes.length + 1
  | .lit _ => 1
  | .nil => 1
  | .ptr d => uptoBulk d + 1
  | .slice elems spare => uptoBulkAll elems + uptoBulkAll spare + 1
  | .agg parts => uptoBulkAll parts + 1
  | .iface _ d => uptoBulk d + 1
  | .map entries => uptoBulkEntries entries + 1
  | .held _ => 1
def uptoBulkAll {H : Type} : List (DataW H) → Nat
  | [] => 0
  | d :: r => uptoBulk d + uptoBulkAll r
def uptoBulkEntries {H : Type} : List (Lit × DataW H) → Nat
  | [] => 0
  | x :: r => uptoBulkEntry x + uptoBulkEntries r
def uptoBulkEntry {H : Type} : Lit × DataW H → Nat
  | (.string bytes, d) => bytes.length + uptoBulk d + 1
  | (_, d) => uptoBulk d + 1
 end
def uptoSmall : (H : Type) → List (DataW H) → Bool := fun _ ds => decide (uptoBulkAll ds ≤ 1048576)
def OpenSpec.upto (s : _root_.Go.ChangeSpec) : _root_.Go.OpenSpec := { _root_.Go.OpenSpec.ofChange s with cond := some uptoSmall }

/-- 'padlocklaw6.SessionRuns', WHERE WHAT IT READS IS OF BULK AT MOST 1048576: true; the input reads as it did. -/
def sessionRunsUptoRow : OpenClaim := { program := "ytkhcnhfdcbellaa", sum := "6e669eccb07c96f85ecb1ed3c18f2707fe189b51c42826b645ccb9adfc768b0e", func := "padlock/padlocklaw6.SessionRuns", spec := "sessionRuns", unfollowed := true, recurses := true, apart := false, narrowed := true }
def SessionRunsUptoSaid : Prop := sessionRunsUptoRow.holds Try.pinned (OpenSpec.upto sessionRunsSpec)

/-- 'padlocklaw6.SessionRights', WHERE WHAT IT READS IS OF BULK AT MOST 1048576: true; the input reads as it did. -/
def sessionRightsUptoRow : OpenClaim := { program := "ytkhcnhfdcbellaa", sum := "6e669eccb07c96f85ecb1ed3c18f2707fe189b51c42826b645ccb9adfc768b0e", func := "padlock/padlocklaw6.SessionRights", spec := "sessionRights", unfollowed := true, recurses := true, apart := false, narrowed := true }
def SessionRightsUptoSaid : Prop := sessionRightsUptoRow.holds Try.pinned (OpenSpec.upto sessionRightsSpec)

/-- 'padlocklaw6.SessionBack', WHERE WHAT IT READS IS OF BULK AT MOST 1048576: true; the input reads as it did. -/
def sessionBackUptoRow : OpenClaim := { program := "ytkhcnhfdcbellaa", sum := "6e669eccb07c96f85ecb1ed3c18f2707fe189b51c42826b645ccb9adfc768b0e", func := "padlock/padlocklaw6.SessionBack", spec := "sessionBack", unfollowed := true, recurses := true, apart := false, narrowed := true }
def SessionBackUptoSaid : Prop := sessionBackUptoRow.holds Try.pinned (OpenSpec.upto sessionBackSpec)

/-- 'padlocklaw6.SessionDue', WHERE WHAT IT READS IS OF BULK AT MOST 1048576: true; the input reads as it did. -/
def sessionDueUptoRow : OpenClaim := { program := "ytkhcnhfdcbellaa", sum := "6e669eccb07c96f85ecb1ed3c18f2707fe189b51c42826b645ccb9adfc768b0e", func := "padlock/padlocklaw6.SessionDue", spec := "sessionDue", unfollowed := true, recurses := true, apart := false, narrowed := true }
def SessionDueUptoSaid : Prop := sessionDueUptoRow.holds Try.pinned (OpenSpec.upto sessionDueSpec)

/-- 'padlocklaw6.SessionRefuses', WHERE WHAT IT READS IS OF BULK AT MOST 1048576: true; the input reads as it did. -/
def sessionRefusesUptoRow : OpenClaim := { program := "ytkhcnhfdcbellaa", sum := "6e669eccb07c96f85ecb1ed3c18f2707fe189b51c42826b645ccb9adfc768b0e", func := "padlock/padlocklaw6.SessionRefuses", spec := "sessionRefuses", unfollowed := true, recurses := true, apart := false, narrowed := true }
def SessionRefusesUptoSaid : Prop := sessionRefusesUptoRow.holds Try.pinned (OpenSpec.upto sessionRefusesSpec)

end Rows
end Go.Proofs.Ytkhcnhfdcbellaa
