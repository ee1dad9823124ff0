/-
  No cell of these rows narrows 'for every input' (looked for: loops, veiled, ifaces, maps, wideKeys, modest, calm, conditions, laid).
  DERIVED. THE GIVEN ROWS OF THIS SEAT. 6 by the template 'for every input the law returns true; each argument reads behind the call as it read before'; 0 by the template 'total and deterministic' (their statements: YtnkooajbenhjhaaTotals.lean).
  GIVEN WITH THE SEED: the statements are not yours to turn. If you find one false, say at which input.
  Laid BY PROGRAM, IN A SANDBOX (cutbox-rows.mjs): the forced cells as the released guide's own fill.sh prints them over the translation ddfe0e42627803ca… (all of the seat's roots in one cut). By AI agents, Wed Nov 11 2026. No macro, syntax, notation, axiom, sorry.
-/
import Derived.Test.YtnkooajbenhjhaaChecked
import GoSem.Claim
import GoSem.ClaimJoined
import GoSem.ClaimMapViews
import Derived.JoinedTies
import Derived.KernelRfl
namespace Go.Proofs.Ytnkooajbenhjhaa
/- THE CELL 'sum', in the pinned program and in every row, IS THE sha256 OF THE DUMP (.gsa) THAT YtnkooajbenhjhaaProg.lean LOADS. Nothing in Lean hashes anything: it is a label: what it is worth is what the hold of that sum in a sandbox is worth. -/
noncomputable def Try.pinned : Pinned := { name := "ytnkooajbenhjhaa", sum := "ddfe0e42627803ca5ae2534a5884092506d19bf092bbae1cdfa2f52fde29b6e2", checked := Try.checked }
namespace Rows
def none {H : Type} : Left H := { results := [], args := [] }

/-- 'padlocklaw8.LockRuns': WHATEVER THE INPUT: true; the input reads as it did. -/
def lockRunsSpec : ChangeSpec := { name := "lockRuns", fn := fun _ => fun
  | [d] => { results := [.lit (.bool true)], args := [d] }
  | _ => none }
def lockRunsRow : OpenClaim := { program := "ytnkooajbenhjhaa", sum := "ddfe0e42627803ca5ae2534a5884092506d19bf092bbae1cdfa2f52fde29b6e2", func := "padlock/padlocklaw8.LockRuns", spec := "lockRuns", inPlace := ["slices.overlaps[padlock/api.Lock]"], unfollowed := true, recurses := true, apart := false }
def LockRunsSaid : Prop := lockRunsRow.holds Try.pinned (OpenSpec.ofChange lockRunsSpec)

/-- ITS FALSE NEIGHBOUR: 'it returns false'. Refute it at one input. -/
def lockRunsWrong : ChangeSpec := { name := "lockRuns", fn := fun _ => fun
  | [d] => { results := [.lit (.bool false)], args := [d] }
  | _ => none }
def LockRunsWrongFalsely : Prop := lockRunsRow.holds Try.pinned (OpenSpec.ofChange lockRunsWrong)

/-- 'padlocklaw8.LockRights': WHATEVER THE INPUT: true; the input reads as it did. -/
def lockRightsSpec : ChangeSpec := { name := "lockRights", fn := fun _ => fun
  | [d] => { results := [.lit (.bool true)], args := [d] }
  | _ => none }
def lockRightsRow : OpenClaim := { program := "ytnkooajbenhjhaa", sum := "ddfe0e42627803ca5ae2534a5884092506d19bf092bbae1cdfa2f52fde29b6e2", func := "padlock/padlocklaw8.LockRights", spec := "lockRights", inPlace := ["slices.overlaps[padlock/api.Lock]"], unfollowed := true, recurses := true, apart := false }
def LockRightsSaid : Prop := lockRightsRow.holds Try.pinned (OpenSpec.ofChange lockRightsSpec)

/-- ITS FALSE NEIGHBOUR: 'it returns false'. Refute it at one input. -/
def lockRightsWrong : ChangeSpec := { name := "lockRights", fn := fun _ => fun
  | [d] => { results := [.lit (.bool false)], args := [d] }
  | _ => none }
def LockRightsWrongFalsely : Prop := lockRightsRow.holds Try.pinned (OpenSpec.ofChange lockRightsWrong)

/-- 'padlocklaw8.LockTokens': WHATEVER THE INPUT: true; the input reads as it did. -/
def lockTokensSpec : ChangeSpec := { name := "lockTokens", fn := fun _ => fun
  | [d] => { results := [.lit (.bool true)], args := [d] }
  | _ => none }
def lockTokensRow : OpenClaim := { program := "ytnkooajbenhjhaa", sum := "ddfe0e42627803ca5ae2534a5884092506d19bf092bbae1cdfa2f52fde29b6e2", func := "padlock/padlocklaw8.LockTokens", spec := "lockTokens", inPlace := ["slices.overlaps[padlock/api.Lock]"], unfollowed := true, recurses := true, apart := false }
def LockTokensSaid : Prop := lockTokensRow.holds Try.pinned (OpenSpec.ofChange lockTokensSpec)

/-- ITS FALSE NEIGHBOUR: 'it returns false'. Refute it at one input. -/
def lockTokensWrong : ChangeSpec := { name := "lockTokens", fn := fun _ => fun
  | [d] => { results := [.lit (.bool false)], args := [d] }
  | _ => none }
def LockTokensWrongFalsely : Prop := lockTokensRow.holds Try.pinned (OpenSpec.ofChange lockTokensWrong)

/-- 'padlocklaw8.LockFair': WHATEVER THE INPUT: true; the input reads as it did. -/
def lockFairSpec : ChangeSpec := { name := "lockFair", fn := fun _ => fun
  | [d1, d2, d3] => { results := [.lit (.bool true)], args := [d1, d2, d3] }
  | _ => none }
def lockFairRow : OpenClaim := { program := "ytnkooajbenhjhaa", sum := "ddfe0e42627803ca5ae2534a5884092506d19bf092bbae1cdfa2f52fde29b6e2", func := "padlock/padlocklaw8.LockFair", spec := "lockFair", inPlace := ["slices.overlaps[padlock/api.Lock]"], unfollowed := true, recurses := true, apart := false }
def LockFairSaid : Prop := lockFairRow.holds Try.pinned (OpenSpec.ofChange lockFairSpec)

/-- ITS FALSE NEIGHBOUR: 'it returns false'. Refute it at one input. -/
def lockFairWrong : ChangeSpec := { name := "lockFair", fn := fun _ => fun
  | [d1, d2, d3] => { results := [.lit (.bool false)], args := [d1, d2, d3] }
  | _ => none }
def LockFairWrongFalsely : Prop := lockFairRow.holds Try.pinned (OpenSpec.ofChange lockFairWrong)

/-- 'padlocklaw8.LockDrops': WHATEVER THE INPUT: true; the input reads as it did. -/
def lockDropsSpec : ChangeSpec := { name := "lockDrops", fn := fun _ => fun
  | [d1, d2] => { results := [.lit (.bool true)], args := [d1, d2] }
  | _ => none }
def lockDropsRow : OpenClaim := { program := "ytnkooajbenhjhaa", sum := "ddfe0e42627803ca5ae2534a5884092506d19bf092bbae1cdfa2f52fde29b6e2", func := "padlock/padlocklaw8.LockDrops", spec := "lockDrops", inPlace := ["slices.overlaps[padlock/api.Lock]"], unfollowed := true, recurses := true, apart := false }
def LockDropsSaid : Prop := lockDropsRow.holds Try.pinned (OpenSpec.ofChange lockDropsSpec)

/-- ITS FALSE NEIGHBOUR: 'it returns false'. Refute it at one input. -/
def lockDropsWrong : ChangeSpec := { name := "lockDrops", fn := fun _ => fun
  | [d1, d2] => { results := [.lit (.bool false)], args := [d1, d2] }
  | _ => none }
def LockDropsWrongFalsely : Prop := lockDropsRow.holds Try.pinned (OpenSpec.ofChange lockDropsWrong)

/-- 'padlocklaw8.LockOwn': WHATEVER THE INPUT: true; the input reads as it did. -/
def lockOwnSpec : ChangeSpec := { name := "lockOwn", fn := fun _ => fun
  | [d1, d2, d3] => { results := [.lit (.bool true)], args := [d1, d2, d3] }
  | _ => none }
def lockOwnRow : OpenClaim := { program := "ytnkooajbenhjhaa", sum := "ddfe0e42627803ca5ae2534a5884092506d19bf092bbae1cdfa2f52fde29b6e2", func := "padlock/padlocklaw8.LockOwn", spec := "lockOwn", inPlace := ["slices.overlaps[padlock/api.Lock]"], unfollowed := true, recurses := true, apart := false }
def LockOwnSaid : Prop := lockOwnRow.holds Try.pinned (OpenSpec.ofChange lockOwnSpec)

/-- ITS FALSE NEIGHBOUR: 'it returns false'. Refute it at one input. -/
def lockOwnWrong : ChangeSpec := { name := "lockOwn", fn := fun _ => fun
  | [d1, d2, d3] => { results := [.lit (.bool false)], args := [d1, d2, d3] }
  | _ => none }
def LockOwnWrongFalsely : Prop := lockOwnRow.holds Try.pinned (OpenSpec.ofChange lockOwnWrong)

/- THE SECOND FORM. 'bulk': how many values and letters a reading holds, each counted each time it is reached (what is shared counts as often as it is met; a slice's spare places count too). A statement '..UptoSaid' is the law's where the arguments, and the package variables that the reading takes, are together of bulk at most 1048576: NARROWER than '..Said'. Prove '..Said' where nothing that the law and all that it calls make is longer than what came in: it says more and counts as full. Else prove '..UptoSaid'. A law counts once. -/
mutual
def uptoBulk {H : Type} : DataW H → Nat
  | .lit (.string bytes) => bytes.length + 1
  | .lit _ => 1
  | .nil => 1
  | .ptr d => uptoBulk d + 1
  | .slice elems spare => uptoBulkAll elems + uptoBulkAll spare + 1
  | .agg parts => uptoBulkAll parts + 1
  | .iface _ d => uptoBulk d + 1
  | .map entries => uptoBulkEntries entries + 1
  | .held _ => 1
def uptoBulkAll {H : Type} : List (DataW H) → Nat
  | [] => 0
  | d :: r => uptoBulk d + uptoBulkAll r
def uptoBulkEntries {H : Type} : List (Lit × DataW H) → Nat
  | [] => 0
  | x :: r => uptoBulkEntry x + uptoBulkEntries r
def uptoBulkEntry {H : Type} : Lit × DataW H → Nat
  | (.string bytes, d) => bytes.length + uptoBulk d + 1
  | (_, d) => uptoBulk d + 1
 end
def uptoSmall : (H : Type) → List (DataW H) → Bool := fun _ ds => decide (uptoBulkAll ds ≤ 1048576)
def OpenSpec.upto (s : _root_.Go.ChangeSpec) : _root_.Go.OpenSpec := { _root_.Go.OpenSpec.ofChange s with cond := some uptoSmall }

/-- 'padlocklaw8.LockRuns', WHERE WHAT IT READS IS OF BULK AT MOST 1048576: true; the input reads as it did. -/
def lockRunsUptoRow : OpenClaim := { program := "ytnkooajbenhjhaa", sum := "ddfe0e42627803ca5ae2534a5884092506d19bf092bbae1cdfa2f52fde29b6e2", func := "padlock/padlocklaw8.LockRuns", spec := "lockRuns", inPlace := ["slices.overlaps[padlock/api.Lock]"], unfollowed := true, recurses := true, apart := false, narrowed := true }
def LockRunsUptoSaid : Prop := lockRunsUptoRow.holds Try.pinned (OpenSpec.upto lockRunsSpec)

/-- 'padlocklaw8.LockRights', WHERE WHAT IT READS IS OF BULK AT MOST 1048576: true; the input reads as it did. -/
def lockRightsUptoRow : OpenClaim := { program := "ytnkooajbenhjhaa", sum := "ddfe0e42627803ca5ae2534a5884092506d19bf092bbae1cdfa2f52fde29b6e2", func := "padlock/padlocklaw8.LockRights", spec := "lockRights", inPlace := ["slices.overlaps[padlock/api.Lock]"], unfollowed := true, recurses := true, apart := false, narrowed := true }
def LockRightsUptoSaid : Prop := lockRightsUptoRow.holds Try.pinned (OpenSpec.upto lockRightsSpec)

/-- 'padlocklaw8.LockTokens', WHERE WHAT IT READS IS OF BULK AT MOST 1048576: true; the input reads as it did. -/
def lockTokensUptoRow : OpenClaim := { program := "ytnkooajbenhjhaa", sum := "ddfe0e42627803ca5ae2534a5884092506d19bf092bbae1cdfa2f52fde29b6e2", func := "padlock/padlocklaw8.LockTokens", spec := "lockTokens", inPlace := ["slices.overlaps[padlock/api.Lock]"], unfollowed := true, recurses := true, apart := false, narrowed := true }
def LockTokensUptoSaid : Prop := lockTokensUptoRow.holds Try.pinned (OpenSpec.upto lockTokensSpec)

/-- 'padlocklaw8.LockFair', WHERE WHAT IT READS IS OF BULK AT MOST 1048576: true; the input reads as it did. -/
def lockFairUptoRow : OpenClaim := { program := "ytnkooajbenhjhaa", sum := "ddfe0e42627803ca5ae2534a5884092506d19bf092bbae1cdfa2f52fde29b6e2", func := "padlock/padlocklaw8.LockFair", spec := "lockFair", inPlace := ["slices.overlaps[padlock/api.Lock]"], unfollowed := true, recurses := true, apart := false, narrowed := true }
def LockFairUptoSaid : Prop := lockFairUptoRow.holds Try.pinned (OpenSpec.upto lockFairSpec)

/-- 'padlocklaw8.LockDrops', WHERE WHAT IT READS IS OF BULK AT MOST 1048576: true; the input reads as it did. -/
def lockDropsUptoRow : OpenClaim := { program := "ytnkooajbenhjhaa", sum := "ddfe0e42627803ca5ae2534a5884092506d19bf092bbae1cdfa2f52fde29b6e2", func := "padlock/padlocklaw8.LockDrops", spec := "lockDrops", inPlace := ["slices.overlaps[padlock/api.Lock]"], unfollowed := true, recurses := true, apart := false, narrowed := true }
def LockDropsUptoSaid : Prop := lockDropsUptoRow.holds Try.pinned (OpenSpec.upto lockDropsSpec)

/-- 'padlocklaw8.LockOwn', WHERE WHAT IT READS IS OF BULK AT MOST 1048576: true; the input reads as it did. -/
def lockOwnUptoRow : OpenClaim := { program := "ytnkooajbenhjhaa", sum := "ddfe0e42627803ca5ae2534a5884092506d19bf092bbae1cdfa2f52fde29b6e2", func := "padlock/padlocklaw8.LockOwn", spec := "lockOwn", inPlace := ["slices.overlaps[padlock/api.Lock]"], unfollowed := true, recurses := true, apart := false, narrowed := true }
def LockOwnUptoSaid : Prop := lockOwnUptoRow.holds Try.pinned (OpenSpec.upto lockOwnSpec)

end Rows
end Go.Proofs.Ytnkooajbenhjhaa
