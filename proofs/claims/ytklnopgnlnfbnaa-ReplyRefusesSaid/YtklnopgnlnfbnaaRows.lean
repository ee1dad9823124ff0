/-
  No cell of these rows narrows 'for every input' (looked for: loops, veiled, ifaces, maps, wideKeys, modest, calm, conditions, laid).
  DERIVED. THE GIVEN ROWS OF THIS SEAT. 5 by the template 'for every input the law returns true; each argument reads behind the call as it read before'; 0 by the template 'total and deterministic' (their statements: YtklnopgnlnfbnaaTotals.lean).
  GIVEN WITH THE SEED: the statements are not yours to turn. If you find one false, say at which input.
  Laid BY PROGRAM, IN A SANDBOX (cutbox-rows.mjs): the forced cells as the released guide's own fill.sh prints them over the translation 020e937d71e95356… (all of the seat's roots in one cut). By AI agents, Wed Nov 11 2026. No macro, syntax, notation, axiom, sorry.
-/
import Derived.Test.YtklnopgnlnfbnaaChecked
import GoSem.Claim
import GoSem.ClaimJoined
import GoSem.ClaimMapViews
import Derived.JoinedTies
import Derived.KernelRfl
namespace Go.Proofs.Ytklnopgnlnfbnaa
/- THE CELL 'sum', in the pinned program and in every row, IS THE sha256 OF THE DUMP (.gsa) THAT YtklnopgnlnfbnaaProg.lean LOADS. Nothing in Lean hashes anything: it is a label: what it is worth is what the hold of that sum in a sandbox is worth. -/
noncomputable def Try.pinned : Pinned := { name := "ytklnopgnlnfbnaa", sum := "020e937d71e95356de35310f6717085b36252ebfd508587d8fc6ec5d043cd1f9", checked := Try.checked }
namespace Rows
def none {H : Type} : Left H := { results := [], args := [] }

/-- 'padlocklaw5.ReplyAll': WHATEVER THE INPUT: true; the input reads as it did. -/
def replyAllSpec : ChangeSpec := { name := "replyAll", fn := fun _ => fun
  | [d1, d2, d3, d4] => { results := [.lit (.bool true)], args := [d1, d2, d3, d4] }
  | _ => none }
def replyAllRow : OpenClaim := { program := "ytklnopgnlnfbnaa", sum := "020e937d71e95356de35310f6717085b36252ebfd508587d8fc6ec5d043cd1f9", func := "padlock/padlocklaw5.ReplyAll", spec := "replyAll", unfollowed := true, recurses := true, apart := false }
def ReplyAllSaid : Prop := replyAllRow.holds Try.pinned (OpenSpec.ofChange replyAllSpec)

/-- ITS FALSE NEIGHBOUR: 'it returns false'. Refute it at one input. -/
def replyAllWrong : ChangeSpec := { name := "replyAll", fn := fun _ => fun
  | [d1, d2, d3, d4] => { results := [.lit (.bool false)], args := [d1, d2, d3, d4] }
  | _ => none }
def ReplyAllWrongFalsely : Prop := replyAllRow.holds Try.pinned (OpenSpec.ofChange replyAllWrong)

/-- 'padlocklaw5.ReplyAnswers': WHATEVER THE INPUT: true; the input reads as it did. -/
def replyAnswersSpec : ChangeSpec := { name := "replyAnswers", fn := fun _ => fun
  | [d1, d2, d3] => { results := [.lit (.bool true)], args := [d1, d2, d3] }
  | _ => none }
def replyAnswersRow : OpenClaim := { program := "ytklnopgnlnfbnaa", sum := "020e937d71e95356de35310f6717085b36252ebfd508587d8fc6ec5d043cd1f9", func := "padlock/padlocklaw5.ReplyAnswers", spec := "replyAnswers", unfollowed := true, recurses := true, apart := false }
def ReplyAnswersSaid : Prop := replyAnswersRow.holds Try.pinned (OpenSpec.ofChange replyAnswersSpec)

/-- ITS FALSE NEIGHBOUR: 'it returns false'. Refute it at one input. -/
def replyAnswersWrong : ChangeSpec := { name := "replyAnswers", fn := fun _ => fun
  | [d1, d2, d3] => { results := [.lit (.bool false)], args := [d1, d2, d3] }
  | _ => none }
def ReplyAnswersWrongFalsely : Prop := replyAnswersRow.holds Try.pinned (OpenSpec.ofChange replyAnswersWrong)

/-- 'padlocklaw5.ReplyBack': WHATEVER THE INPUT: true; the input reads as it did. -/
def replyBackSpec : ChangeSpec := { name := "replyBack", fn := fun _ => fun
  | [d1, d2, d3, d4, d5] => { results := [.lit (.bool true)], args := [d1, d2, d3, d4, d5] }
  | _ => none }
def replyBackRow : OpenClaim := { program := "ytklnopgnlnfbnaa", sum := "020e937d71e95356de35310f6717085b36252ebfd508587d8fc6ec5d043cd1f9", func := "padlock/padlocklaw5.ReplyBack", spec := "replyBack", unfollowed := true, recurses := true, apart := false }
def ReplyBackSaid : Prop := replyBackRow.holds Try.pinned (OpenSpec.ofChange replyBackSpec)

/-- ITS FALSE NEIGHBOUR: 'it returns false'. Refute it at one input. -/
def replyBackWrong : ChangeSpec := { name := "replyBack", fn := fun _ => fun
  | [d1, d2, d3, d4, d5] => { results := [.lit (.bool false)], args := [d1, d2, d3, d4, d5] }
  | _ => none }
def ReplyBackWrongFalsely : Prop := replyBackRow.holds Try.pinned (OpenSpec.ofChange replyBackWrong)

/-- 'padlocklaw5.ReplyRefuses': WHATEVER THE INPUT: true; the input reads as it did. -/
def replyRefusesSpec : ChangeSpec := { name := "replyRefuses", fn := fun _ => fun
  | [d1, d2, d3] => { results := [.lit (.bool true)], args := [d1, d2, d3] }
  | _ => none }
def replyRefusesRow : OpenClaim := { program := "ytklnopgnlnfbnaa", sum := "020e937d71e95356de35310f6717085b36252ebfd508587d8fc6ec5d043cd1f9", func := "padlock/padlocklaw5.ReplyRefuses", spec := "replyRefuses", unfollowed := true, recurses := true, apart := false }
def ReplyRefusesSaid : Prop := replyRefusesRow.holds Try.pinned (OpenSpec.ofChange replyRefusesSpec)

/-- ITS FALSE NEIGHBOUR: 'it returns false'. Refute it at one input. -/
def replyRefusesWrong : ChangeSpec := { name := "replyRefuses", fn := fun _ => fun
  | [d1, d2, d3] => { results := [.lit (.bool false)], args := [d1, d2, d3] }
  | _ => none }
def ReplyRefusesWrongFalsely : Prop := replyRefusesRow.holds Try.pinned (OpenSpec.ofChange replyRefusesWrong)

/-- 'padlocklaw5.ReplyTokens': WHATEVER THE INPUT: true; the input reads as it did. -/
def replyTokensSpec : ChangeSpec := { name := "replyTokens", fn := fun _ => fun
  | [d1, d2] => { results := [.lit (.bool true)], args := [d1, d2] }
  | _ => none }
def replyTokensRow : OpenClaim := { program := "ytklnopgnlnfbnaa", sum := "020e937d71e95356de35310f6717085b36252ebfd508587d8fc6ec5d043cd1f9", func := "padlock/padlocklaw5.ReplyTokens", spec := "replyTokens", unfollowed := true, recurses := true, apart := false }
def ReplyTokensSaid : Prop := replyTokensRow.holds Try.pinned (OpenSpec.ofChange replyTokensSpec)

/-- ITS FALSE NEIGHBOUR: 'it returns false'. Refute it at one input. -/
def replyTokensWrong : ChangeSpec := { name := "replyTokens", fn := fun _ => fun
  | [d1, d2] => { results := [.lit (.bool false)], args := [d1, d2] }
  | _ => none }
def ReplyTokensWrongFalsely : Prop := replyTokensRow.holds Try.pinned (OpenSpec.ofChange replyTokensWrong)

/- THE SECOND FORM. 'bulk': how many values and letters a reading holds, each counted each time it is reached (what is shared counts as often as it is met; a slice's spare places count too). A statement '..UptoSaid' is the law's where the arguments, and the package variables that the reading takes, are together of bulk at most 1048576: NARROWER than '..Said'. Prove '..Said' where nothing that the law and all that it calls make is longer than what came in: it says more and counts as full. Else prove '..UptoSaid'. A law counts once. -/
mutual
def uptoBulk {H : Type} : DataW H → Nat
  | .lit (.string bytes) => bytes.length + 1
  | .lit _ => 1
  | .nil => 1
  | .ptr d => uptoBulk d + 1
  | .slice elems spare => uptoBulkAll elems + uptoBulkAll spare + 1
  | .agg parts => uptoBulkAll parts + 1
  | .iface _ d => uptoBulk d + 1
  | .map entries => uptoBulkEntries entries + 1
  | .held _ => 1
def uptoBulkAll {H : Type} : List (DataW H) → Nat
  | [] => 0
  | d :: r => uptoBulk d + uptoBulkAll r
def uptoBulkEntries {H : Type} : List (Lit × DataW H) → Nat
  | [] => 0
  | x :: r => uptoBulkEntry x + uptoBulkEntries r
def uptoBulkEntry {H : Type} : Lit × DataW H → Nat
  | (.string bytes, d) => bytes.length + uptoBulk d + 1
  | (_, d) => uptoBulk d + 1
 end
def uptoSmall : (H : Type) → List (DataW H) → Bool := fun _ ds => decide (uptoBulkAll ds ≤ 1048576)
def OpenSpec.upto (s : _root_.Go.ChangeSpec) : _root_.Go.OpenSpec := { _root_.Go.OpenSpec.ofChange s with cond := some uptoSmall }

/-- 'padlocklaw5.ReplyAll', WHERE WHAT IT READS IS OF BULK AT MOST 1048576: true; the input reads as it did. -/
def replyAllUptoRow : OpenClaim := { program := "ytklnopgnlnfbnaa", sum := "020e937d71e95356de35310f6717085b36252ebfd508587d8fc6ec5d043cd1f9", func := "padlock/padlocklaw5.ReplyAll", spec := "replyAll", unfollowed := true, recurses := true, apart := false, narrowed := true }
def ReplyAllUptoSaid : Prop := replyAllUptoRow.holds Try.pinned (OpenSpec.upto replyAllSpec)

/-- 'padlocklaw5.ReplyAnswers', WHERE WHAT IT READS IS OF BULK AT MOST 1048576: true; the input reads as it did. -/
def replyAnswersUptoRow : OpenClaim := { program := "ytklnopgnlnfbnaa", sum := "020e937d71e95356de35310f6717085b36252ebfd508587d8fc6ec5d043cd1f9", func := "padlock/padlocklaw5.ReplyAnswers", spec := "replyAnswers", unfollowed := true, recurses := true, apart := false, narrowed := true }
def ReplyAnswersUptoSaid : Prop := replyAnswersUptoRow.holds Try.pinned (OpenSpec.upto replyAnswersSpec)

/-- 'padlocklaw5.ReplyBack', WHERE WHAT IT READS IS OF BULK AT MOST 1048576: true; the input reads as it did. -/
def replyBackUptoRow : OpenClaim := { program := "ytklnopgnlnfbnaa", sum := "020e937d71e95356de35310f6717085b36252ebfd508587d8fc6ec5d043cd1f9", func := "padlock/padlocklaw5.ReplyBack", spec := "replyBack", unfollowed := true, recurses := true, apart := false, narrowed := true }
def ReplyBackUptoSaid : Prop := replyBackUptoRow.holds Try.pinned (OpenSpec.upto replyBackSpec)

/-- 'padlocklaw5.ReplyRefuses', WHERE WHAT IT READS IS OF BULK AT MOST 1048576: true; the input reads as it did. -/
def replyRefusesUptoRow : OpenClaim := { program := "ytklnopgnlnfbnaa", sum := "020e937d71e95356de35310f6717085b36252ebfd508587d8fc6ec5d043cd1f9", func := "padlock/padlocklaw5.ReplyRefuses", spec := "replyRefuses", unfollowed := true, recurses := true, apart := false, narrowed := true }
def ReplyRefusesUptoSaid : Prop := replyRefusesUptoRow.holds Try.pinned (OpenSpec.upto replyRefusesSpec)

/-- 'padlocklaw5.ReplyTokens', WHERE WHAT IT READS IS OF BULK AT MOST 1048576: true; the input reads as it did. -/
def replyTokensUptoRow : OpenClaim := { program := "ytklnopgnlnfbnaa", sum := "020e937d71e95356de35310f6717085b36252ebfd508587d8fc6ec5d043cd1f9", func := "padlock/padlocklaw5.ReplyTokens", spec := "replyTokens", unfollowed := true, recurses := true, apart := false, narrowed := true }
def ReplyTokensUptoSaid : Prop := replyTokensUptoRow.holds Try.pinned (OpenSpec.upto replyTokensSpec)

end Rows
end Go.Proofs.Ytklnopgnlnfbnaa
