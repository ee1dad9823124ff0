/- Contracts: which commands and requests may be. -/
import Derived.Test.YtgpiaibklokhmaaCmdA
set_option linter.unusedVariables false
set_option linter.unusedSimpArgs false
namespace Go.Proofs.Ytgpiaibklokhmaa
open Go.RowKit
namespace Cm

/-- A command, a request, as the machine holds it. -/
def cmdVal (c : CmdV) : Value := .agg #[.int .i64 c.kind, .int .i64 c.session, .string (bstr c.name)]
def reqVal (r : ReqV) : Value := .agg #[.int .i64 r.client, .int .i64 r.seq, .int .i64 r.cmd.kind, .int .i64 r.cmd.session, .string (bstr r.cmd.name)]

theorem bstr_empty (n : List UInt8) : (bstr n).toList.isEmpty = decide (n = []) := by
  rw [ByteArray.toList_eq, bstr_toList]
  cases n <;> rfl





end Cm
end Go.Proofs.Ytgpiaibklokhmaa
