/- Contracts: codeOf and the deferred closures of package octet. -/
import Derived.Test.YtgpiaibklokhmaaOctB
import Derived.Laws.Pointers
set_option linter.unusedVariables false
set_option linter.unusedSimpArgs false
namespace Go.Proofs.Ytgpiaibklokhmaa
open Go.RowKit











end Go.Proofs.Ytgpiaibklokhmaa
