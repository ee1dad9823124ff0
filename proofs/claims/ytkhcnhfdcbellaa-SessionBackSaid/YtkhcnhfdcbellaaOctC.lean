/- Contracts: codeOf and the deferred closures of package octet. -/
import Derived.Test.YtkhcnhfdcbellaaOctB
import Derived.Laws.Pointers
set_option linter.unusedVariables false
set_option linter.unusedSimpArgs false
namespace Go.Proofs.Ytkhcnhfdcbellaa
open Go.RowKit











end Go.Proofs.Ytkhcnhfdcbellaa
