/- Contracts of package octet's small readers. -/
import Derived.Test.YtkhcnhfdcbellaaBase
import Derived.Test.YtkhcnhfdcbellaaProg
import Derived.Defers
import Derived.Recover
set_option linter.unusedVariables false
set_option linter.unusedSimpArgs false
namespace Go.Proofs.Ytkhcnhfdcbellaa
open Go.RowKit




end Go.Proofs.Ytkhcnhfdcbellaa
