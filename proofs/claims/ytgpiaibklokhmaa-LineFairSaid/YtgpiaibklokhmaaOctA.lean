/- Contracts of package octet's small readers. -/
import Derived.Test.YtgpiaibklokhmaaBase
import Derived.Test.YtgpiaibklokhmaaProg
import Derived.Defers
import Derived.Recover
set_option linter.unusedVariables false
set_option linter.unusedSimpArgs false
namespace Go.Proofs.Ytgpiaibklokhmaa
open Go.RowKit




end Go.Proofs.Ytgpiaibklokhmaa
