/- Contracts of the document's answers for layer 1. -/
import Derived.Test.YtgpiaibklokhmaaOctE
set_option linter.unusedVariables false
set_option linter.unusedSimpArgs false
namespace Go.Proofs.Ytgpiaibklokhmaa
open Go.RowKit
namespace Ref1






end Ref1
end Go.Proofs.Ytgpiaibklokhmaa
