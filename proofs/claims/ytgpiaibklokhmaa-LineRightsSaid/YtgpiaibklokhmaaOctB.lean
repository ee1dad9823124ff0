/- Contracts of package octet's readers: readByte, readText, readEnd. -/
import Derived.Test.YtgpiaibklokhmaaOctA
set_option linter.unusedVariables false
set_option linter.unusedSimpArgs false
namespace Go.Proofs.Ytgpiaibklokhmaa
open Go.RowKit

















end Go.Proofs.Ytgpiaibklokhmaa
