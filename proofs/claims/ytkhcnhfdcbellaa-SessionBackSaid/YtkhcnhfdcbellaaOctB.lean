/- Contracts of package octet's readers: readByte, readText, readEnd. -/
import Derived.Test.YtkhcnhfdcbellaaOctA
set_option linter.unusedVariables false
set_option linter.unusedSimpArgs false
namespace Go.Proofs.Ytkhcnhfdcbellaa
open Go.RowKit

















end Go.Proofs.Ytkhcnhfdcbellaa
