/- Arguments that are commands and requests, opened. -/
import Derived.Test.YtklnopgnlnfbnaaCmdB
import Derived.ProofKit
import Derived.OpenShut
import Derived.Deep.Strs
import Derived.Deep.Slices
set_option linter.unusedVariables false
set_option linter.unusedSimpArgs false
namespace Go.Proofs.Ytklnopgnlnfbnaa
open Go.RowKit Go.ChangeShapes Go.WideShapes Go.Deep
namespace Cm
section
variable {H : Type} {enc : TypeId × Value → H} {W : World} {base : Nat} {sp : Nat → Bool} {held : Bool}




end
end Cm
end Go.Proofs.Ytklnopgnlnfbnaa
