/-
  The landed package tree's contracts, gathered: Check, Find, Above, Do, Back, Fold.
-/
import Derived.Test.YtefbkhgnhcllbaaTFind
import Derived.Test.YtefbkhgnhcllbaaTClimb
import Derived.Test.YtefbkhgnhcllbaaTDoes
import Derived.Test.YtefbkhgnhcllbaaTBack
import Derived.Test.YtefbkhgnhcllbaaTFold
import Derived.Test.YtefbkhgnhcllbaaRFold
import Derived.Test.YtefbkhgnhcllbaaRSameN
namespace Go.Proofs.Ytefbkhgnhcllbaa
end Go.Proofs.Ytefbkhgnhcllbaa
