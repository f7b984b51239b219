/-
  The landed package tree's contracts, gathered: Check, Find, Above, Do, Back, Fold.
-/
import Derived.Test.YtnndanpahcdmaaaTFind
import Derived.Test.YtnndanpahcdmaaaTClimb
import Derived.Test.YtnndanpahcdmaaaTDoes
import Derived.Test.YtnndanpahcdmaaaTBack
import Derived.Test.YtnndanpahcdmaaaTFold
import Derived.Test.YtnndanpahcdmaaaRFold
import Derived.Test.YtnndanpahcdmaaaRSameN
namespace Go.Proofs.Ytnndanpahcdmaaa
end Go.Proofs.Ytnndanpahcdmaaa
