/-
  The document's Back, and its lists of nodes, and numbers, that are the same.
-/
import Derived.Test.YtnndanpahcdmaaaRWith
import Derived.Test.YtnndanpahcdmaaaRDo
namespace Go.Proofs.Ytnndanpahcdmaaa
open Go.RowKit Go.Lib
def ListPost (r : List Nod) (w : World) (e : Ending) (w' : World) : Prop := ∃ a c, e = .returned (.slice a r.length c) ∧ IsNd w' a c r ∧ Below w.heap.size w w'
end Go.Proofs.Ytnndanpahcdmaaa
