/-
  The contracts of package op: Check, Less, Put, Take, Write, Read (OChk, OPut, OTk, OWrite, ORead), and what they ask.
-/
import Derived.Test.YtjhllkjcaodcgaaORead
import Derived.Test.YtjhllkjcaodcgaaOWrite
namespace Go.Proofs.Ytjhllkjcaodcgaa
open Go.RowKit Go.Lib
/-- An operation whose Node, and Parent, are numbers that an int may be. -/
def Rng (o : Opn) : Prop := (-9223372036854775808 ≤ o.n ∧ o.n ≤ 9223372036854775807) ∧ (-9223372036854775808 ≤ o.p ∧ o.p ≤ 9223372036854775807)
theorem all_rng {l : List Opn} (h : allO l = true) : ∀ o ∈ l, Rng o := fun _ ho => may_range (List.all_eq_true.1 h _ ho)
end Go.Proofs.Ytjhllkjcaodcgaa
