/-
  The document's Fold.
-/
import Derived.Test.YtnndanpahcdmaaaRSorted
import Derived.Test.YtnndanpahcdmaaaRBack
namespace Go.Proofs.Ytnndanpahcdmaaa
open Go.RowKit Go.Lib
theorem insN_len (n : Nod) : ∀ l : List Nod, (insN n l).length = l.length + 1
  | [] => rfl
  | x :: r => by
    unfold insN
    split
    · rw [List.length_cons, insN_len n r, List.length_cons]
    · rfl
theorem withN_len (l : List Nod) (n : Nod) : (withN l n).length ≤ l.length + 1 := by
  unfold withN
  rw [insN_len]
  have := without_len l n.id
  omega
theorem doN_len (l : List Nod) (o : Opn) : (doN l o).1.length ≤ l.length + 1 := by
  rcases doN_cases l o with h | ⟨_, _, n, _, _, h, _⟩
  · rw [h]; exact Nat.le_succ _
  · rw [h]; exact withN_len _ _
theorem doAll_take {s : List Opn} {k : Nat} {x : Opn} (h : s[k]? = some x) : doAll [] (s.take (k + 1)) = (doN (doAll [] (s.take k)) x).1 := by
  rw [List.take_add_one, h]
  exact doAll_snoc _ _ _
theorem doAll_len (s : List Opn) : (doAll [] s).length ≤ s.length := by
  refine list_snoc (P := fun s => (doAll [] s).length ≤ s.length) (Nat.le_refl _) (fun s x ih => ?_) s
  rw [doAll_snoc, List.length_append, List.length_singleton]
  have := doN_len (doAll [] s) x
  omega
def NodsPost (r : List Nod) (w : World) (e : Ending) (w' : World) : Prop := ∃ a c, e = .returned (.slice a r.length c) ∧ IsNd w' a c r ∧ Below w.heap.size w w'
end Go.Proofs.Ytnndanpahcdmaaa
