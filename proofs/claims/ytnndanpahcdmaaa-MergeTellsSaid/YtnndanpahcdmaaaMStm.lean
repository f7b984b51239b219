/-
  A stamp that came in.
-/
import Derived.Test.YtnndanpahcdmaaaTOpen
import Derived.ProofKit
import Derived.OpenShut
import Derived.Lib.SmallJoins
namespace Go.Proofs.Ytnndanpahcdmaaa
open Go.ChangeShapes Go.WideShapes Go.ChangeAt Go.RowKit
section
variable {H : Type} {enc : TypeId × Value → H} {W : World} {base : Nat} {v : Value} {d : DataW H} {p : List MemPlace}
set_option maxRecDepth 100000 in
theorem open_stamp (hv : Value.okWide Try.prog W .any base 24 v) (h : DataW.Trod enc Try.prog W 0 (fun _ => true) true 24 v d p) :
    ∃ c r : Int, v = .agg #[.int .i64 c, .int .i64 r] ∧ (I64 c ∧ I64 r) := by
  obtain ⟨v0, v1, y0, y1, n, rfl, _, _, h0, h1⟩ := Joins.open_agg2 Try.underlying24 (by kernel_rfl) (by kernel_rfl) hv h
  obtain ⟨c, e0, _, w0⟩ := DataW.trod_int Try.underlying3 h0
  obtain ⟨r, e1, _, w1⟩ := DataW.trod_int Try.underlying3 h1
  simp only [List.cons.injEq, and_true] at e0 e1
  subst e0 e1
  exact ⟨c, r, rfl, i64_wf w0, i64_wf w1⟩
end
end Go.Proofs.Ytnndanpahcdmaaa
