import Derived.Test.YtamnjmlnodhhmaaAwake
import Derived.Test.YtamnjmlnodhhmaaOpen
namespace Go.Proofs.Ytamnjmlnodhhmaa
open Go.RowKit Go.Lib
/-- Block b holds the two numbers x, y, and is there. -/
def Has2 (w : World) (b : Nat) (x y : Value) : Prop := (w.cell? ⟨b, 0, none⟩ = some x ∧ w.cell? ⟨b, 1, none⟩ = some y) ∧ b < w.heap.size
theorem Has2.keep {W w1 : World} {b : Nat} {x y : Value} (h : Has2 W b x y) (hb : Below W.heap.size W w1) : Has2 w1 b x y := keep2 hb h.1
theorem Has2.keepa {W w1 : World} {o : Obj} {b : Nat} {x y : Value} (h : Has2 W b x y) (hb : Below (W.alloc o).heap.size (W.alloc o) w1) : Has2 w1 b x y := keep2a hb h.1
theorem Has2.alloc {W : World} {b : Nat} {x y : Value} (h : Has2 W b x y) (o : Obj) : Has2 (W.alloc o) b x y :=
  keep2 ((Below.refl _ _).alloc (Nat.le_refl _) o) h.1
theorem has2_new (w : World) (x y : Value) (t : TypeId) : Has2 (w.alloc (.cells #[x, y] t)) w.heap.size x y :=
  ⟨⟨by rw [World.cell?_alloc_at _ _ _ _ rfl]; rfl, by rw [World.cell?_alloc_at _ _ _ _ rfl]; rfl⟩, by simp⟩
theorem one_box {w w1 : World} {x y : Value} {t : TypeId} (hb : Below (w.alloc (.cells #[x, y] t)).heap.size (w.alloc (.cells #[x, y] t)) w1) :
    Below w.heap.size w w1 ∧ Has2 w1 w.heap.size x y :=
  ⟨step_a (Below.refl _ _) hb, (has2_new w x y t).keep hb⟩
theorem two_boxes {w w1 : World} {x y x' y' : Value} {t : TypeId}
    (hb : Below ((w.alloc (.cells #[x, y] t)).alloc (.cells #[x', y'] t)).heap.size ((w.alloc (.cells #[x, y] t)).alloc (.cells #[x', y'] t)) w1) :
    Below w.heap.size w w1 ∧ Has2 w1 w.heap.size x y ∧ Has2 w1 (w.heap.size + 1) x' y' := by
  refine ⟨step_a ((Below.refl _ _).alloc (Nat.le_refl _) _) hb, ((has2_new w x y t).alloc _).keep hb, ?_⟩
  have := (has2_new (w.alloc (.cells #[x, y] t)) x' y' t).keep hb
  simpa only [World.size_alloc] using this
theorem three_boxes {w w1 : World} {x y x' y' x'' y'' : Value} {t : TypeId}
    (hb : Below (((w.alloc (.cells #[x, y] t)).alloc (.cells #[x', y'] t)).alloc (.cells #[x'', y''] t)).heap.size (((w.alloc (.cells #[x, y] t)).alloc (.cells #[x', y'] t)).alloc (.cells #[x'', y''] t)) w1) :
    Below w.heap.size w w1 ∧ Has2 w1 w.heap.size x y ∧ Has2 w1 (w.heap.size + 1) x' y' ∧ Has2 w1 (w.heap.size + 1 + 1) x'' y'' := by
  refine ⟨step_a (((Below.refl _ _).alloc (Nat.le_refl _) _).alloc (by simp) _) hb, (((has2_new w x y t).alloc _).alloc _).keep hb, ?_, ?_⟩
  · have := ((has2_new (w.alloc (.cells #[x, y] t)) x' y' t).alloc _).keep hb
    simpa only [World.size_alloc] using this
  · have := (has2_new ((w.alloc (.cells #[x, y] t)).alloc (.cells #[x', y'] t)) x'' y'' t).keep hb
    simpa only [World.size_alloc] using this
/-- The struct's equality, as the walk has it. -/
theorem pair_ne {c r d s : Int} (h : ¬ (c = d ∧ r = s)) : ((c == d) = true ∧ (r == s) = false) ∨ (c == d) = false := by
  by_cases e : c = d
  · exact .inl ⟨beq_iff_eq.2 e, beq_eq_false_iff_ne.2 fun e' => h ⟨e, e'⟩⟩
  · exact .inr (beq_eq_false_iff_ne.2 e)
end Go.Proofs.Ytamnjmlnodhhmaa
