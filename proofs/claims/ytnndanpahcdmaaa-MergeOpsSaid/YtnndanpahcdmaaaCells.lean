/-
  A block of the call's own whose cells are known, and may be written: a struct, or an array, that stands in memory.
-/
import Derived.Test.YtnndanpahcdmaaaLater
namespace Go.Proofs.Ytnndanpahcdmaaa
open Go.RowKit Go.Lib
/-- Block g holds these cells, and each may be written. -/
structure Cells (w : World) (g : Nat) (vs : List Value) : Prop where
  lt : g < w.heap.size
  cell : ∀ j v, vs[j]? = some v → w.cell? ⟨g, j, none⟩ = some v
  free : ∀ j, j < vs.length → w.frozen? ⟨g, j, none⟩ = false
theorem Cells.below {w w' : World} {g : Nat} {vs : List Value} (h : Cells w g vs) (hb : Below w.heap.size w w') : Cells w' g vs :=
  ⟨Nat.lt_of_lt_of_le h.lt hb.size, fun j v hj => by rw [hb.cell (p := ⟨g, j, none⟩) h.lt]; exact h.cell j v hj, fun j hj => by rw [old_mark hb g j h.lt]; exact h.free j hj⟩
theorem Cells.belowN {w w' : World} {B g : Nat} {vs : List Value} (h : Cells w g vs) (hg : g < B) (hb : Below B w w') : Cells w' g vs :=
  ⟨Nat.lt_of_lt_of_le h.lt hb.size, fun j v hj => by rw [hb.cell (p := ⟨g, j, none⟩) hg]; exact h.cell j v hj, fun j hj => by rw [hb.frozen (p := ⟨g, j, none⟩) hg]; exact h.free j hj⟩
theorem cells_new (w : World) (vs : List Value) (t : TypeId) : Cells (w.alloc (.cells vs.toArray t)) w.heap.size vs := by
  refine ⟨by simp, fun j v hj => ?_, fun j hj => ?_⟩
  · rw [World.cell?_alloc_at _ _ _ _ rfl, List.getElem?_toArray]; exact hj
  · have : (w.alloc (.cells vs.toArray t)).heap[w.heap.size]? = some (.cells vs.toArray t (0, 0)) := by
      show (w.heap.push _)[w.heap.size]? = _
      simp
    unfold World.frozen?
    rw [this]
    simp
theorem Cells.set {w : World} {g : Nat} {vs : List Value} (h : Cells w g vs) (i : Nat) (hi : i < vs.length) (v : Value) : Cells (w.setCell ⟨g, i, none⟩ v) g (vs.set i v) := by
  refine ⟨by simpa using h.lt, fun j u hj => ?_, fun j hj => ?_⟩
  · rw [List.getElem?_set] at hj
    by_cases e : i = j
    · subst e
      rw [if_pos rfl, if_pos hi] at hj
      cases hj
      exact World.cell?_setCell_same _ _ _ (h.cell i _ (List.getElem?_eq_getElem hi))
    · rw [if_neg e] at hj
      rw [World.cell?_setCell_other]
      · exact h.cell j u hj
      · intro e2; exact e (congrArg Addr.off e2)
  · rw [World.frozen?_setCell]
    exact h.free j (by simpa using hj)
theorem Cells.other {w : World} {g g' : Nat} {vs : List Value} (h : Cells w g vs) (hne : g' ≠ g) (i : Nat) (v : Value) : Cells (w.setCell ⟨g', i, none⟩ v) g vs := by
  refine ⟨by simpa using h.lt, fun j u hj => ?_, fun j hj => ?_⟩
  · rw [World.cell?_setCell_other]
    · exact h.cell j u hj
    · intro e2; exact hne (congrArg Addr.block e2)
  · rw [World.frozen?_setCell]
    exact h.free j hj
end Go.Proofs.Ytnndanpahcdmaaa
