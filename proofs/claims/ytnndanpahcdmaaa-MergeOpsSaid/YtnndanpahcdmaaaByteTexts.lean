/-
  Slices of bytes that are made on the way, and the texts of them; the document's digits.
-/
import Derived.Test.YtnndanpahcdmaaaChecked
import Derived.Test.YtnndanpahcdmaaaRel
import Derived.Test.YtnndanpahcdmaaaDigits
import Derived.WalkKit
import Derived.WalkLawsBesides
import Derived.WalkMore
import Derived.Lib.Hide
import Derived.Laws.BytesString
import Derived.Laws.IdiomStrings
import Derived.LoopTactic
import Derived.Deep.DeepCutAuto
namespace Go.Proofs.Ytnndanpahcdmaaa
open Go.RowKit Go.Lib
theorem step_a {w W w1 : World} {o : Obj} (b : Below w.heap.size w W) (hb : Below (W.alloc o).heap.size (W.alloc o) w1) : Below w.heap.size w w1 :=
  (b.alloc b.size o).trans (hb.mono (by have := b.size; simp; omega))
theorem step_b {w W w1 : World} (b : Below w.heap.size w W) (hb : Below W.heap.size W w1) : Below w.heap.size w w1 := b.trans (hb.mono b.size)
def ofL (l : List UInt8) : ByteArray := ⟨l.toArray⟩
theorem ofL_size (l : List UInt8) : (ofL l).size = l.length := rfl
theorem ofL_append (a b : List UInt8) : ofL a ++ ofL b = ofL (a ++ b) := by
  apply ByteArray.ext; apply Array.ext'; simp [ofL]
theorem ofL_data (s : ByteArray) : ofL s.data.toList = s := by
  apply ByteArray.ext; apply Array.ext'; simp [ofL]
theorem data_ofL (l : List UInt8) : (ofL l).data.toList = l := by simp [ofL]
/-- A slice of these bytes. -/
def IsBy (l : List UInt8) (v : Value) (w : World) : Prop :=
  ∃ g c, v = .slice (some ⟨g, 0, none⟩) l.length c ∧ g < w.heap.size ∧ ∀ j y, l[j]? = some y → w.cell? ⟨g, j, none⟩ = some (.int .u8 ((y.toNat : Nat) : Int))
theorem IsBy.stable (l : List UInt8) (v : Value) (w w' : World) (h : IsBy l v w) (hb : Below w.heap.size w w') : IsBy l v w' := by
  obtain ⟨g, c, e, hg, hc⟩ := h
  exact ⟨g, c, e, Nat.lt_of_lt_of_le hg hb.size, fun j y hj => by rw [hb.cell (p := ⟨g, j, none⟩) hg]; exact hc j y hj⟩
theorem isBy_new1 (w : World) (x : UInt8) (t : TypeId) : IsBy [x] (.slice (some ⟨w.heap.size, 0, none⟩) 1 1) (w.alloc (.cells #[.int .u8 ((x.toNat : Nat) : Int)] t)) :=
  ⟨_, _, rfl, by simp, fun j y hj => by
    cases j with
    | zero => simp at hj; subst hj; rw [World.cell?_alloc_at _ _ _ _ rfl]; rfl
    | succ j => simp at hj⟩
theorem high_size (n : Nat) (h : n < 9223372036854775808) : (ofL (Vlq.high n)).size ≤ 9 := by
  rw [ofL_size]
  exact Vlq.high_len n 9 (by have : (128 : Nat) ^ 9 = 9223372036854775808 := by decide
                             omega)
end Go.Proofs.Ytnndanpahcdmaaa
