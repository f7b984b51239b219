/-
  A REGION THAT DRAWS ITS ORDER, WHOSE CALLEES MAKE MEMORY BUT CHANGE NONE THAT WAS THERE: one walk of the lexical order serves every order (the library's wp_region_quiet at the class of all worlds that are 'Below' the first one).
-/
import Derived.WalkKit
import Derived.Lib.Hide
import Derived.LoopTactic
import Derived.Below
import Derived.Deep.QuietTactic
import Derived.BigQuiet
namespace Go.Proofs.Ytnndanpahcdmaaa
open Go.RowKit Go.Lib
/-- A world that has all of W's memory as it was. -/
structure Later (W : World) where
  w : World
  below : Below W.heap.size W w
theorem Later.start (W : World) : Nonempty (Later W) := ⟨⟨W, Below.refl _ _⟩⟩
instance (W : World) : Nonempty (Later W) := Later.start W
theorem later_out {W w : World} (h : ∃ n : Later W, w = n.w) : Below W.heap.size W w := by
  obtain ⟨n, rfl⟩ := h; exact n.below
theorem wp_region_later {P : Program} {id : Nat} {Q : Exit → Act → World → Prop} {a : Act} {W : World} {l : List Oper} (hm : P.follows .mixedOrders = true) (hB : Region.lexB .any l.toArray = true)
    (h : (∀ (n : Later W) b o, b < W.heap.size → n.w.cell? ⟨b, o, none⟩ = W.cell? ⟨b, o, none⟩) →
      wpQuiet P l.toArray (fun w' => ∃ n : Later W, w' = n.w) (fun a' => ∀ w', (∃ n : Later W, w' = n.w) → Q .normal a' w') l a) : (Code.region id l.toArray true).wp P Q a W :=
  wp_region_quiet (C := fun w' => ∃ n : Later W, w' = n.w) hm hB ⟨⟨W.drew, (Below.refl _ _).drew⟩, rfl⟩ (by simpa using h fun n b o hb => n.below.cell (p := ⟨b, o, none⟩) hb)
/-- A callee's contract, met in a later world. -/
theorem later_calls {P : Program} {f : FuncId} {args : Array Value} {W : World} {n : Later W} {v : Value}
    (h : Calls P f args n.w fun e w' => e = .returned v ∧ Below n.w.heap.size n.w w') : Calls P f args n.w fun e w'' => e = .returned v ∧ ∃ m : Later W, w'' = m.w :=
  h.mono fun _ w'' ⟨he, hb⟩ => ⟨he, ⟨w'', n.below.trans (hb.mono n.below.size)⟩, rfl⟩
/-- What was laid before a call is read behind it as it was. -/
theorem old_cell {W w1 : World} (hb : Below W.heap.size W w1) (b o : Nat) (hlt : b < W.heap.size) : w1.cell? ⟨b, o, none⟩ = W.cell? ⟨b, o, none⟩ :=
  Later.below ⟨w1, hb⟩ |>.cell hlt
/-- .. and may be written just where it might be. -/
theorem old_mark {W w1 : World} (hb : Below W.heap.size W w1) (b o : Nat) (hlt : b < W.heap.size) : w1.frozen? ⟨b, o, none⟩ = W.frozen? ⟨b, o, none⟩ :=
  Later.below ⟨w1, hb⟩ |>.frozen hlt
end Go.Proofs.Ytnndanpahcdmaaa
