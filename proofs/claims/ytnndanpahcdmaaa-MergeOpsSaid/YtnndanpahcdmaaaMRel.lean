/-
  What is made in a region that draws its order: nodes, operations, logs; and what asks them.
-/
import Derived.Test.YtnndanpahcdmaaaMLaw2
namespace Go.Proofs.Ytnndanpahcdmaaa
open Go.RowKit Go.Lib
def NdF (r : List Nod) (v : Value) (w : World) : Prop := ∃ a c, v = .slice a r.length c ∧ IsNd w a c r
theorem NdF.stable (r : List Nod) (v : Value) (w w' : World) (h : NdF r v w) (hb : Below w.heap.size w w') : NdF r v w' := by
  obtain ⟨a, c, e, h⟩ := h
  exact ⟨a, c, e, IsR.below h hb⟩
theorem nods_f {r : List Nod} {w w' : World} {e : Ending} (h : NodsPost r w e w') : ∃ v, e = .returned v ∧ NdF r v w' ∧ Below w.heap.size w w' := by
  obtain ⟨a, c, rfl, h, hb⟩ := h
  exact ⟨_, rfl, ⟨a, c, rfl, h⟩, hb⟩
set_option maxRecDepth 100000 in
theorem nsame_is {a b : Option Addr} {c d : Nat} {l m : List Nod} (e : l = m) (w : World) (ha : IsNd w a c l) (hb : IsNd w b d m) (hl : l.length ≤ 1000000) :
    Calls Try.prog 24 #[.slice a l.length c, .slice b m.length d] w fun e w' => e = .returned (.bool true) ∧ Below w.heap.size w w' := by
  have := rnsame_any a b c d l m w ha hb hl
  rw [show sameN l m = true from decide_eq_true e] at this
  exact this
set_option maxRecDepth 100000 in
theorem nsame_f {l m : List Nod} {v y : Value} {W : World} (h1 : NdF l v W) (h2 : NdF m y W) (e : l = m) (hl : l.length ≤ 1000000) :
    Calls Try.prog 24 #[v, y] W fun e w' => e = .returned (.bool true) ∧ Below W.heap.size W w' := by
  obtain ⟨a, c, rfl, ha⟩ := h1
  obtain ⟨b, d, rfl, hb⟩ := h2
  exact nsame_is e W ha hb hl
def OpF (r : List Opn) (v : Value) (w : World) : Prop := ∃ a c, v = .slice a r.length c ∧ IsOp w a c r
theorem OpF.stable (r : List Opn) (v : Value) (w w' : World) (h : OpF r v w) (hb : Below w.heap.size w w') : OpF r v w' := by
  obtain ⟨a, c, e, h⟩ := h
  exact ⟨a, c, e, IsR.below h hb⟩
theorem ops_f {r : List Opn} {w w' : World} {e : Ending} (h : OpsP r w e w') : ∃ v, e = .returned v ∧ OpF r v w' ∧ Below w.heap.size w w' := by
  obtain ⟨a, c, rfl, h, hb⟩ := h
  exact ⟨_, rfl, ⟨a, c, rfl, h⟩, hb⟩
set_option maxRecDepth 100000 in
theorem osame_f {l m : List Opn} {v y : Value} {W : World} (h1 : OpF l v W) (h2 : OpF m y W) (e : l = m) (hl : l.length ≤ 1000000) :
    Calls Try.prog 18 #[v, y] W fun e w' => e = .returned (.bool true) ∧ Below W.heap.size W w' := by
  subst e
  obtain ⟨a, c, rfl, ha⟩ := h1
  obtain ⟨b, d, rfl, hb⟩ := h2
  exact osame_yes a b c d l W ha hb hl
def LgF (s : List Opn) (v : Value) (w : World) : Prop := ∃ a n c b m d, v = LW a n c b m d ∧ LgAt w a n c b m d s
theorem LgF.stable (s : List Opn) (v : Value) (w w' : World) (h : LgF s v w) (hb : Below w.heap.size w w') : LgF s v w' := by
  obtain ⟨a, n, c, b, m, d, e, h⟩ := h
  exact ⟨a, n, c, b, m, d, e, h.below hb⟩
theorem lg_f {s : List Opn} {w w' : World} {e : Ending} (h : LgP s w e w') : ∃ v, e = .returned v ∧ LgF s v w' ∧ Below w.heap.size w w' := by
  obtain ⟨a, n, c, b, m, d, rfl, h, hb⟩ := h
  exact ⟨_, rfl, ⟨a, n, c, b, m, d, rfl, h⟩, hb⟩
theorem lgF_of {w : World} {a : Option Addr} {n c : Nat} {b : Option Addr} {m d : Nat} {s : List Opn} (h : LgAt w a n c b m d s) : LgF s (LW a n c b m d) w := ⟨a, n, c, b, m, d, rfl, h⟩
set_option maxRecDepth 100000 in
theorem lsame_f {s t : List Opn} {v y : Value} {W : World} (h1 : LgF s v W) (h2 : LgF t y W) (e : s = t) (hl : s.length ≤ 100000) :
    Calls Try.prog 15 #[v, y] W fun e w' => e = .returned (.bool true) ∧ Below W.heap.size W w' := by
  obtain ⟨a, n, c, b, m, d, rfl, h1⟩ := h1
  obtain ⟨a2, n2, c2, b2, m2, d2, rfl, h2⟩ := h2
  exact lsame_is e W h1 h2 hl
set_option maxRecDepth 100000 in
theorem of_f {s : List Opn} {v : Value} {W : World} (h : OpF s v W) (hl : s.length ≤ 200) (hs : ∀ x ∈ s, x.s.size ≤ 1000 ∧ x.d.size ≤ 1000) (hr : RgOs s) :
    Calls Try.prog 21 #[v] W fun e w' => ∃ v', e = .returned v' ∧ LgF (sortO s) v' w' ∧ Below W.heap.size W w' := by
  obtain ⟨a, c, rfl, hi⟩ := h
  exact (of_is W hi hl hs hr).mono fun e w' h => lg_f h
set_option maxRecDepth 100000 in
theorem ofew_own {l : List Opn} {n : Int} {b : Bool} {v : Value} {W : World} {B : Nat} (hb : fewOp l n = b) (h : OwnOp B l v W) (hl : l.length ≤ maxLen) :
    Calls Try.prog 10 #[v, .int .i64 n] W fun e w' => e = .returned (.bool b) ∧ Below W.heap.size W w' := by
  obtain ⟨a, c, rfl, hi⟩ := h.isR op_len
  exact (ofew_is hb W hi hl).mono fun e w' ⟨h1, h2⟩ => ⟨h1, by rw [h2]; exact Below.refl _ _⟩
theorem HasO.at {w : World} {b : Nat} {o : Opn} (h : HasO w b o) : AtOp w b 0 o := by
  obtain ⟨m0, m1, m2, m3, m4, m5, m6⟩ := h
  refine ⟨m0, ?_, ?_, ?_, ?_, ?_, ?_⟩ <;> (rw [Nat.zero_add]; assumption)
end Go.Proofs.Ytnndanpahcdmaaa
