/-
  All and Add, that say where the rows of their answers lie; an append at a step of a region, whatever guards it.
-/
import Derived.Test.YtnndanpahcdmaaaPkO
namespace Go.Proofs.Ytnndanpahcdmaaa
open Go.RowKit Go.Lib
def LgEF (r : List Opn × Int) (w : World) (e : Ending) (w' : World) : Prop := ∃ a n c b m d, e = .returned (.tuple #[LW a n c b m d, .int .i64 r.2]) ∧ LgAt w' a n c b m d r.1 ∧ Fresh w.heap.size a ∧ Fresh w.heap.size b ∧ Below w.heap.size w w'
set_option maxRecDepth 100000 in
theorem all_isF {a : Option Addr} {n c : Nat} {b : Option Addr} {m d : Nat} {s : List Opn} {la : Option Addr} {lc : Nat} {l : List Opn} (w : World) (h : LgAt w a n c b m d s) (hs : OkS s) (hl : IsOp w la lc l) (hll : l.length ≤ 1000000) (hsm : ∀ x ∈ l, x.s.size ≤ 1000 ∧ x.d.size ≤ 1000) (hr : RgOs l) :
    Calls Try.prog 11 #[LW a n c b m d, .slice la l.length lc] w (LgEF ((allL s l).1, (allL s l).2) w) := by
  obtain ⟨hi, rfl, rfl⟩ := h
  refine (mall_any a c b d s la lc l w hi hs hl hll hsm hr).mono ?_
  rintro e w' ⟨x, rfl, hx, hb⟩
  obtain ⟨a, c, b, d, rfl, hi, f1, f2⟩ := hx.fresh
  exact ⟨a, _, c, b, _, d, rfl, lgAt_of hi, f1, f2, hb⟩
set_option maxRecDepth 100000 in
theorem add_isF {a : Option Addr} {n c : Nat} {b : Option Addr} {m d : Nat} {s : List Opn} {o : Opn} (w : World) (h : LgAt w a n c b m d s) (hs : OkS s) (ho : o.s.size ≤ 1000 ∧ o.d.size ≤ 1000) (hr : RgO o) :
    Calls Try.prog 13 #[LW a n c b m d, OV o] w (LgEF (addL s o) w) := by
  obtain ⟨hi, rfl, rfl⟩ := h
  refine (madd_any a c b d s o w hi hs ho hr).mono ?_
  rintro e w' ⟨x, rfl, hx, hb⟩
  obtain ⟨a, c, b, d, rfl, hi, f1, f2⟩ := hx.fresh
  exact ⟨a, _, c, b, _, d, rfl, lgAt_of hi, f1, f2, hb⟩
theorem LgAt.store {w : World} {a : Option Addr} {n c : Nat} {b : Option Addr} {m d : Nat} {s : List Opn} (h : LgAt w a n c b m d s) (gn : Nat) (x y : Value) (h1 : ∀ q o, a = some ⟨q, o, none⟩ → q ≠ gn) (h2 : ∀ q o, b = some ⟨q, o, none⟩ → q ≠ gn) : LgAt ((w.setCell ⟨gn, 0, none⟩ x).setCell ⟨gn, 1, none⟩ y) a n c b m d s :=
  ⟨h.1.store gn x y (fun q o e _ => h1 q o e) (fun q o e _ => h2 q o e), h.2⟩
theorem fresh_ne {B gn : Nat} {a : Option Addr} (h : Fresh B a) (hg : gn < B) : ∀ q o, a = some ⟨q, o, none⟩ → q ≠ gn := fun q o e => by have := h q o e; omega
/-- append, at a step of a region that draws its order, that is wanted. -/
theorem step_append_recW {α : Type} {P : Program} (f : α → List Value) {k : Nat} {w : World} {ops : Array Oper} {o : Oper} {a : Act} {K : Act → World → Prop} {Q : Exit → Act → World → Prop} {E : Prop} (hw : Region.wanted o (yielded ops a.tmps) = true) (s y : Operand) (t : TypeId)
    (ho : o.op = .call { callee := .builtin .append, args := #[s, y], argTypes := #[t, t] })
    (B : Nat) (e : TypeId) (i : TypeInfo) (z : Value) (bytes : Nat) (ht : P.underlying t = some (.slice e)) (hi : P.info? e = some i) (hz : i.zero = some z) (hsize : i.size = k) (hby : i.bytes = bytes) (hzs : z.cells.size = k)
    (v : Value) (l m : List α) (hv : a.eval s = v) (h : OwnR f k B l v w) (x : Value) (hx : a.eval y = x) (hs : Src P k t x m.length (cellsR f m) w) (h63 : l.length + m.length ≤ maxLen) (hbytes : (l.length + m.length) * bytes ≤ 140737488355328) (hB : B ≤ w.heap.size)
    (hK : ∀ v' w', OwnR f k B (l ++ m) v' w' → Below B w w' → K (a.put o.dst v') w') :
    if Region.wanted o (yielded ops a.tmps) = true then Oper.wp P o a w K Q else E := by
  rw [if_pos hw]
  obtain ⟨v', w', hrun, h1, h2, h3⟩ := run_append_rec (P := P) f w t o.type e i z bytes ht hi hz hsize hby hzs h x hs h63 hbytes hB
  unfold Oper.wp
  simp [execOp, ho, resolve, invoke, builtin, hv, hx, hrun, Result.andThen]
  exact hK _ _ h1 (below_of_grown h2 hB fun g hg => (h.lt g hg).1)
end Go.Proofs.Ytnndanpahcdmaaa
