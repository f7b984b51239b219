/-
  Rows of operations of the call's own; appended to, in a region that draws its order too.
-/
import Derived.Test.YtjhllkjcaodcgaaLin
import Derived.Test.YtjhllkjcaodcgaaOOpen
namespace Go.Proofs.Ytjhllkjcaodcgaa
open Go.RowKit Go.Lib
/-- A row of operations of the call's own. -/
def OwnO (B : Nat) (l : List Opn) (v : Value) (w : World) : Prop := OwnC w B 7 v l.length (opCells l)
theorem OwnO.stay {W : World} {B : Nat} {l : List Opn} (v : Value) (w w' : World) (h : OwnO B l v w) (hk : Kept W v w w') : OwnO B l v w' := OwnC.stay h hk
theorem OwnO.below {B : Nat} {l : List Opn} {v : Value} {w w' : World} (h : OwnO B l v w) (hb : Below w.heap.size w w') : OwnO B l v w' := OwnC.below h hb
theorem OwnO.isO {B : Nat} {l : List Opn} {v : Value} {w : World} (h : OwnO B l v w) : ∃ a c, v = .slice a l.length c ∧ IsO w a c l ∧ (a = none → c = 0) := by
  obtain ⟨hn, ⟨rfl, h0⟩ | ⟨g, c, rfl, h1, h2, h3, h4, h5, h6⟩⟩ := h
  · obtain rfl : l = [] := List.eq_nil_of_length_eq_zero h0
    exact ⟨none, 0, rfl, ⟨Nat.le_refl _, fun h => absurd rfl h⟩, fun _ => rfl⟩
  · refine ⟨_, c, rfl, ⟨h3, fun _ => ⟨g, 0, rfl, h2, fun j x hj => ?_⟩⟩, fun e => by cases e⟩
    have at_ : ∀ i u, i < 7 → (cellsO x)[i]? = some u → w.cell? ⟨g, 0 + j * 7 + i, none⟩ = some u := fun i u hi hu => by
      have h7 := flat_get cellsO 7 (fun _ => rfl) l j x hj i hi
      have h8 := h5 _ u (h7.trans hu)
      rw [show 0 + j * 7 + i = j * 7 + i by omega]
      exact h8
    exact ⟨at_ 0 _ (by omega) rfl, at_ 1 _ (by omega) rfl, at_ 2 _ (by omega) rfl, at_ 3 _ (by omega) rfl, at_ 4 _ (by omega) rfl, at_ 5 _ (by omega) rfl, at_ 6 _ (by omega) rfl⟩
theorem opCells_at7 : ∀ (l : List Opn) (j : Nat) (u : Value), (opCells l)[j]? = some u → ∃ i x k, l[i]? = some x ∧ k < 7 ∧ j = i * 7 + k ∧ (cellsO x)[k]? = some u
  | [], j, u, h => by simp [opCells] at h
  | s :: l, j, u, h => by
    have e : opCells (s :: l) = cellsO s ++ opCells l := by simp [opCells]
    have hl : (cellsO s).length = 7 := rfl
    rw [e] at h
    by_cases hj : j < 7
    · rw [List.getElem?_append_left (by omega)] at h
      exact ⟨0, s, j, rfl, hj, by omega, h⟩
    · rw [List.getElem?_append_right (by omega), hl] at h
      obtain ⟨i, x, k, h1, h2, h3, h4⟩ := opCells_at7 l (j - 7) u h
      exact ⟨i + 1, x, k, h1, h2, by omega, h4⟩
theorem opCells_one7 (l : List Opn) : ∀ u ∈ opCells l, u.oneCell' = true := by
  intro u hu
  simp only [opCells, List.mem_flatMap, cellsO, List.mem_cons, List.not_mem_nil, or_false] at hu
  obtain ⟨s, _, rfl | rfl | rfl | rfl | rfl | rfl | rfl⟩ := hu <;> rfl
/-- Operations that are read, as what is appended. -/
theorem src_ops {w : World} {a : Option Addr} {c : Nat} {l : List Opn} (h : IsO w a c l) (hn : a = none → c = 0) : Src Try.prog 7 26 (.slice a l.length c) l.length (opCells l) w := by
  cases a with
  | none =>
    obtain rfl := hn rfl
    obtain rfl : l = [] := List.eq_nil_of_length_eq_zero (by have := h.1; omega)
    exact Src.ofNil w Try.underlying26 0
  | some ad =>
    refine Src.ofSlice w Try.underlying26 ad l.length c (opCells l) (opCells_len l) (fun j u hu => ?_) (opCells_one7 l)
    obtain ⟨k, t, q, hk, hq, hj, hc⟩ := opCells_at7 l j u hu
    have hne : l ≠ [] := by intro e; subst e; simp at hk
    obtain ⟨b, off, e, _, hcell⟩ := h.2 hne
    simp only [Option.some.injEq] at e
    subst e
    obtain ⟨k0, k1, k2, k3, k4, k5, k6⟩ := hcell k t hk
    rw [add_none, hj, ← Nat.add_assoc]
    match q, hq, hc with
    | 0, _, hc => exact k0.trans hc
    | 1, _, hc => exact k1.trans hc
    | 2, _, hc => exact k2.trans hc
    | 3, _, hc => exact k3.trans hc
    | 4, _, hc => exact k4.trans hc
    | 5, _, hc => exact k5.trans hc
    | 6, _, hc => exact k6.trans hc
/-- append(v, x...), v a row of operations of the call's own. -/
theorem run_append_ops (w : World) {B : Nat} (ty : TypeId) {v : Value} {l m : List Opn} (h : OwnO B l v w) (a : Option Addr) (c : Nat) (hm : IsO w a c m) (hn : a = none → c = 0) (h63 : (l.length + m.length) * 72 ≤ 140737488355328) (hB : B ≤ w.heap.size) :
    ∃ v' w', (Builtin.append_ #[26, 26] ty #[v, .slice a m.length c]).run Try.prog w = .ok v' w' ∧ OwnO B (l ++ m) v' w' ∧ w.grownBy w' v.ownBlock ∧ ∀ g, v'.ownBlock = some g → (w.heap.size ≤ g ∨ v.ownBlock = some g) ∧ g < w'.heap.size := by
  obtain ⟨i, hi, hz, hsz, hby⟩ := info_parts infoO
  obtain ⟨v', w', h1, h2, h3, h4⟩ := run_append_ownG (P := Try.prog) w 26 26 ty 25 i _ 72 Try.underlying26 hi hz hsz hby rfl h _ m.length (opCells m) (src_ops hm hn) (by unfold maxLen; omega) (by omega) hB
  exact ⟨v', w', h1, by unfold OwnO; rw [opCells_append, List.length_append]; exact h2, h3, h4⟩
theorem wpList_append_opsC {w : World} {ops : Array Oper} {rest : List Oper} {o : Oper} {a : Act} {Q : Exit → Act → World → Prop} (hgd : o.guard = none) (s x : Operand)
    (ho : o.op = .call { callee := .builtin .append, args := #[s, x], argTypes := #[26, 26] })
    (B : Nat) (v : Value) (l m : List Opn) (hs : a.eval s = v) (hown : OwnO B l v w) (A : Option Addr) (c : Nat) (hx : a.eval x = .slice A m.length c) (hm : IsO w A c m) (hn : A = none → c = 0)
    (h63 : (l.length + m.length) * 72 ≤ 140737488355328) (hB : B ≤ w.heap.size)
    (h : ∀ v' w', OwnO B (l ++ m) v' w' → Below B w w' → wpList Try.prog ops Q rest (a.put o.dst v') w') : wpList Try.prog ops Q (o :: rest) a w := by
  refine wpList_plain hgd fun K hK' => ?_
  obtain ⟨v', w', hrun, h1, h2, _⟩ := run_append_ops w o.type hown A c hm hn h63 hB
  unfold Oper.wp
  simp [execOp, ho, resolve, invoke, builtin, hs, hx, hrun, Result.andThen]
  exact hK' _ _ (h v' w' h1 (below_of_grown h2 hB fun g hg => (hown.lt g hg).1))
/-- []api.Op{} -/
theorem ownO_empty (w : World) (B : Nat) (hB : B ≤ w.heap.size) : OwnO B [] (.slice (some ⟨w.heap.size, 0, none⟩) 0 0) (w.alloc (.cells #[] 25)) :=
  ⟨rfl, .inr ⟨_, _, rfl, hB, by simp, Nat.le_refl _, Nat.zero_le _, fun j u hj => by simp [opCells] at hj, fun j hj => by omega⟩⟩
/-- []api.Op{o, ..} -/
theorem ownO_made (w : World) (B : Nat) (hB : B ≤ w.heap.size) (l : List Opn) (hl : l.length ≤ 1000) (cs : Array Value) (hcs : cs.toList = opCells l) : OwnO B l (.slice (some ⟨w.heap.size, 0, none⟩) l.length l.length) (w.alloc (.cells cs 25)) := by
  have hlen : cs.size = l.length * 7 := by rw [← Array.length_toList, hcs, opCells_len]
  refine ⟨opCells_len l, .inr ⟨_, _, rfl, hB, by simp, Nat.le_refl _, by unfold maxLen; omega, fun j u hj => ?_, fun j hj => ?_⟩⟩
  · rw [World.cell?_alloc_at _ _ _ _ rfl, ← Array.getElem?_toList, hcs]; exact hj
  · rw [World.cell?_alloc_at _ _ _ _ rfl, World.frozen?_alloc_at _ _ _ _ rfl]
    exact ⟨by rw [Array.getElem?_eq_getElem (by omega)]; rfl, rfl⟩
end Go.Proofs.Ytjhllkjcaodcgaa
