/-
  NO PROGRAM: a row of the call's own, told by its cells, whatever its marks (so what comes of []byte(s), too); appended to, out of whatever source.
-/
import Derived.Deep.Upon
import Derived.Below
import Derived.WalkKit
import Derived.Laws.IdiomStrings
namespace Go.Proofs.Ytnndanpahcdmaaa
open Go.RowKit
/-- v is a slice of n elements of so many cells each, xs are these; its row, if there is one, is block base or a later one, and may be written in whole. -/
def OwnC (w : World) (base size : Nat) (v : Value) (n : Nat) (xs : List Value) : Prop :=
  xs.length = n * size ∧ ((v = .slice none 0 0 ∧ n = 0) ∨ ∃ g c, v = .slice (some ⟨g, 0, none⟩) n c ∧ base ≤ g ∧ g < w.heap.size ∧ n ≤ c ∧ c ≤ maxLen ∧
    (∀ j u, xs[j]? = some u → w.cell? ⟨g, j, none⟩ = some u) ∧ ∀ j, j < c * size → (w.cell? ⟨g, j, none⟩).isSome = true ∧ w.frozen? ⟨g, j, none⟩ = false)
theorem ownC_nil (w : World) (base size : Nat) : OwnC w base size (.slice none 0 0) 0 [] := ⟨by simp, .inl ⟨rfl, rfl⟩⟩
theorem OwnC.below {w w' : World} {base size n : Nat} {v : Value} {xs : List Value} (h : OwnC w base size v n xs) (hb : Below w.heap.size w w') : OwnC w' base size v n xs := by
  obtain ⟨hl, h | ⟨g, c, e, h1, h2, h3, h4, h5, h6⟩⟩ := h
  · exact ⟨hl, .inl h⟩
  · exact ⟨hl, .inr ⟨g, c, e, h1, Nat.lt_of_lt_of_le h2 hb.size, h3, h4, fun j u hj => by rw [hb.cell (p := ⟨g, j, none⟩) h2]; exact h5 j u hj,
      fun j hj => by rw [hb.cell (p := ⟨g, j, none⟩) h2, hb.frozen (p := ⟨g, j, none⟩) h2]; exact h6 j hj⟩⟩
theorem OwnC.mono {w : World} {base base' size n : Nat} {v : Value} {xs : List Value} (h : OwnC w base size v n xs) (hb : base' ≤ base) : OwnC w base' size v n xs := by
  obtain ⟨hl, h | ⟨g, c, e, h1, h2⟩⟩ := h
  · exact ⟨hl, .inl h⟩
  · exact ⟨hl, .inr ⟨g, c, e, Nat.le_trans hb h1, h2⟩⟩
theorem OwnC.shape {w : World} {base size n : Nat} {v : Value} {xs : List Value} (h : OwnC w base size v n xs) : ∃ a c, v = .slice a n c := by
  obtain ⟨hl, ⟨rfl, rfl⟩ | ⟨g, c, e, _⟩⟩ := h
  · exact ⟨_, _, rfl⟩
  · exact ⟨_, _, e⟩
/-- What a row hangs on: its own block alone. -/
theorem OwnC.own {w w' : World} {base size n : Nat} {v : Value} {xs : List Value} (h : OwnC w base size v n xs) (hs : w.heap.size ≤ w'.heap.size) (hb : ∀ g, v.ownBlock = some g → w'.heap[g]? = w.heap[g]?) : OwnC w' base size v n xs := by
  obtain ⟨hl, h | ⟨g, c, rfl, h1, h2, h3, h4, h5, h6⟩⟩ := h
  · exact ⟨hl, .inl h⟩
  · have hg := hb g rfl
    exact ⟨hl, .inr ⟨g, c, rfl, h1, Nat.lt_of_lt_of_le h2 hs, h3, h4, fun j u hj => by rw [World.cell?_of_block (w := w) (a := ⟨g, j, none⟩) hg]; exact h5 j u hj,
      fun j hj => by rw [World.cell?_of_block (w := w) (a := ⟨g, j, none⟩) hg, World.frozen?_of_block (w := w) (a := ⟨g, j, none⟩) hg]; exact h6 j hj⟩⟩
theorem OwnC.lt {w : World} {base size n : Nat} {v : Value} {xs : List Value} (h : OwnC w base size v n xs) : ∀ g, v.ownBlock = some g → base ≤ g ∧ g < w.heap.size := fun g hg => by
  obtain ⟨hl, ⟨rfl, _⟩ | ⟨g', c, rfl, h1, h2, _⟩⟩ := h
  · simp [Value.ownBlock] at hg
  · simp [Value.ownBlock] at hg
    subst hg
    exact ⟨h1, h2⟩
theorem OwnC.shrink {w : World} {base size n : Nat} {v : Value} {xs : List Value} (h : OwnC w base size v n xs) {base' : Nat} (hb : ∀ g, v.ownBlock = some g → base' ≤ g) : OwnC w base' size v n xs := by
  obtain ⟨hl, h | ⟨g, c, rfl, h1, h2⟩⟩ := h
  · exact ⟨hl, .inl h⟩
  · exact ⟨hl, .inr ⟨g, c, rfl, hb g rfl, h2⟩⟩
theorem below_setCells {B : Nat} (g : Nat) (hg : B ≤ g) : ∀ (vs : List Value) (o : Nat) (w w0 : World), Below B w0 w → Below B w0 (w.setCells g o vs)
  | [], _, _, _, h => h
  | v :: r, o, _, w0, h => below_setCells g hg r (o + 1) _ w0 (h.setCell (p := ⟨g, o, none⟩) hg v)
theorem grownBy_drew_alloc (w : World) (o : Obj) (r : Option Nat) : w.grownBy (w.drew.alloc o) r :=
  ⟨rfl, rfl, rfl, by have := (World.grownBy_alloc w.drew o r).size; exact this, fun k hk hne => (World.grownBy_alloc w.drew o r).block k hk hne⟩
theorem below_of_grown {w w' : World} {base : Nat} {row : Option Nat} (hg : w.grownBy w' row) (hbase : base ≤ w.heap.size) (hr : ∀ g, row = some g → base ≤ g) : Below base w w' :=
  ⟨hg.os, hg.tape, hg.output, hg.size, fun k hk => hg.block k (Nat.lt_of_lt_of_le hk hbase) (fun e => by have := hr k e.symm; omega)⟩
section
variable {P : Program}
theorem run_append_ownG (w : World) {base size : Nat} (t tx ty e : TypeId) (i : TypeInfo) (z : Value) (bytes : Nat) (ht : P.underlying t = some (.slice e)) (hi : P.info? e = some i) (hz : i.zero = some z) (hsize : i.size = size) (hby : i.bytes = bytes) (hzs : z.cells.size = size)
    {v : Value} {n : Nat} {xs : List Value} (h : OwnC w base size v n xs) (x : Value) (m : Nat) (news : List Value) (hs : Src P size tx x m news w) (h63 : n + m ≤ maxLen) (hbytes : (n + m) * bytes ≤ 140737488355328) (hbase : base ≤ w.heap.size) :
    ∃ v' w', (Builtin.append_ #[t, tx] ty #[v, x]).run P w = .ok v' w' ∧ OwnC w' base size v' (n + m) (xs ++ news) ∧ w.grownBy w' v.ownBlock ∧ ∀ g, v'.ownBlock = some g → (w.heap.size ≤ g ∨ v.ownBlock = some g) ∧ g < w'.heap.size := by
  subst hsize
  subst hby
  obtain ⟨hl, hv⟩ := h
  have hnl := hs.newsLen
  have hsmall : n + m ≤ 9223372036854775807 := by simp only [maxLen] at h63; omega
  have hxl : (xs ++ news).length = (n + m) * i.size := by rw [List.length_append, hl, hnl, Nat.add_mul]
  have grow : ∀ (a : Option Addr) (c : Nat), v = .slice a n c → c < n + m → (Builtin.firstCells i.size n (.slice a n c)).run P w.drew = .ok xs.toArray w.drew →
      ∃ v' w', (Builtin.append_ #[t, tx] ty #[v, x]).run P w = .ok v' w' ∧ OwnC w' base i.size v' (n + m) (xs ++ news) ∧ w.grownBy w' v.ownBlock ∧ ∀ g, v'.ownBlock = some g → (w.heap.size ≤ g ∨ v.ownBlock = some g) ∧ g < w'.heap.size := by
    rintro a c rfl hc hold
    have hrun := run_append_grow_src (P := P) w t tx ty e i z ht hi hz a n c xs hold x m news hs hc (by omega) (growslice_fits hc hbytes)
    have hge := grownCap_ge w (n + m) c e
    have hsz : ((xs ++ news).toArray ++ Builtin.zeroCells z.cells (grownCap w (n + m) c e - (n + m))).size = grownCap w (n + m) c e * i.size := by
      rw [Array.size_append, size_zeroCells, hzs]
      show (xs ++ news).length + _ = _
      rw [hxl, ← Nat.add_mul]
      congr 1; omega
    refine ⟨_, _, hrun, ⟨hxl, .inr ⟨w.heap.size, grownCap w (n + m) c e, rfl, hbase, Nat.lt_of_lt_of_eq (Nat.lt_succ_self w.drew.heap.size) (by simp), hge, grownCap_le_maxLen w _ _ _ h63, fun j u hj => ?_, fun j hj => ?_⟩⟩, grownBy_drew_alloc w _ _, fun g hg => ?_⟩
    · rw [World.cell?_alloc_at (w := w.drew) _ _ _ _ (show w.heap.size = w.drew.heap.size from rfl)]
      have hlt : j < (xs ++ news).length := (List.getElem?_eq_some_iff.1 hj).1
      rw [Array.getElem?_append_left (by simpa using hlt), List.getElem?_toArray]
      exact hj
    · rw [World.cell?_alloc_at (w := w.drew) _ _ _ _ (show w.heap.size = w.drew.heap.size from rfl), World.frozen?_alloc_at (w := w.drew) _ _ _ _ (show w.heap.size = w.drew.heap.size from rfl)]
      refine ⟨?_, rfl⟩
      rw [Array.getElem?_eq_getElem (by rw [hsz]; exact hj)]; rfl
    · simp [Value.ownBlock] at hg
      subst hg
      exact ⟨.inl (Nat.le_refl _), Nat.lt_of_lt_of_eq (Nat.lt_succ_self w.drew.heap.size) (by simp)⟩
  obtain ⟨rfl, rfl⟩ | ⟨g, c, rfl, h1, h2, h3, h4, h5, h6⟩ := hv
  · obtain rfl : xs = [] := List.eq_nil_of_length_eq_zero (by omega)
    by_cases hm : m = 0
    · subst hm
      obtain rfl : news = [] := List.eq_nil_of_length_eq_zero (by omega)
      exact ⟨_, _, run_append_nothing (P := P) w t tx ty e i ht hi none 0 0 (Nat.le_refl _) x hs, ⟨hl, .inl ⟨rfl, rfl⟩⟩, World.grownBy.refl w _, fun g hg => by simp [Value.ownBlock] at hg⟩
    · exact grow none 0 rfl (by omega) (run_firstCells_none w.drew i.size 0 0 0)
  · by_cases hroom : n + m ≤ c
    · have hfit : n * i.size + news.length ≤ c * i.size := by rw [hnl, ← Nat.add_mul]; exact Nat.mul_le_mul_right _ hroom
      have hrun := run_append_room_src (P := P) w t tx ty e i ht hi g 0 n c x m news hs hroom (fun j hj => (h6 _ (by omega)).1) (fun j hj => (h6 _ (by omega)).2)
      rw [Nat.zero_add] at hrun
      have hb := below_setCells g h1 news (n * i.size) w w (Below.refl _ _)
      have hsome : ∀ j, j < news.length → (w.cell? ⟨g, n * i.size + j, none⟩).isSome = true := fun j hj => (h6 _ (by omega)).1
      refine ⟨_, _, hrun, ⟨hxl, .inr ⟨g, c, rfl, h1, Nat.lt_of_lt_of_le h2 hb.size, hroom, h4, fun j u hj => ?_, fun j hj => ?_⟩⟩, ⟨hb.os, hb.tape, hb.output, hb.size, fun k hk hne => World.heap_setCells_other w g _ _ hk (fun e => hne (by subst e; rfl))⟩, fun g' hg' => ?_⟩
      · by_cases hjo : j < xs.length
        · rw [List.getElem?_append_left hjo] at hj
          rw [World.cell?_setCells_out g _ _ _ _ (fun _ _ => Or.inl (by show j < n * i.size; omega))]
          exact h5 j u hj
        · rw [List.getElem?_append_right (by omega)] at hj
          have hlt : j - xs.length < news.length := (List.getElem?_eq_some_iff.1 hj).1
          have := World.cell?_setCells_in g news (n * i.size) w hsome (j - xs.length) hlt
          rw [show n * i.size + (j - xs.length) = j by omega] at this
          rw [this, ← hj, List.getElem?_eq_getElem hlt]
      · rw [World.frozen?_setCells]
        refine ⟨?_, (h6 j hj).2⟩
        by_cases hin : n * i.size ≤ j ∧ j < n * i.size + news.length
        · have := World.cell?_setCells_in g news (n * i.size) w hsome (j - n * i.size) (by omega)
          rw [show n * i.size + (j - n * i.size) = j by omega] at this
          rw [this]; rfl
        · rw [World.cell?_setCells_out g _ _ _ _ (fun _ _ => by show j < n * i.size ∨ n * i.size + news.length ≤ j; omega)]
          exact (h6 j hj).1
      · refine ⟨.inr hg', ?_⟩
        simp [Value.ownBlock] at hg'
        subst hg'
        exact Nat.lt_of_lt_of_le h2 hb.size
    · refine grow (some ⟨g, 0, none⟩) c rfl (by omega) (run_firstCells_some w.drew i.size n ⟨g, 0, none⟩ n c xs hl (fun j u hu => ?_))
      rw [Addr.add_lit, Nat.zero_add]
      exact h5 j u hu
theorem run_append_ownC (w : World) {base size : Nat} (t tx ty e : TypeId) (i : TypeInfo) (z : Value) (bytes : Nat) (ht : P.underlying t = some (.slice e)) (hi : P.info? e = some i) (hz : i.zero = some z) (hsize : i.size = size) (hby : i.bytes = bytes) (hzs : z.cells.size = size)
    {v : Value} {n : Nat} {xs : List Value} (h : OwnC w base size v n xs) (x : Value) (m : Nat) (news : List Value) (hs : Src P size tx x m news w) (h63 : n + m ≤ maxLen) (hbytes : (n + m) * bytes ≤ 140737488355328) (hbase : base ≤ w.heap.size) :
    ∃ v' w', (Builtin.append_ #[t, tx] ty #[v, x]).run P w = .ok v' w' ∧ OwnC w' base size v' (n + m) (xs ++ news) ∧ Below base w w' := by
  obtain ⟨v', w', h1, h2, h3, _⟩ := run_append_ownG (P := P) w t tx ty e i z bytes ht hi hz hsize hby hzs h x m news hs h63 hbytes hbase
  exact ⟨v', w', h1, h2, below_of_grown h3 hbase fun g hg => (h.lt g hg).1⟩
theorem wpList_append_ownC {w : World} {ops : Array Oper} {rest : List Oper} {o : Oper} {a : Act} {Q : Exit → Act → World → Prop} (hgd : o.guard = none) (s x : Operand) (t tx : TypeId)
    (ho : o.op = .call { callee := .builtin .append, args := #[s, x], argTypes := #[t, tx] })
    (base size : Nat) (e : TypeId) (i : TypeInfo) (z : Value) (bytes : Nat) (ht : P.underlying t = some (.slice e)) (hi : P.info? e = some i) (hz : i.zero = some z) (hsize : i.size = size) (hby : i.bytes = bytes) (hzs : z.cells.size = size)
    (v : Value) (n : Nat) (xs : List Value) (hv : a.eval s = v) (h : OwnC w base size v n xs) (xv : Value) (m : Nat) (news : List Value) (hx : a.eval x = xv) (hs : Src P size tx xv m news w) (h63 : n + m ≤ maxLen) (hbytes : (n + m) * bytes ≤ 140737488355328) (hbase : base ≤ w.heap.size)
    (hK : ∀ v' w', OwnC w' base size v' (n + m) (xs ++ news) → Below base w w' → wpList P ops Q rest (a.put o.dst v') w') : wpList P ops Q (o :: rest) a w := by
  refine wpList_plain hgd fun K hK' => ?_
  obtain ⟨v', w', hrun, h1, h2⟩ := run_append_ownC (P := P) w t tx o.type e i z bytes ht hi hz hsize hby hzs h xv m news hs h63 hbytes hbase
  unfold Oper.wp
  simp [execOp, ho, resolve, invoke, builtin, hv, hx, hrun, Result.andThen]
  exact hK' _ _ (hK v' w' h1 h2)
end
end Go.Proofs.Ytnndanpahcdmaaa
