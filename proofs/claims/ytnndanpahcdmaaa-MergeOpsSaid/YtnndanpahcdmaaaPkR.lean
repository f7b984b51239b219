/- Several texts of this seat in one, in build order. -/
import Derived.Test.YtnndanpahcdmaaaLin
import Derived.Laws.IdiomCopy
import Derived.Laws.MakeOwn
import Derived.Deep.MidRow
/-
  NO PROGRAM: slices of records of so many cells each (structs that lie side by side): read; of the call's own, and appended to.
-/
namespace Go.Proofs.Ytnndanpahcdmaaa
open Go.RowKit Go.Lib
section
variable {α : Type}
/-- Cells off.. of block b hold these. -/
def AtC (cs : List Value) (w : World) (b off : Nat) : Prop := ∀ i u, cs[i]? = some u → w.cell? ⟨b, off + i, none⟩ = some u
/-- What a slice of records that is read holds. -/
def IsR (f : α → List Value) (k : Nat) (w : World) (a : Option Addr) (c : Nat) (l : List α) : Prop :=
  l.length ≤ c ∧ (a = none → c = 0) ∧ (l ≠ [] → ∃ b o, a = some ⟨b, o, none⟩ ∧ b < w.heap.size ∧ ∀ j x, l[j]? = some x → AtC (f x) w b (o + j * k))
theorem AtC.keep {cs : List Value} {w w' : World} {b off : Nat} (h : AtC cs w b off) (hb : w'.heap[b]? = w.heap[b]?) : AtC cs w' b off :=
  fun i u hu => by rw [World.cell?_of_block (w := w) (a := ⟨b, off + i, none⟩) hb]; exact h i u hu
theorem IsR.below {f : α → List Value} {k : Nat} {w w' : World} {a : Option Addr} {c : Nat} {l : List α} (h : IsR f k w a c l) (hb : Below w.heap.size w w') : IsR f k w' a c l :=
  ⟨h.1, h.2.1, fun hne => by
    obtain ⟨b, o, e, hlt, hc⟩ := h.2.2 hne
    exact ⟨b, o, e, Nat.lt_of_lt_of_le hlt hb.size, fun j x hj => (hc j x hj).keep (hb.block b hlt)⟩⟩
theorem isR_nil (f : α → List Value) (k : Nat) (w : World) : IsR f k w none 0 [] := ⟨Nat.le_refl _, fun _ => rfl, fun h => absurd rfl h⟩
/-- The cells of records that lie side by side. -/
def cellsR (f : α → List Value) (l : List α) : List Value := l.flatMap f
theorem cellsR_append (f : α → List Value) (l m : List α) : cellsR f (l ++ m) = cellsR f l ++ cellsR f m := by simp [cellsR]
theorem cellsR_len {f : α → List Value} {k : Nat} (hf : ∀ x, (f x).length = k) : ∀ l : List α, (cellsR f l).length = l.length * k
  | [] => by simp [cellsR]
  | x :: l => by
    have := cellsR_len hf l
    simp only [cellsR, List.flatMap_cons, List.length_append, List.length_cons, Nat.add_mul, Nat.one_mul] at this ⊢
    rw [hf, this]; omega
theorem cellsR_get {f : α → List Value} {k : Nat} (hf : ∀ x, (f x).length = k) : ∀ (l : List α) (i : Nat) (x : α), l[i]? = some x → ∀ j, j < k → (cellsR f l)[i * k + j]? = (f x)[j]?
  | [], i, x, h, _, _ => by simp at h
  | y :: l, 0, x, h, j, hj => by
    simp at h; subst h
    simp only [cellsR, List.flatMap_cons]
    rw [List.getElem?_append_left (by rw [hf]; omega)]
    congr 1; omega
  | y :: l, i + 1, x, h, j, hj => by
    have := cellsR_get hf l i x (by simpa using h) j hj
    simp only [cellsR, List.flatMap_cons] at this ⊢
    rw [List.getElem?_append_right (by rw [hf, Nat.add_mul]; omega), hf, ← this]
    congr 1; rw [Nat.add_mul]; omega
theorem cellsR_at {f : α → List Value} {k : Nat} (hf : ∀ x, (f x).length = k) : ∀ (l : List α) (j : Nat) (u : Value), (cellsR f l)[j]? = some u → ∃ i x q, l[i]? = some x ∧ q < k ∧ j = i * k + q ∧ (f x)[q]? = some u
  | [], j, u, h => by simp [cellsR] at h
  | s :: l, j, u, h => by
    simp only [cellsR, List.flatMap_cons] at h
    have hl := hf s
    by_cases hj : j < k
    · rw [List.getElem?_append_left (by omega)] at h
      exact ⟨0, s, j, rfl, hj, by omega, h⟩
    · rw [List.getElem?_append_right (by omega)] at h
      obtain ⟨i, x, q, h1, h2, h3, h4⟩ := cellsR_at hf l (j - k) u (by rw [← hl]; exact h)
      exact ⟨i + 1, x, q, h1, h2, by rw [Nat.add_mul]; omega, h4⟩
/-- A slice of records of the call's own. -/
def OwnR (f : α → List Value) (k : Nat) (B : Nat) (l : List α) (v : Value) (w : World) : Prop := OwnC w B k v l.length (cellsR f l)
theorem OwnR.stay {f : α → List Value} {k : Nat} {W : World} {B : Nat} {l : List α} (v : Value) (w w' : World) (h : OwnR f k B l v w) (hk : Kept W v w w') : OwnR f k B l v w' := OwnC.stay h hk
theorem OwnR.below {f : α → List Value} {k : Nat} {B : Nat} {l : List α} {v : Value} {w w' : World} (h : OwnR f k B l v w) (hb : Below w.heap.size w w') : OwnR f k B l v w' := OwnC.below h hb
theorem OwnR.mono {f : α → List Value} {k : Nat} {B B' : Nat} {l : List α} {v : Value} {w : World} (h : OwnR f k B l v w) (hb : B' ≤ B) : OwnR f k B' l v w := OwnC.mono h hb
theorem ownR_nil (f : α → List Value) (k : Nat) (B : Nat) (w : World) : OwnR f k B [] (.slice none 0 0) w := by
  unfold OwnR cellsR
  exact ownC_nil w B k
theorem OwnR.isR {f : α → List Value} {k : Nat} (hf : ∀ x, (f x).length = k) {B : Nat} {l : List α} {v : Value} {w : World} (h : OwnR f k B l v w) : ∃ a c, v = .slice a l.length c ∧ IsR f k w a c l := by
  obtain ⟨hn, ⟨rfl, h0⟩ | ⟨g, c, rfl, h1, h2, h3, h4, h5, h6⟩⟩ := h
  · obtain rfl : l = [] := List.eq_nil_of_length_eq_zero h0
    exact ⟨none, 0, rfl, isR_nil f k w⟩
  · refine ⟨_, c, rfl, h3, fun e => (by cases e), fun _ => ⟨g, 0, rfl, h2, fun j x hj i u hu => ?_⟩⟩
    have hi : i < k := by have := (List.getElem?_eq_some_iff.1 hu).1; rw [hf] at this; exact this
    have h7 := cellsR_get hf l j x hj i hi
    rw [show 0 + j * k + i = j * k + i by omega]
    exact h5 _ u (h7.trans hu)
theorem OwnR.isR2 {f : α → List Value} {k : Nat} (hf : ∀ x, (f x).length = k) {B : Nat} {l : List α} {v : Value} {w : World} (h : OwnR f k B l v w) : ∃ a c, v = .slice a l.length c ∧ IsR f k w a c l ∧ (a = none ∨ ∃ g, a = some ⟨g, 0, none⟩) := by
  obtain ⟨a, c, rfl, hi⟩ := h.isR hf
  refine ⟨a, c, rfl, hi, ?_⟩
  obtain ⟨_, ⟨e, _⟩ | ⟨g, _, e, _⟩⟩ := h
  · simp only [Value.slice.injEq] at e; exact .inl e.1
  · simp only [Value.slice.injEq] at e; exact .inr ⟨g, e.1⟩
/-- Records that are read, as what is appended. -/
theorem src_rec {P : Program} {f : α → List Value} {k : Nat} (hf : ∀ x, (f x).length = k) (h1 : ∀ x, ∀ u ∈ f x, u.oneCell' = true) {t e : TypeId} (ht : P.underlying t = some (.slice e)) {w : World} {a : Option Addr} {c : Nat} {l : List α} (h : IsR f k w a c l) :
    Src P k t (.slice a l.length c) l.length (cellsR f l) w := by
  cases a with
  | none =>
    obtain rfl := h.2.1 rfl
    obtain rfl : l = [] := List.eq_nil_of_length_eq_zero (by have := h.1; omega)
    exact Src.ofNil w ht 0
  | some ad =>
    refine Src.ofSlice w ht ad l.length c (cellsR f l) (cellsR_len hf l) (fun j u hu => ?_) (fun u hu => ?_)
    · obtain ⟨q, t, i, hk, hq, hj, hc⟩ := cellsR_at hf l j u hu
      have hne : l ≠ [] := by intro e; subst e; simp at hk
      obtain ⟨b, off, e, _, hcell⟩ := h.2.2 hne
      simp only [Option.some.injEq] at e
      subst e
      have hp : (⟨b, off, none⟩ : Addr).add j = ⟨b, off + j, none⟩ := by unfold Addr.add; split <;> simp_all
      rw [hp, hj, ← Nat.add_assoc]
      exact hcell q t hk i u hc
    · obtain ⟨x, _, hx⟩ := List.mem_flatMap.1 hu
      exact h1 x u hx
/-- One record that lies alone, as what is appended. -/
theorem src_one {P : Program} {f : α → List Value} {k : Nat} (hf : ∀ x, (f x).length = k) (h1 : ∀ x, ∀ u ∈ f x, u.oneCell' = true) {t e : TypeId} (ht : P.underlying t = some (.slice e)) {w : World} {g c : Nat} {x : α} (h : AtC (f x) w g 0) :
    Src P k t (.slice (some ⟨g, 0, none⟩) 1 c) 1 (cellsR f [x]) w := by
  refine Src.ofSlice w ht ⟨g, 0, none⟩ 1 c (cellsR f [x]) (by rw [cellsR_len hf]; rfl) (fun j u hu => ?_) (fun u hu => ?_)
  · have hp : (⟨g, 0, none⟩ : Addr).add j = ⟨g, 0 + j, none⟩ := by unfold Addr.add; split <;> simp_all
    rw [hp]
    exact h j u (by simpa [cellsR] using hu)
  · obtain ⟨y, _, hy⟩ := List.mem_flatMap.1 hu
    exact h1 y u hy
theorem atC_new (w : World) (cs : Array Value) (t : TypeId) : AtC cs.toList (w.alloc (.cells cs t)) w.heap.size 0 := fun i u hu => by
  rw [World.cell?_alloc_at _ _ _ _ rfl, Nat.zero_add, ← Array.getElem?_toList]; exact hu
/-- append(v, x...), v a slice of records of the call's own. -/
theorem run_append_rec {P : Program} (f : α → List Value) {k : Nat} (w : World) {B : Nat} (t ty e : TypeId) (i : TypeInfo) (z : Value) (bytes : Nat) (ht : P.underlying t = some (.slice e)) (hi : P.info? e = some i) (hz : i.zero = some z) (hsize : i.size = k) (hby : i.bytes = bytes) (hzs : z.cells.size = k)
    {v : Value} {l m : List α} (h : OwnR f k B l v w) (x : Value) (hs : Src P k t x m.length (cellsR f m) w) (h63 : l.length + m.length ≤ maxLen) (hbytes : (l.length + m.length) * bytes ≤ 140737488355328) (hB : B ≤ w.heap.size) :
    ∃ v' w', (Builtin.append_ #[t, t] ty #[v, x]).run P w = .ok v' w' ∧ OwnR f k B (l ++ m) v' w' ∧ w.grownBy w' v.ownBlock ∧ ∀ g, v'.ownBlock = some g → (w.heap.size ≤ g ∨ v.ownBlock = some g) ∧ g < w'.heap.size := by
  obtain ⟨v', w', h1, h2, h3, h4⟩ := run_append_ownG (P := P) w t t ty e i z bytes ht hi hz hsize hby hzs h x m.length (cellsR f m) hs h63 hbytes hB
  exact ⟨v', w', h1, by unfold OwnR; rw [cellsR_append, List.length_append]; exact h2, h3, h4⟩
theorem wpList_append_rec {P : Program} (f : α → List Value) {k : Nat} {w : World} {ops : Array Oper} {rest : List Oper} {o : Oper} {a : Act} {Q : Exit → Act → World → Prop} (hgd : o.guard = none) (s y : Operand) (t : TypeId)
    (ho : o.op = .call { callee := .builtin .append, args := #[s, y], argTypes := #[t, t] })
    (B : Nat) (e : TypeId) (i : TypeInfo) (z : Value) (bytes : Nat) (ht : P.underlying t = some (.slice e)) (hi : P.info? e = some i) (hz : i.zero = some z) (hsize : i.size = k) (hby : i.bytes = bytes) (hzs : z.cells.size = k)
    (v : Value) (l m : List α) (hv : a.eval s = v) (h : OwnR f k B l v w) (x : Value) (hx : a.eval y = x) (hs : Src P k t x m.length (cellsR f m) w) (h63 : l.length + m.length ≤ maxLen) (hbytes : (l.length + m.length) * bytes ≤ 140737488355328) (hB : B ≤ w.heap.size)
    (hK : ∀ v' w', OwnR f k B (l ++ m) v' w' → Below B w w' → wpList P ops Q rest (a.put o.dst v') w') : wpList P ops Q (o :: rest) a w := by
  refine wpList_plain hgd fun K hK' => ?_
  obtain ⟨v', w', hrun, h1, h2, _⟩ := run_append_rec (P := P) f w t o.type e i z bytes ht hi hz hsize hby hzs h x hs h63 hbytes hB
  unfold Oper.wp
  simp [execOp, ho, resolve, invoke, builtin, hv, hx, hrun, Result.andThen]
  exact hK' _ _ (hK v' w' h1 (below_of_grown h2 hB fun g hg => (h.lt g hg).1))
/-- []T{} -/
theorem ownR_empty (f : α → List Value) (k : Nat) (e : TypeId) (w : World) (B : Nat) (hB : B ≤ w.heap.size) : OwnR f k B [] (.slice (some ⟨w.heap.size, 0, none⟩) 0 0) (w.alloc (.cells #[] e)) :=
  ⟨by simp [cellsR], .inr ⟨_, _, rfl, hB, by simp, Nat.le_refl _, Nat.zero_le _, fun j u hj => by simp [cellsR] at hj, fun j hj => by omega⟩⟩
/-- []T{x, ..} -/
theorem ownR_made {f : α → List Value} {k : Nat} (hf : ∀ x, (f x).length = k) (e : TypeId) (w : World) (B : Nat) (hB : B ≤ w.heap.size) (l : List α) (hl : l.length ≤ 1000) (cs : Array Value) (hcs : cs.toList = cellsR f l) :
    OwnR f k B l (.slice (some ⟨w.heap.size, 0, none⟩) l.length l.length) (w.alloc (.cells cs e)) := by
  have hlen : cs.size = l.length * k := by rw [← Array.length_toList, hcs, cellsR_len hf]
  refine ⟨cellsR_len hf l, .inr ⟨_, _, rfl, hB, by simp, Nat.le_refl _, by unfold maxLen; omega, fun j u hj => ?_, fun j hj => ?_⟩⟩
  · rw [World.cell?_alloc_at _ _ _ _ rfl, ← Array.getElem?_toList, hcs]; exact hj
  · rw [World.cell?_alloc_at _ _ _ _ rfl, World.frozen?_alloc_at _ _ _ _ rfl]
    exact ⟨by rw [Array.getElem?_eq_getElem (by omega)]; rfl, rfl⟩
theorem isR_empty (f : α → List Value) (k : Nat) (w : World) (ad : Addr) (c : Nat) : IsR f k w (some ad) c [] := ⟨Nat.zero_le _, fun e => (by cases e), fun h => absurd rfl h⟩
/-- A slice from its i-th record on; up to it. -/
theorem isR_drop {f : α → List Value} {k : Nat} {w : World} {b o c : Nat} {l : List α} (h : IsR f k w (some ⟨b, o, none⟩) c l) (i : Nat) : IsR f k w (some ⟨b, o + i * k, none⟩) (c - i) (l.drop i) := by
  refine ⟨by rw [List.length_drop]; have := h.1; omega, fun e => (by cases e), fun hne => ?_⟩
  have hl : l ≠ [] := by intro e; subst e; simp at hne
  obtain ⟨b', o', e, hlt, hc⟩ := h.2.2 hl
  simp only [Option.some.injEq, Addr.mk.injEq] at e
  obtain ⟨rfl, rfl, _⟩ := e
  refine ⟨b, o + i * k, rfl, hlt, fun j x hj => ?_⟩
  rw [List.getElem?_drop] at hj
  have := hc (i + j) x hj
  rw [Nat.add_mul, ← Nat.add_assoc] at this
  exact this
theorem isR_take {f : α → List Value} {k : Nat} {w : World} {a : Option Addr} {c : Nat} {l : List α} (h : IsR f k w a c l) (i : Nat) : IsR f k w a c (l.take i) := by
  refine ⟨by rw [List.length_take]; have := h.1; omega, h.2.1, fun hne => ?_⟩
  have hl : l ≠ [] := by intro e; subst e; simp at hne
  obtain ⟨b, o, e, hlt, hc⟩ := h.2.2 hl
  refine ⟨b, o, e, hlt, fun j x hj => hc j x ?_⟩
  rw [List.getElem?_take] at hj
  split at hj
  · exact hj
  · cases hj
theorem src_at {P : Program} {f : α → List Value} {k : Nat} (hf : ∀ x, (f x).length = k) (h1 : ∀ x, ∀ u ∈ f x, u.oneCell' = true) {t e : TypeId} (ht : P.underlying t = some (.slice e)) {w : World} {a : Option Addr} {c : Nat} {l : List α} (h : IsR f k w a c l) {L : Nat} (hL : L = l.length) :
    Src P k t (.slice a L c) l.length (cellsR f l) w := by
  subst hL
  exact src_rec hf h1 ht h
/-- What is assigned is what was made. -/
theorem own_moved {f : α → List Value} {k : Nat} {B : Nat} {l : List α} {v : Value} {w : World} (h : OwnR f k B l v w) : OwnR f k B l v w ∧ w.grownBy w v.ownBlock ∧ ∀ g, v.ownBlock = some g → (w.heap.size ≤ g ∨ v.ownBlock = some g) ∧ g < w.heap.size :=
  ⟨h, World.grownBy.refl w _, fun g hg => ⟨.inr hg, (OwnC.lt h g hg).2⟩⟩
end
end Go.Proofs.Ytnndanpahcdmaaa
/-
  NO PROGRAM: records of the call's own that are made by make, and written by copy, or one by one.
-/
namespace Go.Proofs.Ytnndanpahcdmaaa
open Go.RowKit Go.Lib
section
variable {α : Type}
/-- m written from place i on. -/
def overR (l m : List α) (i : Nat) : List α := l.take i ++ (m ++ l.drop (i + m.length))
theorem overR_len {l m : List α} {i : Nat} (h : i + m.length ≤ l.length) : (overR l m i).length = l.length := by
  unfold overR
  simp only [List.length_append, List.length_take, List.length_drop]; omega
theorem overR_at {l m : List α} {i : Nat} (h : i + m.length ≤ l.length) (j : Nat) : (overR l m i)[j]? = if i ≤ j ∧ j < i + m.length then m[j - i]? else l[j]? := by
  unfold overR
  by_cases h1 : j < i
  · rw [if_neg (by omega), List.getElem?_append_left (by rw [List.length_take]; omega), List.getElem?_take, if_pos h1]
  · rw [List.getElem?_append_right (by rw [List.length_take]; omega), List.length_take]
    have e : min i l.length = i := by omega
    rw [e]
    by_cases h2 : j < i + m.length
    · rw [if_pos ⟨by omega, h2⟩, List.getElem?_append_left (by omega)]
    · rw [if_neg (by omega), List.getElem?_append_right (by omega), List.getElem?_drop]
      congr 1; omega
theorem cellsR_over {f : α → List Value} {k : Nat} (hf : ∀ x, (f x).length = k) {l m : List α} {i : Nat} (h : i + m.length ≤ l.length) (j : Nat) :
    (cellsR f (overR l m i))[j]? = if i * k ≤ j ∧ j < i * k + m.length * k then (cellsR f m)[j - i * k]? else (cellsR f l)[j]? := by
  have e1 : (cellsR f (l.take i)).length = i * k := by rw [cellsR_len hf, List.length_take]; congr 1; omega
  have e2 : (cellsR f m).length = m.length * k := cellsR_len hf m
  have e3 : cellsR f l = cellsR f (l.take i) ++ (cellsR f (l.take (i + m.length) |>.drop i) ++ cellsR f (l.drop (i + m.length))) := by
    rw [← cellsR_append, ← cellsR_append]
    congr 1
    rw [List.drop_take, Nat.add_sub_cancel_left]
    conv => lhs; rw [← List.take_append_drop i l]
    congr 1
    conv => lhs; rw [← List.take_append_drop m.length (l.drop i)]
    rw [List.drop_drop]
  have e4 : (cellsR f (l.take (i + m.length) |>.drop i)).length = m.length * k := by
    rw [cellsR_len hf, List.length_drop, List.length_take]; congr 1; omega
  unfold overR
  rw [cellsR_append, cellsR_append]
  by_cases h1 : j < i * k
  · rw [if_neg (by omega), List.getElem?_append_left (by omega), e3, List.getElem?_append_left (by omega)]
  · rw [List.getElem?_append_right (by omega), e1]
    by_cases h2 : j < i * k + m.length * k
    · rw [if_pos ⟨by omega, h2⟩, List.getElem?_append_left (by omega)]
    · rw [if_neg (by omega), List.getElem?_append_right (by omega), e3, List.getElem?_append_right (by omega), e1, List.getElem?_append_right (by omega), e2, e4]
/-- Records of the call's own, written from place i on. -/
theorem OwnR.write {f : α → List Value} {k : Nat} (hf : ∀ x, (f x).length = k) {B g n c : Nat} {l m : List α} {w : World} (h : OwnR f k B l (.slice (some ⟨g, 0, none⟩) n c) w) {i : Nat} (hi : i + m.length ≤ l.length) :
    OwnR f k B (overR l m i) (.slice (some ⟨g, 0, none⟩) n c) (w.setCells g (i * k) (cellsR f m)) ∧ w.grownBy (w.setCells g (i * k) (cellsR f m)) (some g) := by
  obtain ⟨hl, ⟨e, _⟩ | ⟨g', c', e, h1, h2, h3, h4, h5, h6⟩⟩ := h
  · cases e
  · simp only [Value.slice.injEq, Option.some.injEq, Addr.mk.injEq, and_true] at e
    obtain ⟨rfl, rfl, rfl⟩ := e
    have hfit : (i + m.length) * k ≤ c * k := Nat.mul_le_mul_right _ (by omega)
    rw [Nat.add_mul] at hfit
    have hml : (cellsR f m).length = m.length * k := cellsR_len hf m
    have hsome : ∀ j, j < (cellsR f m).length → (w.cell? ⟨g, i * k + j, none⟩).isSome = true := fun j hj => (h6 _ (by omega)).1
    have hb := below_setCells g h1 (cellsR f m) (i * k) w w (Below.refl _ _)
    refine ⟨⟨by rw [cellsR_len hf], .inr ⟨g, c, by rw [overR_len hi], h1, Nat.lt_of_lt_of_le h2 hb.size, by rw [overR_len hi]; exact h3, h4, fun j u hj => ?_, fun j hj => ?_⟩⟩, ⟨hb.os, hb.tape, hb.output, hb.size, fun q hq hne => World.heap_setCells_other w g _ _ hq (fun e => hne (by subst e; rfl))⟩⟩
    · rw [cellsR_over hf hi] at hj
      split at hj
      · rename_i hin
        have := World.cell?_setCells_in g (cellsR f m) (i * k) w hsome (j - i * k) (by omega)
        rw [show i * k + (j - i * k) = j by omega] at this
        rw [this, ← hj, List.getElem?_eq_getElem (by omega)]
      · rename_i hin
        rw [World.cell?_setCells_out g _ _ _ _ (fun _ _ => by show j < i * k ∨ i * k + (cellsR f m).length ≤ j; omega)]
        exact h5 j u hj
    · rw [World.frozen?_setCells]
      refine ⟨?_, (h6 j hj).2⟩
      by_cases hin : i * k ≤ j ∧ j < i * k + (cellsR f m).length
      · have := World.cell?_setCells_in g (cellsR f m) (i * k) w hsome (j - i * k) (by omega)
        rw [show i * k + (j - i * k) = j by omega] at this
        rw [this]; rfl
      · rw [World.cell?_setCells_out g _ _ _ _ (fun _ _ => by show j < i * k ∨ i * k + (cellsR f m).length ≤ j; omega)]
        exact (h6 j hj).1
theorem overR_nil (l : List α) (i : Nat) : overR l [] i = l := by
  unfold overR
  simp
theorem isR_src {f : α → List Value} {k : Nat} (hf : ∀ x, (f x).length = k) {w : World} {ad : Addr} {c : Nat} {l : List α} (h : IsR f k w (some ad) c l) : ∀ j u, (cellsR f l)[j]? = some u → w.cell? (ad.add j) = some u := fun j u hu => by
  obtain ⟨q, t, i, hk, hq, hj, hc⟩ := cellsR_at hf l j u hu
  have hne : l ≠ [] := by intro e; subst e; simp at hk
  obtain ⟨b, off, e, _, hcell⟩ := h.2.2 hne
  simp only [Option.some.injEq] at e
  subst e
  have hp : (⟨b, off, none⟩ : Addr).add j = ⟨b, off + j, none⟩ := by unfold Addr.add; split <;> simp_all
  rw [hp, hj, ← Nat.add_assoc]
  exact hcell q t hk i u hc
/-- copy into records of the call's own, from place i on: m is what goes over; all is read before anything is written. -/
theorem run_copy_rec {P : Program} {f : α → List Value} {k : Nat} (hf : ∀ x, (f x).length = k) (h1 : ∀ x, ∀ u ∈ f x, u.oneCell' = true) (w : World) {B g n c : Nat} {l m : List α}
    (h : OwnR f k B l (.slice (some ⟨g, 0, none⟩) n c) w) {i : Nat} (hi : i + m.length ≤ l.length) (dT sT ty elem : TypeId) (hu : P.underlying dT = some (.slice elem)) (hs : (P.info? elem).map (·.size) = some k)
    (dp sp : Option Addr) (dLen dCap sLen sCap : Nat) (hn : m.length = Nat.min sLen dLen)
    (hpos : 0 < m.length → dp = some ⟨g, i * k, none⟩ ∧ ∃ ad, sp = some ad ∧ ∀ j v, (cellsR f m)[j]? = some v → w.cell? (ad.add j) = some v) :
    ∃ w', (Builtin.copy_ #[dT, sT] ty #[.slice dp dLen dCap, .slice sp sLen sCap]).run P w = .ok (goInt m.length) w' ∧ OwnR f k B (overR l m i) (.slice (some ⟨g, 0, none⟩) n c) w' ∧ w.grownBy w' (some g) := by
  obtain ⟨I, hq, hI⟩ := Option.map_eq_some_iff.1 hs
  by_cases h0 : m.length = 0
  · obtain rfl : m = [] := List.eq_nil_of_length_eq_zero h0
    refine ⟨w, ?_, by rw [overR_nil]; exact h, World.grownBy.refl w _⟩
    have hl : ∀ (x : Addr), (loadCells x 0).run P w = .ok #[] w := fun x => by simpa using run_loadCells_list (P := P) w x [] (by simp)
    have hn' : Nat.min sLen dLen = 0 := by rw [← hn]; rfl
    cases dp <;> cases sp <;> simp [Builtin.copy_, run_underlying hu, Builtin.lenOf, Builtin.firstCells, sizeOf, typeInfo, hq, hn', storeCells, hl]
  · obtain ⟨rfl, ad, rfl, hsrc⟩ := hpos (by omega)
    have hw := h.write hf hi
    obtain ⟨hl, ⟨e, _⟩ | ⟨g', c', e, g1, g2, g3, g4, g5, g6⟩⟩ := h
    · cases e
    · simp only [Value.slice.injEq, Option.some.injEq, Addr.mk.injEq, and_true] at e
      obtain ⟨rfl, rfl, rfl⟩ := e
      have hfit : (i + m.length) * k ≤ c * k := Nat.mul_le_mul_right _ (by omega)
      rw [Nat.add_mul] at hfit
      have hml : (cellsR f m).length = m.length * k := cellsR_len hf m
      have hld := run_loadCells_list (P := P) w ad (cellsR f m) hsrc
      rw [hml] at hld
      have hst := run_storeCells_cells (P := P) g (i * k) (cellsR f m) 0 w (fun j hj => (g6 _ (by omega)).1) (fun j hj => (g6 _ (by omega)).2) (fun u hu' => by
        obtain ⟨x, _, hx⟩ := List.mem_flatMap.1 hu'
        exact h1 x u hx)
      refine ⟨_, ?_, hw.1, hw.2⟩
      simp [Builtin.copy_, run_underlying hu, Builtin.lenOf, Builtin.firstCells, sizeOf, typeInfo, hq, hI, ← hn, hld, hst]
theorem wpList_copy_rec {P : Program} {f : α → List Value} {k : Nat} (hf : ∀ x, (f x).length = k) (h1 : ∀ x, ∀ u ∈ f x, u.oneCell' = true) {w : World} {ops : Array Oper} {rest : List Oper} {o : Oper} {a : Act} {Q : Exit → Act → World → Prop} (hgd : o.guard = none) (d s : Operand) (dT sT : TypeId)
    (ho : o.op = .call { callee := .builtin .copy, args := #[d, s], argTypes := #[dT, sT] }) (elem : TypeId) (hu : P.underlying dT = some (.slice elem)) (hs : (P.info? elem).map (·.size) = some k)
    (B g n c : Nat) (l m : List α) (h : OwnR f k B l (.slice (some ⟨g, 0, none⟩) n c) w) (i : Nat) (hi : i + m.length ≤ l.length)
    (dp sp : Option Addr) (dLen dCap sLen sCap : Nat) (hd : a.eval d = .slice dp dLen dCap) (hx : a.eval s = .slice sp sLen sCap) (hn : m.length = Nat.min sLen dLen)
    (hpos : 0 < m.length → dp = some ⟨g, i * k, none⟩ ∧ ∃ ad, sp = some ad ∧ ∀ j v, (cellsR f m)[j]? = some v → w.cell? (ad.add j) = some v)
    (hB : B ≤ w.heap.size)
    (hK : ∀ w', OwnR f k B (overR l m i) (.slice (some ⟨g, 0, none⟩) n c) w' → Below B w w' → wpList P ops Q rest (a.put o.dst (goInt m.length)) w') : wpList P ops Q (o :: rest) a w := by
  refine wpList_plain hgd fun K hK' => ?_
  obtain ⟨w', hrun, q1, q2⟩ := run_copy_rec (P := P) hf h1 w h hi dT sT o.type elem hu hs dp sp dLen dCap sLen sCap hn hpos
  unfold Oper.wp
  simp [execOp, ho, resolve, invoke, builtin, hd, hx, hrun, Result.andThen]
  exact hK' _ _ (hK w' q1 (below_of_grown q2 hB fun g' hg' => (h.lt g' (by simpa [Value.ownBlock] using hg')).1))
/-- make([]T, n, c), whose zero value is x0's. -/
theorem ownR_make {f : α → List Value} {k : Nat} (hf : ∀ x, (f x).length = k) (e : TypeId) (w : World) (B : Nat) (hB : B ≤ w.heap.size) (z : Array Value) (x0 : α) (hz : z.toList = f x0) (n c : Nat) (hnc : n ≤ c) (h63 : c ≤ maxLen) :
    OwnR f k B (List.replicate n x0) (.slice (some ⟨w.heap.size, 0, none⟩) n c) (w.alloc (.cells (madeCells z (c * k)) e)) := by
  have hzs : z.size = k := by rw [← Array.length_toList, hz, hf]
  have hlen : (List.replicate n x0).length = n := List.length_replicate
  unfold OwnR
  rw [hlen]
  refine ⟨by rw [cellsR_len hf, hlen], .inr ⟨_, _, rfl, hB, by simp, hnc, h63, fun j u hj => ?_, fun j hj => ?_⟩⟩
  · rw [World.cell?_alloc_at _ _ _ _ rfl]
    obtain ⟨i, x, q, e1, e2, e3, e4⟩ := cellsR_at hf _ j u hj
    rw [List.getElem?_replicate] at e1
    split at e1
    · rename_i hin
      obtain rfl : x0 = x := by simpa using e1
      have hm : (i + 1) * k ≤ c * k := Nat.mul_le_mul_right _ (by omega)
      rw [Nat.add_mul] at hm
      have hjc : j < (madeCells z (c * k)).size := by rw [size_madeCells]; omega
      rw [Array.getElem?_eq_getElem hjc]
      have hq : j % k = q := by rw [e3, Nat.mul_add_mod_self_right, Nat.mod_eq_of_lt e2]
      have hzq : z[q]? = some u := by rw [← Array.getElem?_toList, hz]; exact e4
      simp only [madeCells, Array.getElem_map, Array.getElem_range, hzs, hq]
      rw [getElem!_def, hzq]
    · cases e1
  · rw [World.cell?_alloc_at _ _ _ _ rfl, World.frozen?_alloc_at _ _ _ _ rfl]
    exact ⟨by rw [Array.getElem?_eq_getElem (by rw [size_madeCells]; exact hj)]; rfl, rfl⟩
theorem wpList_make_rec {P : Program} {f : α → List Value} {k : Nat} (hf : ∀ x, (f x).length = k) {w : World} {ops : Array Oper} {rest : List Oper} {o : Oper} {a : Act} {Q : Exit → Act → World → Prop}
    (hg : o.guard = none) (sl sc : Operand) (t : TypeId) (hop : o.op = Op.makeSlice t sl sc) (e : TypeId) (i : TypeInfo) (z : Value) (bytes : Nat) (h1 : P.underlying t = some (.slice e)) (h2 : P.info? e = some i) (h3 : i.zero = some z) (h4 : i.size = k) (h5 : i.bytes = bytes)
    (x0 : α) (hz : z.cells.toList = f x0) (kl kc : IntKind) (L C : Int) (n c : Nat) (hl : a.eval sl = .int kl L) (hc : a.eval sc = .int kc C) (hL : L = (n : Int)) (hC : C = (c : Int)) (hnc : n ≤ c) (b2 : bytes * c ≤ 281474976710656) (b3 : c ≤ maxLen) (B : Nat) (hB : B ≤ w.heap.size)
    (hK : ∀ w', OwnR f k B (List.replicate n x0) (.slice (some ⟨w.heap.size, 0, none⟩) n c) w' → Below B w w' → w'.heap.size = w.heap.size + 1 → wpList P ops Q rest (a.put o.dst (.slice (some ⟨w.heap.size, 0, none⟩) n c)) w') :
    wpList P ops Q (o :: rest) a w := by
  refine wpList_plain hg fun K hK' => ?_
  subst hL hC h4 h5
  have h63' : (c : Int) ≤ 9223372036854775807 := by
    have h := b3
    simp [maxLen] at h
    omega
  have hb' : (i.bytes : Int) * (c : Int) ≤ 281474976710656 := by
    have h : ((i.bytes * c : Nat) : Int) ≤ 281474976710656 := by omega
    rwa [Int.natCast_mul] at h
  have hrun := run_make (P := P) w t e i z h1 h2 h3 kl kc n c (by omega) (by omega) hb' h63'
  simp only [Int.toNat_natCast] at hrun
  unfold Oper.wp
  simp [execOp, hop, hl, hc, hrun, Result.andThen]
  exact hK' _ _ (hK _ (ownR_make hf e w B hB z.cells x0 hz n c hnc b3) ((Below.refl _ _).alloc hB _) (by simp))
end
end Go.Proofs.Ytnndanpahcdmaaa
/-
  NO PROGRAM: one record of the call's own is stored, whole, at its place; an append in place says which block alone has changed.
-/
namespace Go.Proofs.Ytnndanpahcdmaaa
open Go.RowKit Go.Lib
section
variable {α : Type}
theorem overR_one (l : List α) (y : α) (i : Nat) (hi : i < l.length) : overR l [y] i = l.set i y := by
  unfold overR
  rw [List.set_eq_take_append_cons_drop, if_pos hi]
  rfl
/-- The cells of the i-th record of a row of the call's own, and that they may be written. -/
theorem OwnR.cellsAt {f : α → List Value} {k : Nat} (hf : ∀ x, (f x).length = k) {B g n c : Nat} {l : List α} {w : World} (h : OwnR f k B l (.slice (some ⟨g, 0, none⟩) n c) w) {i : Nat} {x : α} (hx : l[i]? = some x) :
    AtC (f x) w g (i * k) ∧ ∀ j, j < k → w.frozen? ⟨g, i * k + j, none⟩ = false := by
  obtain ⟨hl, ⟨e, _⟩ | ⟨g', c', e, h1, h2, h3, h4, h5, h6⟩⟩ := h
  · cases e
  · simp only [Value.slice.injEq, Option.some.injEq, Addr.mk.injEq, and_true] at e
    obtain ⟨rfl, rfl, rfl⟩ := e
    have hi := (List.getElem?_eq_some_iff.1 hx).1
    have hm : (i + 1) * k ≤ c * k := Nat.mul_le_mul_right _ (by omega)
    rw [Nat.add_mul] at hm
    refine ⟨fun j u hu => ?_, fun j hj => (h6 _ (by omega)).2⟩
    have hj : j < k := by have := (List.getElem?_eq_some_iff.1 hu).1; rw [hf] at this; exact this
    exact h5 _ u ((cellsR_get hf l i x hx j hj).trans hu)
theorem OwnR.there {f : α → List Value} {k : Nat} (hf : ∀ x, (f x).length = k) {B g n c : Nat} {l : List α} {w : World} (h : OwnR f k B l (.slice (some ⟨g, 0, none⟩) n c) w) {i : Nat} (hi : i < l.length) : w.there g (i * k) k := by
  obtain ⟨x, hx⟩ : ∃ x, l[i]? = some x := ⟨l[i], List.getElem?_eq_getElem hi⟩
  obtain ⟨h1, h2⟩ := h.cellsAt hf hx
  refine fun j hj => ⟨?_, h2 j hj⟩
  have := h1 j ((f x)[j]'(by rw [hf]; exact hj)) (List.getElem?_eq_getElem _)
  rw [this]; rfl
theorem setCells_heap (g : Nat) : ∀ (vs : List Value) (o : Nat) (w : World), (w.setCells g o vs).heap.size = w.heap.size
  | [], _, _ => rfl
  | v :: r, o, w => (setCells_heap g r (o + 1) _).trans (by simp)
/-- One record is stored at its place. -/
theorem wpList_store_rec {P : Program} {f : α → List Value} {k : Nat} (hf : ∀ x, (f x).length = k) (h1 : ∀ x, ∀ u ∈ f x, u.oneCell' = true) {ops : Array Oper} {rest : List Oper} {o : Oper} {a : Act} {w : World} {Q : Exit → Act → World → Prop} (hgd : o.guard = none) (hd : o.dst = none) (ty : TypeId) (x y : Operand) (ho : o.op = .store ty x y)
    (his : (P.info? ty).map (·.size) = some k) (B g n c : Nat) (l : List α) (h : OwnR f k B l (.slice (some ⟨g, 0, none⟩) n c) w) (i : Nat) (hi : i < l.length) (z : α) (off : Nat) (hoff : off = i * k) (hx : a.eval x = .pointer (some ⟨g, off, none⟩)) (hy : a.eval y = .agg (f z).toArray)
    (hK : ∀ w', OwnR f k B (l.set i z) (.slice (some ⟨g, 0, none⟩) n c) w' → Below B w w' → w'.heap.size = w.heap.size → (∀ q, q < w.heap.size → q ≠ g → w'.heap[q]? = w.heap[q]?) → wpList P ops Q rest a w') : wpList P ops Q (o :: rest) a w := by
  subst hoff
  have hw := h.write hf (m := [z]) (i := i) (by simp only [List.length_singleton]; omega)
  rw [overR_one l z i hi] at hw
  have e1 : cellsR f [z] = f z := by simp [cellsR]
  rw [e1] at hw
  have hlt := h.lt g rfl
  refine wpList_store_mid hgd ty x y ho g (i * k) (f z).toArray hx hy (by simpa [hf] using h.there hf hi) (by rw [his]; simp [hf]) (all_oneCell_toArray (h1 z)) ?_
  rw [hd]
  exact hK _ hw.1 (below_setCells g hlt.1 _ _ w w (Below.refl _ _)) (setCells_heap _ _ _ _) (fun q hq hne => World.heap_setCells_other w g _ _ hq hne)
/-- append, whose row may be written in place: all other blocks are as they were. -/
theorem wpList_append_recG {P : Program} (f : α → List Value) {k : Nat} {w : World} {ops : Array Oper} {rest : List Oper} {o : Oper} {a : Act} {Q : Exit → Act → World → Prop} (hgd : o.guard = none) (s y : Operand) (t : TypeId)
    (ho : o.op = .call { callee := .builtin .append, args := #[s, y], argTypes := #[t, t] })
    (B : Nat) (e : TypeId) (i : TypeInfo) (z : Value) (bytes : Nat) (ht : P.underlying t = some (.slice e)) (hi : P.info? e = some i) (hz : i.zero = some z) (hsize : i.size = k) (hby : i.bytes = bytes) (hzs : z.cells.size = k)
    (v : Value) (l m : List α) (hv : a.eval s = v) (h : OwnR f k B l v w) (x : Value) (hx : a.eval y = x) (hs : Src P k t x m.length (cellsR f m) w) (h63 : l.length + m.length ≤ maxLen) (hbytes : (l.length + m.length) * bytes ≤ 140737488355328) (hB : B ≤ w.heap.size)
    (hK : ∀ v' w', OwnR f k B (l ++ m) v' w' → Below B w w' → w.grownBy w' v.ownBlock → (∀ g, v'.ownBlock = some g → (w.heap.size ≤ g ∨ v.ownBlock = some g) ∧ g < w'.heap.size) → wpList P ops Q rest (a.put o.dst v') w') : wpList P ops Q (o :: rest) a w := by
  refine wpList_plain hgd fun K hK' => ?_
  obtain ⟨v', w', hrun, h1, h2, h3⟩ := run_append_rec (P := P) f w t o.type e i z bytes ht hi hz hsize hby hzs h x hs h63 hbytes hB
  unfold Oper.wp
  simp [execOp, ho, resolve, invoke, builtin, hv, hx, hrun, Result.andThen]
  exact hK' _ _ (hK v' w' h1 (below_of_grown h2 hB fun g hg => (h.lt g hg).1) h2 h3)
/-- copy, that says which block alone has changed. -/
theorem wpList_copy_recG {P : Program} {f : α → List Value} {k : Nat} (hf : ∀ x, (f x).length = k) (h1 : ∀ x, ∀ u ∈ f x, u.oneCell' = true) {w : World} {ops : Array Oper} {rest : List Oper} {o : Oper} {a : Act} {Q : Exit → Act → World → Prop} (hgd : o.guard = none) (d s : Operand) (dT sT : TypeId)
    (ho : o.op = .call { callee := .builtin .copy, args := #[d, s], argTypes := #[dT, sT] }) (elem : TypeId) (hu : P.underlying dT = some (.slice elem)) (hs : (P.info? elem).map (·.size) = some k)
    (B g n c : Nat) (l m : List α) (h : OwnR f k B l (.slice (some ⟨g, 0, none⟩) n c) w) (i : Nat) (hi : i + m.length ≤ l.length)
    (dp sp : Option Addr) (dLen dCap sLen sCap : Nat) (hd : a.eval d = .slice dp dLen dCap) (hx : a.eval s = .slice sp sLen sCap) (hn : m.length = Nat.min sLen dLen)
    (hpos : 0 < m.length → dp = some ⟨g, i * k, none⟩ ∧ ∃ ad, sp = some ad ∧ ∀ j v, (cellsR f m)[j]? = some v → w.cell? (ad.add j) = some v)
    (hB : B ≤ w.heap.size)
    (hK : ∀ w', OwnR f k B (overR l m i) (.slice (some ⟨g, 0, none⟩) n c) w' → Below B w w' → w.grownBy w' (some g) → wpList P ops Q rest (a.put o.dst (goInt m.length)) w') : wpList P ops Q (o :: rest) a w := by
  refine wpList_plain hgd fun K hK' => ?_
  obtain ⟨w', hrun, q1, q2⟩ := run_copy_rec (P := P) hf h1 w h hi dT sT o.type elem hu hs dp sp dLen dCap sLen sCap hn hpos
  unfold Oper.wp
  simp [execOp, ho, resolve, invoke, builtin, hd, hx, hrun, Result.andThen]
  exact hK' _ _ (hK w' q1 (below_of_grown q2 hB fun g' hg' => (h.lt g' (by simpa [Value.ownBlock] using hg')).1) q2)
theorem OwnR.row {f : α → List Value} {k : Nat} {B : Nat} {l : List α} {v : Value} {w : World} (h : OwnR f k B l v w) (hne : l ≠ []) : ∃ g c, v = .slice (some ⟨g, 0, none⟩) l.length c ∧ B ≤ g ∧ g < w.heap.size ∧ l.length ≤ c ∧ c ≤ maxLen := by
  obtain ⟨hl, ⟨e, h0⟩ | ⟨g', c', e, h1, h2, h3, h4, h5, h6⟩⟩ := h
  · exact absurd (List.eq_nil_of_length_eq_zero h0) hne
  · exact ⟨g', c', e, h1, h2, h3, h4⟩
/-- All blocks that were there are as they were, but the row. -/
def Rest (w : World) (r : Option Nat) (w' : World) : Prop := w.heap.size ≤ w'.heap.size ∧ ∀ q, q < w.heap.size → some q ≠ r → w'.heap[q]? = w.heap[q]?
theorem Rest.refl (w : World) (r : Option Nat) : Rest w r w := ⟨Nat.le_refl _, fun _ _ _ => rfl⟩
theorem Rest.trans {w w1 w2 : World} {r r' : Option Nat} (h : Rest w r w1) (h2 : Rest w1 r' w2) (hr : ∀ g, r' = some g → w.heap.size ≤ g ∨ r = some g) : Rest w r w2 :=
  ⟨Nat.le_trans h.1 h2.1, fun q hq hne => (h2.2 q (Nat.lt_of_lt_of_le hq h.1) (fun e => by
    rcases hr q e.symm with h3 | h3
    · omega
    · exact hne h3.symm)).trans (h.2 q hq hne)⟩
theorem Rest.of {w w' : World} {r : Option Nat} (h : w.grownBy w' r) : Rest w r w' := ⟨h.size, fun q hq hne => h.block q hq hne⟩
theorem Rest.below {w w' : World} (h : Below w.heap.size w w') (r : Option Nat) : Rest w r w' := ⟨h.size, fun q hq _ => h.block q hq⟩
theorem Rest.block {w w' : World} {r : Option Nat} (h : Rest w r w') {q : Nat} (hq : q < w.heap.size) (hne : r ≠ some q) : w'.heap[q]? = w.heap[q]? := h.2 q hq (fun e => hne e.symm)
end
end Go.Proofs.Ytnndanpahcdmaaa
/-
  NO PROGRAM: rows of the call's own, cut, appended to in place, and cleared behind their end.
-/
namespace Go.Proofs.Ytnndanpahcdmaaa
open Go.RowKit Go.Lib
section
variable {α : Type}
theorem OwnR.len {f : α → List Value} {k : Nat} {B g n c : Nat} {l : List α} {w : World} (h : OwnR f k B l (.slice (some ⟨g, 0, none⟩) n c) w) : n = l.length := by
  obtain ⟨hl, ⟨e, _⟩ | ⟨g', c', e, _⟩⟩ := h
  · cases e
  · simp only [Value.slice.injEq] at e; exact e.2.1
/-- The first ones of a row. -/
theorem OwnR.front {f : α → List Value} {k : Nat} (hf : ∀ x, (f x).length = k) {B g n c : Nat} {l : List α} {w : World} (h : OwnR f k B l (.slice (some ⟨g, 0, none⟩) n c) w) (i : Nat) (hi : i ≤ l.length) : OwnR f k B (l.take i) (.slice (some ⟨g, 0, none⟩) i c) w := by
  obtain ⟨hl, ⟨e, _⟩ | ⟨g', c', e, h1, h2, h3, h4, h5, h6⟩⟩ := h
  · cases e
  · simp only [Value.slice.injEq, Option.some.injEq, Addr.mk.injEq, and_true] at e
    obtain ⟨rfl, rfl, rfl⟩ := e
    have hlen : (l.take i).length = i := by rw [List.length_take]; omega
    refine ⟨cellsR_len hf _, .inr ⟨g, c, by rw [hlen], h1, h2, by rw [hlen]; omega, h4, fun j u hj => h5 j u ?_, h6⟩⟩
    conv => lhs; rw [← List.take_append_drop i l, cellsR_append]
    rw [List.getElem?_append_left (List.getElem?_eq_some_iff.1 hj).1]
    exact hj
/-- append where there is room: the same row. -/
theorem wpList_append_room {P : Program} {f : α → List Value} {k : Nat} {w : World} {ops : Array Oper} {rest : List Oper} {o : Oper} {a : Act} {Q : Exit → Act → World → Prop} (hgd : o.guard = none) (s y : Operand) (t : TypeId)
    (ho : o.op = .call { callee := .builtin .append, args := #[s, y], argTypes := #[t, t] })
    (B : Nat) (e : TypeId) (i : TypeInfo) (z : Value) (bytes : Nat) (ht : P.underlying t = some (.slice e)) (hi : P.info? e = some i) (hz : i.zero = some z) (hsize : i.size = k) (hby : i.bytes = bytes) (hzs : z.cells.size = k)
    (g n c : Nat) (l m : List α) (hv : a.eval s = .slice (some ⟨g, 0, none⟩) n c) (h : OwnR f k B l (.slice (some ⟨g, 0, none⟩) n c) w) (x : Value) (hx : a.eval y = x) (hs : Src P k t x m.length (cellsR f m) w) (hroom : n + m.length ≤ c) (hbytes : (l.length + m.length) * bytes ≤ 140737488355328) (hB : B ≤ w.heap.size)
    (hK : ∀ w', OwnR f k B (l ++ m) (.slice (some ⟨g, 0, none⟩) (n + m.length) c) w' → Below B w w' → w.grownBy w' (some g) → wpList P ops Q rest (a.put o.dst (.slice (some ⟨g, 0, none⟩) (n + m.length) c)) w') : wpList P ops Q (o :: rest) a w := by
  refine wpList_plain hgd fun K hK' => ?_
  have hn := h.len
  have hcM : c ≤ maxLen := by
    obtain ⟨_, ⟨e, _⟩ | ⟨g', c', e, _, _, _, h4, _⟩⟩ := h
    · cases e
    · simp only [Value.slice.injEq] at e; rw [e.2.2]; exact h4
  obtain ⟨v', w', hrun, h1, h2, h3⟩ := run_append_rec (P := P) f w t o.type e i z bytes ht hi hz hsize hby hzs h x hs (by omega) hbytes hB
  have hv' : v' = .slice (some ⟨g, 0, none⟩) (n + m.length) c := by
    obtain ⟨_, ⟨e, _⟩ | ⟨g', c', e, q1, q2, q3, q4, q5, q6⟩⟩ := h
    · cases e
    · simp only [Value.slice.injEq, Option.some.injEq, Addr.mk.injEq, and_true] at e
      obtain ⟨rfl, _, rfl⟩ := e
      have hnl := hs.newsLen
      have hfit : (n + m.length) * k ≤ c * k := Nat.mul_le_mul_right _ hroom
      rw [Nat.add_mul] at hfit
      subst hsize
      have hr := run_append_room_src (P := P) w t t o.type e i ht hi g 0 n c x m.length (cellsR f m) hs hroom (fun j hj => by rw [Nat.zero_add]; exact (q6 _ (by omega)).1) (fun j hj => by rw [Nat.zero_add]; exact (q6 _ (by omega)).2)
      rw [hr] at hrun
      cases hrun
      rfl
  subst hv'
  unfold Oper.wp
  simp [execOp, ho, resolve, invoke, builtin, hv, hx, hrun, Result.andThen]
  exact hK' _ _ (hK w' h1 (below_of_grown h2 hB fun g hg => (h.lt g hg).1) h2)
/-- What lies behind a row's end may be written with whatever. -/
theorem OwnR.behind {f : α → List Value} {k : Nat} (hf : ∀ x, (f x).length = k) {B g n c : Nat} {l : List α} {w : World} (h : OwnR f k B l (.slice (some ⟨g, 0, none⟩) n c) w) (s : Nat) (hs : l.length ≤ s) (vs : List Value) (hv : s * k + vs.length ≤ c * k) :
    OwnR f k B l (.slice (some ⟨g, 0, none⟩) n c) (w.setCells g (s * k) vs) ∧ w.grownBy (w.setCells g (s * k) vs) (some g) := by
  obtain ⟨hl, ⟨e, _⟩ | ⟨g', c', e, h1, h2, h3, h4, h5, h6⟩⟩ := h
  · cases e
  · simp only [Value.slice.injEq, Option.some.injEq, Addr.mk.injEq, and_true] at e
    obtain ⟨rfl, rfl, rfl⟩ := e
    have hls : l.length * k ≤ s * k := Nat.mul_le_mul_right _ hs
    have hcl := cellsR_len hf l
    have hb := below_setCells g h1 vs (s * k) w w (Below.refl _ _)
    refine ⟨⟨hl, .inr ⟨g, c, rfl, h1, Nat.lt_of_lt_of_le h2 hb.size, h3, h4, fun j u hj => ?_, fun j hj => ?_⟩⟩, ⟨hb.os, hb.tape, hb.output, hb.size, fun q hq hne => World.heap_setCells_other w g _ _ hq (fun e => hne (by subst e; rfl))⟩⟩
    · have hjl := (List.getElem?_eq_some_iff.1 hj).1
      rw [World.cell?_setCells_out g _ _ _ _ (fun _ _ => Or.inl (by show j < s * k; omega))]
      exact h5 j u hj
    · rw [World.frozen?_setCells]
      refine ⟨?_, (h6 j hj).2⟩
      by_cases hin : s * k ≤ j ∧ j < s * k + vs.length
      · have := World.cell?_setCells_in g vs (s * k) w (fun i hi => (h6 _ (by omega)).1) (j - s * k) (by omega)
        rw [show s * k + (j - s * k) = j by omega] at this
        rw [this]; rfl
      · rw [World.cell?_setCells_out g _ _ _ _ (fun _ _ => by show j < s * k ∨ s * k + vs.length ≤ j; omega)]
        exact (h6 j hj).1
/-- clear, of what lies behind a row's end. -/
theorem wpList_clear_rec {P : Program} {f : α → List Value} {k : Nat} (hf : ∀ x, (f x).length = k) {w : World} {ops : Array Oper} {rest : List Oper} {o : Oper} {a : Act} {Q : Exit → Act → World → Prop} (hgd : o.guard = none) (s : Operand) (t : TypeId)
    (ho : o.op = .call { callee := .builtin .clear, args := #[s], argTypes := #[t] })
    (B : Nat) (e : TypeId) (i : TypeInfo) (z : Value) (ht : P.underlying t = some (.slice e)) (hi : P.info? e = some i) (hz : i.zero = some z) (hzs : z.cells.size = k) (hz1 : ∀ u ∈ z.cells.toList, u.oneCell' = true) (hk : 0 < k)
    (g n c : Nat) (l : List α) (h : OwnR f k B l (.slice (some ⟨g, 0, none⟩) n c) w) (s0 off m cp : Nat) (hoff : off = s0 * k) (hv : a.eval s = .slice (some ⟨g, off, none⟩) m cp) (hs0 : l.length ≤ s0) (hm : s0 + m ≤ c) (hB : B ≤ w.heap.size)
    (hK : ∀ w', OwnR f k B l (.slice (some ⟨g, 0, none⟩) n c) w' → Below B w w' → w.grownBy w' (some g) → wpList P ops Q rest (a.put o.dst (.tuple #[])) w') : wpList P ops Q (o :: rest) a w := by
  subst hoff
  refine wpList_plain hgd fun K hK' => ?_
  have hlt := h.lt
  have key : ∃ w', (Builtin.clear_ #[t] o.type #[.slice (some ⟨g, s0 * k, none⟩) m cp]).run P w = .ok (.tuple #[]) w' ∧ OwnR f k B l (.slice (some ⟨g, 0, none⟩) n c) w' ∧ w.grownBy w' (some g) := by
    cases m with
    | zero => exact ⟨w, by simp [Builtin.clear_, run_underlying ht], h, World.grownBy.refl w _⟩
    | succ m =>
      have hsz : (Builtin.zeroCells z.cells (m + 1)).toList.length = (m + 1) * k := by rw [Array.length_toList, size_zeroCells, hzs]
      have hfit : (s0 + (m + 1)) * k ≤ c * k := Nat.mul_le_mul_right _ hm
      rw [Nat.add_mul] at hfit
      have h6 : ∀ j, j < c * k → (w.cell? ⟨g, j, none⟩).isSome = true ∧ w.frozen? ⟨g, j, none⟩ = false := by
        obtain ⟨_, ⟨e, _⟩ | ⟨g', c', e, _, _, _, _, _, h6⟩⟩ := h
        · cases e
        · simp only [Value.slice.injEq, Option.some.injEq, Addr.mk.injEq, and_true] at e
          obtain ⟨rfl, _, rfl⟩ := e
          exact h6
      have hst := run_storeCells_cells (P := P) g (s0 * k) (Builtin.zeroCells z.cells (m + 1)).toList 0 w (fun j hj => (h6 _ (by omega)).1) (fun j hj => (h6 _ (by omega)).2) (fun u hu => by
        simp only [Builtin.zeroCells, Array.toList_map, List.mem_map] at hu
        obtain ⟨q, _, rfl⟩ := hu
        have hq : q % z.cells.size < z.cells.size := Nat.mod_lt _ (by omega)
        rw [getElem!_pos z.cells _ hq]
        exact hz1 _ (by simp))
      simp only [Nat.add_zero] at hst
      have hb := h.behind hf s0 hs0 (Builtin.zeroCells z.cells (m + 1)).toList (by omega)
      have hzv : ∀ w, (zeroValue e).run P w = .ok z w := fun w => by simp [zeroValue, typeInfo, hi, hz]
      exact ⟨_, by simp [Builtin.clear_, run_underlying ht, hzv, hst], hb.1, hb.2⟩
  obtain ⟨w', hrun, h1, h2⟩ := key
  unfold Oper.wp
  simp [execOp, ho, resolve, invoke, builtin, hv, hrun, Result.andThen]
  exact hK' _ _ (hK w' h1 (below_of_grown h2 hB fun g' hg' => (hlt g' (by simpa [Value.ownBlock] using hg')).1) h2)
end
end Go.Proofs.Ytnndanpahcdmaaa
