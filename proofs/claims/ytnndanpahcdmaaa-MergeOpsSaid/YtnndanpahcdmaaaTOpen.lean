/-
  Nodes, operations, and what was changed, that come in: one, by value, and slices of them.
-/
import Derived.Test.YtnndanpahcdmaaaTCode
import Derived.ProofKit
import Derived.OpenShut
import Derived.ChangeArms
import Derived.Lib.SmallJoins
import Derived.Deep.SlicePairs
namespace Go.Proofs.Ytnndanpahcdmaaa
open Go.ChangeShapes Go.WideShapes Go.ChangeAt Go.RowKit
set_option maxRecDepth 100000 in
theorem i64_wf {n : Int} (h : (Lit.int .i64 n).wf = true) : I64 n := by
  simp only [Lit.wf, IntKind.min, IntKind.max, IntKind.signed, IntKind.bits, Bool.and_eq_true, decide_eq_true_eq, if_true] at h
  unfold I64; omega
set_option maxRecDepth 100000 in
theorem u16_wf {n : Int} (h : (Lit.int .u16 n).wf = true) : 0 ≤ n ∧ n ≤ 65535 := by
  simp only [Lit.wf, Bool.and_eq_true, decide_eq_true_eq] at h
  exact h
set_option maxRecDepth 100000 in
theorem add_none (b off j : Nat) : (⟨b, off, none⟩ : Addr).add j = ⟨b, off + j, none⟩ := by unfold Addr.add; split <;> simp_all
instance : Inhabited Opn := ⟨⟨0, 0, 0, 0, 0, emptyB, emptyB⟩⟩
instance : Inhabited Nod := ⟨noNod⟩
/-- An operation that came in: its numbers are ints, its texts as long as texts may be. -/
def InO (o : Opn) : Prop := (I64 o.c ∧ I64 o.r ∧ I64 o.k ∧ I64 o.n ∧ I64 o.p) ∧ o.s.size ≤ maxLen ∧ o.d.size ≤ maxLen
set_option maxRecDepth 100000 in
theorem list7 {α : Type} {l : List α} (h : l.length = 7) : ∃ c0 c1 c2 c3 c4 c5 c6, l = [c0, c1, c2, c3, c4, c5, c6] := by
  match l, h with
  | [c0, c1, c2, c3, c4, c5, c6], _ => exact ⟨c0, c1, c2, c3, c4, c5, c6, rfl⟩
set_option maxRecDepth 100000 in
theorem list8 {α : Type} {l : List α} (h : l.length = 8) : ∃ c0 c1 c2 c3 c4 c5 c6 c7, l = [c0, c1, c2, c3, c4, c5, c6, c7] := by
  match l, h with
  | [c0, c1, c2, c3, c4, c5, c6, c7], _ => exact ⟨c0, c1, c2, c3, c4, c5, c6, c7, rfl⟩
/-- A node that came in: its numbers are ints, its texts as long as texts may be. -/
def InN (x : Nod) : Prop := (I64 x.id ∧ I64 x.p ∧ I64 x.mc ∧ I64 x.mr ∧ I64 x.wc ∧ I64 x.wr) ∧ x.s.size ≤ maxLen ∧ x.d.size ≤ maxLen
section
variable {H : Type} {enc : TypeId × Value → H} {W : World} {base : Nat} {spare : Nat → Bool} {held : Bool}
set_option maxRecDepth 100000 in
theorem trod_at {t : TypeId} {fs : Array Field} {fuel : Nat} {cs : List Value} {x : DataW H × List MemPlace} (ht : Try.prog.underlying t = some (.struct fs)) (h : DataW.trod enc Try.prog W base spare held fuel t cs = some x)
    (i : Nat) (f : Field) (hf : fs[i]? = some f) : ∃ n y, DataW.trod enc Try.prog W base spare held n f.type ((cs.drop f.offset).take (Try.prog.cellsOf f.type)) = some y := by
  obtain ⟨xs, n, _, _, _, hl, hx⟩ := DataW.trod_struct ht h
  have hi : i < xs.length := by
    rw [hl]
    rcases Nat.lt_or_ge i fs.size with e | e
    · exact e
    · rw [Array.getElem?_eq_none e] at hf; cases hf
  exact ⟨n, xs[i], (hx i f hf).trans (List.getElem?_eq_getElem hi)⟩
set_option maxRecDepth 100000 in
theorem open_cells {fuel : Nat} {cs : List Value} {x : DataW H × List MemPlace} (h : DataW.trod enc Try.prog W base spare held fuel 26 cs = some x) : ∃ o : Opn, cs = cellsOp o ∧ InO o := by
  have hlen : cs.length = 7 := by
    obtain ⟨xs, n, _, _, hl, _, _⟩ := DataW.trod_struct Try.underlying26 h
    exact hl
  obtain ⟨c0, c1, c2, c3, c4, c5, c6, rfl⟩ := list7 hlen
  obtain ⟨n0, y0, h0⟩ := trod_at Try.underlying26 h 0 _ rfl
  obtain ⟨n1, y1, h1⟩ := trod_at Try.underlying26 h 1 _ rfl
  obtain ⟨n2, y2, h2⟩ := trod_at Try.underlying26 h 2 _ rfl
  obtain ⟨n3, y3, h3⟩ := trod_at Try.underlying26 h 3 _ rfl
  obtain ⟨n4, y4, h4⟩ := trod_at Try.underlying26 h 4 _ rfl
  obtain ⟨n5, y5, h5⟩ := trod_at Try.underlying26 h 5 _ rfl
  obtain ⟨m0, z0, g0⟩ := trod_at Try.underlying24 h0 0 _ rfl
  obtain ⟨m1, z1, g1⟩ := trod_at Try.underlying24 h0 1 _ rfl
  obtain ⟨c, e0, _, w0⟩ := DataW.trod_int Try.underlying3 g0
  obtain ⟨r, e1, _, w1⟩ := DataW.trod_int Try.underlying3 g1
  obtain ⟨k, e2, _, w2⟩ := DataW.trod_int Try.underlying3 h1
  obtain ⟨n, e3, _, w3⟩ := DataW.trod_int Try.underlying3 h2
  obtain ⟨p, e4, _, w4⟩ := DataW.trod_int Try.underlying3 h3
  obtain ⟨s, e5, _, w5⟩ := DataW.trod_string Try.underlying9 h4
  obtain ⟨d, e6, _, w6⟩ := DataW.trod_string Try.underlying9 h5
  have f0 : [c0] = [.int .i64 c] := e0
  have f1 : [c1] = [.int .i64 r] := e1
  have f2 : [c2] = [.int .i64 k] := e2
  have f3 : [c3] = [.int .i64 n] := e3
  have f4 : [c4] = [.int .i64 p] := e4
  have f5 : [c5] = [.string s] := e5
  have f6 : [c6] = [.string d] := e6
  clear e0 e1 e2 e3 e4 e5 e6
  simp only [List.cons.injEq, and_true] at f0 f1 f2 f3 f4 f5 f6
  subst f0 f1 f2 f3 f4 f5 f6
  exact ⟨⟨c, r, k, n, p, s, d⟩, rfl, ⟨i64_wf w0, i64_wf w1, i64_wf w2, i64_wf w3, i64_wf w4⟩, w5, w6⟩
set_option maxRecDepth 100000 in
theorem open_ncells {fuel : Nat} {cs : List Value} {x : DataW H × List MemPlace} (h : DataW.trod enc Try.prog W base spare held fuel 45 cs = some x) : ∃ o : Nod, cs = cellsNd o ∧ InN o := by
  have hlen : cs.length = 8 := by
    obtain ⟨xs, n, _, _, hl, _, _⟩ := DataW.trod_struct Try.underlying45 h
    exact hl
  obtain ⟨c0, c1, c2, c3, c4, c5, c6, c7, rfl⟩ := list8 hlen
  obtain ⟨n0, y0, h0⟩ := trod_at Try.underlying45 h 0 _ rfl
  obtain ⟨n1, y1, h1⟩ := trod_at Try.underlying45 h 1 _ rfl
  obtain ⟨n2, y2, h2⟩ := trod_at Try.underlying45 h 2 _ rfl
  obtain ⟨n3, y3, h3⟩ := trod_at Try.underlying45 h 3 _ rfl
  obtain ⟨n4, y4, h4⟩ := trod_at Try.underlying45 h 4 _ rfl
  obtain ⟨n5, y5, h5⟩ := trod_at Try.underlying45 h 5 _ rfl
  obtain ⟨m0, z0, g0⟩ := trod_at Try.underlying24 h3 0 _ rfl
  obtain ⟨m1, z1, g1⟩ := trod_at Try.underlying24 h3 1 _ rfl
  obtain ⟨m2, z2, g2⟩ := trod_at Try.underlying24 h5 0 _ rfl
  obtain ⟨m3, z3, g3⟩ := trod_at Try.underlying24 h5 1 _ rfl
  obtain ⟨id, e0, _, w0⟩ := DataW.trod_int Try.underlying3 h0
  obtain ⟨p, e1, _, w1⟩ := DataW.trod_int Try.underlying3 h1
  obtain ⟨s, e2, _, w2⟩ := DataW.trod_string Try.underlying9 h2
  obtain ⟨mc, e3, _, w3⟩ := DataW.trod_int Try.underlying3 g0
  obtain ⟨mr, e4, _, w4⟩ := DataW.trod_int Try.underlying3 g1
  obtain ⟨d, e5, _, w5⟩ := DataW.trod_string Try.underlying9 h4
  obtain ⟨wc, e6, _, w6⟩ := DataW.trod_int Try.underlying3 g2
  obtain ⟨wr, e7, _, w7⟩ := DataW.trod_int Try.underlying3 g3
  have f0 : [c0] = [.int .i64 id] := e0
  have f1 : [c1] = [.int .i64 p] := e1
  have f2 : [c2] = [.string s] := e2
  have f3 : [c3] = [.int .i64 mc] := e3
  have f4 : [c4] = [.int .i64 mr] := e4
  have f5 : [c5] = [.string d] := e5
  have f6 : [c6] = [.int .i64 wc] := e6
  have f7 : [c7] = [.int .i64 wr] := e7
  clear e0 e1 e2 e3 e4 e5 e6 e7
  simp only [List.cons.injEq, and_true] at f0 f1 f2 f3 f4 f5 f6 f7
  subst f0 f1 f2 f3 f4 f5 f6 f7
  exact ⟨⟨id, p, s, mc, mr, d, wc, wr⟩, rfl, ⟨i64_wf w0, i64_wf w1, i64_wf w3, i64_wf w4, i64_wf w6, i64_wf w7⟩, w2, w5⟩
set_option maxRecDepth 100000 in
theorem list10 {α : Type} {l : List α} (h : l.length = 10) : ∃ c0 c1 m, l = c0 :: c1 :: m ∧ m.length = 8 := by
  match l, h with
  | c0 :: c1 :: m, h => exact ⟨c0, c1, m, rfl, by simpa using h⟩
set_option maxRecDepth 100000 in
theorem open_ucells {fuel : Nat} {cs : List Value} {x : DataW H × List MemPlace} (h : DataW.trod enc Try.prog W base spare held fuel 47 cs = some x) : ∃ u : Und, cs = cellsU u ∧ InN u.was := by
  have hlen : cs.length = 10 := by
    obtain ⟨xs, n, _, _, hl, _, _⟩ := DataW.trod_struct Try.underlying47 h
    exact hl
  obtain ⟨c0, c1, m, rfl, hm⟩ := list10 hlen
  obtain ⟨n0, y0, h0⟩ := trod_at Try.underlying47 h 0 _ rfl
  obtain ⟨n1, y1, h1⟩ := trod_at Try.underlying47 h 1 _ rfl
  obtain ⟨n2, y2, h2⟩ := trod_at Try.underlying47 h 2 _ rfl
  obtain ⟨b0, e0, _⟩ := DataW.trod_bool Try.underlying4 h0
  obtain ⟨b1, e1, _⟩ := DataW.trod_bool Try.underlying4 h1
  obtain ⟨x, hx, hin⟩ := open_ncells h2
  have f0 : [c0] = [.bool b0] := e0
  have f1 : [c1] = [.bool b1] := e1
  have f2 : m = cellsNd x := by
    have e : m.take 8 = cellsNd x := hx
    rw [← e, List.take_of_length_le (by omega)]
  clear e0 e1 hx
  simp only [List.cons.injEq, and_true] at f0 f1
  subst f0 f1 f2
  exact ⟨⟨b0, b1, x⟩, rfl, hin⟩
end
section
variable {H : Type} {enc : TypeId × Value → H} {W : World} {base : Nat} {v : Value} {d : DataW H} {p : List MemPlace}
set_option maxRecDepth 100000 in
theorem open_op (hv : Value.okWide Try.prog W .any base 26 v) (h : DataW.Trod enc Try.prog W 0 (fun _ => true) true 26 v d p) : ∃ o : Opn, v = OV o ∧ InO o := by
  obtain ⟨cs, rfl, hsz⟩ := okWide_struct Try.underlying26 hv
  obtain ⟨fuel, hf⟩ := h
  obtain ⟨o, ho, hi⟩ := open_cells hf
  refine ⟨o, ?_, hi⟩
  have e : cs.toList = cellsOp o := ho
  rw [← Array.toArray_toList (xs := cs), e]
  rfl
set_option maxRecDepth 100000 in
theorem open_und (hv : Value.okWide Try.prog W .any base 47 v) (h : DataW.Trod enc Try.prog W 0 (fun _ => true) true 47 v d p) : ∃ u : Und, v = UV u ∧ InN u.was := by
  obtain ⟨cs, rfl, hsz⟩ := okWide_struct Try.underlying47 hv
  obtain ⟨fuel, hf⟩ := h
  obtain ⟨u, hu, hi⟩ := open_ucells hf
  refine ⟨u, ?_, hi⟩
  have e : cs.toList = cellsU u := hu
  rw [← Array.toArray_toList (xs := cs), e]
  rfl
set_option maxRecDepth 100000 in
/-- A slice of records of k cells, with what the reading weighs. -/
theorem open_recs {α : Type} [Inhabited α] {f : α → List Value} {k : Nat} {P : α → Prop} {t e : TypeId} (hf : ∀ x, (f x).length = k) (hk : 0 < k) (ht : Try.prog.underlying t = some (.slice e)) (hcells : Try.prog.cellsOf e = k)
    (one : ∀ {fuel : Nat} {cs : List Value} {x : DataW H × List MemPlace}, DataW.trod enc Try.prog W 0 (fun _ => true) true fuel e cs = some x → ∃ o : α, cs = f o ∧ P o)
    (hv : Value.okWide Try.prog W .any base t v) (h : DataW.Trod enc Try.prog W 0 (fun _ => true) true t v d p) :
    ∃ (a : Option Addr) (cap : Nat) (l : List α), v = .slice a l.length cap ∧ (IsR f k W a cap l ∧ l.length ≤ maxLen ∧ (∀ o ∈ l, P o)) ∧ ((d = .nil ∧ l = []) ∨ ∃ elems spare, d = .slice elems spare ∧ elems.length + spare.length = cap) := by
  obtain ⟨a, len, cap, rfl⟩ := okWide_slice ht hv
  obtain ⟨fuel, hfu⟩ := h
  rcases Go.Deep.open_slice ht hfu with ⟨hcs, hd⟩ | ⟨x, l, c, m, n, D, Pl, hcs, _, hl, hm, hmm, hd, hcell⟩
  · simp [Value.cells] at hcs
    obtain ⟨rfl, rfl, rfl⟩ := hcs
    exact ⟨none, 0, [], rfl, ⟨isR_nil _ _ _, Nat.zero_le _, fun x hx => (by cases hx)⟩, .inl ⟨congrArg Prod.fst hd, rfl⟩⟩
  · simp [Value.cells] at hcs
    obtain ⟨rfl, rfl, rfl⟩ := hcs
    have hmc : m = cap := by rw [hmm]; simp
    subst hmc
    rw [hcells] at hcell
    have each : ∀ i, i < m → ∃ o : α, (∀ j, j < k → W.cell? (x.add (i * k + j)) = (f o)[j]?) ∧ P o := by
      intro i hi
      obtain ⟨cs', h1, h2⟩ := hcell i hi
      obtain ⟨o, rfl, ho⟩ := one h2
      obtain ⟨_, _, h3⟩ := World.cells?_some h1
      refine ⟨o, fun j hj => ?_, ho⟩
      have := h3 j hj
      rw [Go.Deep.add_add] at this
      exact this
    obtain ⟨q, hq⟩ := Go.Deep.choose_lt each
    have hlen : ((List.range len).map q).length = len := by simp
    refine ⟨some x, m, (List.range len).map q, by rw [hlen], ⟨⟨by omega, fun e => (by cases e), fun hne => ?_⟩, by rw [hlen]; omega, fun o ho => ?_⟩, .inr ⟨_, _, congrArg Prod.fst hd, by simp; omega⟩⟩
    · have hpos : 0 < len := by
        have : 0 < ((List.range len).map q).length := List.length_pos_iff.2 hne
        omega
      obtain ⟨b, off, spot⟩ := x
      have hz : 0 < (f (q 0)).length := by rw [hf]; exact hk
      have hc0 := ((hq 0 (by omega)).1 0 hk).trans (List.getElem?_eq_getElem hz)
      have hspot : spot = none := by simpa [Addr.add] using World.cell?_spot hc0
      subst hspot
      refine ⟨b, off, rfl, World.block_lt_of_cell? W _ (by rw [add_none] at hc0; exact hc0), fun j s hj i u hu => ?_⟩
      have hjl : j < len := by
        by_cases e : j < len
        · exact e
        · rw [List.getElem?_eq_none (by omega)] at hj; cases hj
      have e : s = q j := by
        rw [List.getElem?_map, List.getElem?_range hjl] at hj
        simpa using hj.symm
      subst e
      have hik : i < k := by rw [← hf (q j)]; exact (List.getElem?_eq_some_iff.1 hu).1
      have h2 := ((hq j (by omega)).1 i hik).trans hu
      rw [add_none, ← Nat.add_assoc] at h2
      exact h2
    · obtain ⟨i, hi, rfl⟩ := List.mem_map.1 ho
      exact (hq i (by have := List.mem_range.1 hi; omega)).2
set_option maxRecDepth 100000 in
theorem open_opsr (hv : Value.okWide Try.prog W .any base 22 v) (h : DataW.Trod enc Try.prog W 0 (fun _ => true) true 22 v d p) :
    ∃ (a : Option Addr) (cap : Nat) (l : List Opn), v = .slice a l.length cap ∧ (IsOp W a cap l ∧ l.length ≤ maxLen ∧ (∀ o ∈ l, InO o)) ∧ ((d = .nil ∧ l = []) ∨ ∃ elems spare, d = .slice elems spare ∧ elems.length + spare.length = cap) :=
  open_recs op_len (by decide) Try.underlying22 (by kernel_rfl) (fun h => open_cells h) hv h
set_option maxRecDepth 100000 in
theorem open_nodsr (hv : Value.okWide Try.prog W .any base 30 v) (h : DataW.Trod enc Try.prog W 0 (fun _ => true) true 30 v d p) :
    ∃ (a : Option Addr) (cap : Nat) (l : List Nod), v = .slice a l.length cap ∧ (IsNd W a cap l ∧ l.length ≤ maxLen ∧ (∀ o ∈ l, InN o)) ∧ ((d = .nil ∧ l = []) ∨ ∃ elems spare, d = .slice elems spare ∧ elems.length + spare.length = cap) :=
  open_recs nd_len (by decide) Try.underlying30 (by kernel_rfl) (fun h => open_ncells h) hv h
set_option maxRecDepth 100000 in
theorem open_ops (hv : Value.okWide Try.prog W .any base 22 v) (h : DataW.Trod enc Try.prog W 0 (fun _ => true) true 22 v d p) :
    ∃ (a : Option Addr) (cap : Nat) (l : List Opn), v = .slice a l.length cap ∧ (IsOp W a cap l ∧ l.length ≤ maxLen ∧ (∀ o ∈ l, InO o)) := by
  obtain ⟨a, cap, l, e, h, _⟩ := open_opsr hv h
  exact ⟨a, cap, l, e, h⟩
set_option maxRecDepth 100000 in
theorem open_nods (hv : Value.okWide Try.prog W .any base 30 v) (h : DataW.Trod enc Try.prog W 0 (fun _ => true) true 30 v d p) :
    ∃ (a : Option Addr) (cap : Nat) (l : List Nod), v = .slice a l.length cap ∧ (IsNd W a cap l ∧ l.length ≤ maxLen ∧ (∀ o ∈ l, InN o)) := by
  obtain ⟨a, cap, l, e, h, _⟩ := open_nodsr hv h
  exact ⟨a, cap, l, e, h⟩
set_option maxRecDepth 100000 in
theorem bytesO : Try.prog.bytesOf 26 = 72 := by kernel_rfl
set_option maxRecDepth 100000 in
theorem bytesN : Try.prog.bytesOf 45 = 80 := by kernel_rfl
end
end Go.Proofs.Ytnndanpahcdmaaa
