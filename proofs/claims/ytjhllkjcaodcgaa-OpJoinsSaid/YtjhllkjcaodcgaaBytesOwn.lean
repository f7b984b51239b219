/-
  Rows of bytes of the call's own: []byte(s), string(b), append of one byte, or of a text.
-/
import Derived.Test.YtjhllkjcaodcgaaByteTexts
import Derived.Test.YtjhllkjcaodcgaaOwn
import Derived.OwnWalk
import Derived.WalkMore
namespace Go.Proofs.Ytjhllkjcaodcgaa
open Go.RowKit Go.Lib
def cellsB (l : List UInt8) : List Value := l.map fun x => .int .u8 ((x.toNat : Nat) : Int)
theorem cellsB_length (l : List UInt8) : (cellsB l).length = l.length := by simp [cellsB]
theorem cellsB_append (l m : List UInt8) : cellsB (l ++ m) = cellsB l ++ cellsB m := by simp [cellsB]
theorem byteCells_eq (s : ByteArray) : byteCells s = cellsB s.data.toList := rfl
theorem infoB : (Try.prog.info? 5).map (fun i => (i.zero, i.size, i.bytes)) = some (some (.int .u8 0), 1, 1) := by kernel_rfl
/-- A row of bytes of the call's own. -/
def OwnB (w : World) (base : Nat) (v : Value) (l : List UInt8) : Prop := OwnC w base 1 v l.length (cellsB l)
theorem OwnB.below {w w' : World} {base : Nat} {v : Value} {l : List UInt8} (h : OwnB w base v l) (hb : Below w.heap.size w w') : OwnB w' base v l := OwnC.below h hb
theorem ownB_nil (w : World) (base : Nat) : OwnB w base (.slice none 0 0) [] := ownC_nil w base 1
/-- []byte(s) -/
theorem bytes_own (s : ByteArray) (w : World) (hs : s.size ≤ 140737488355328) : ∃ v w', (convert 9 62 (.string s)).run Try.prog w = .ok v w' ∧ OwnB w' w.heap.size v s.data.toList ∧ Below w.heap.size w w' := by
  have hcl : (cellsB s.data.toList).length = s.data.toList.length * 1 := by rw [cellsB_length, Nat.mul_one]
  have hll : s.data.toList.length = s.size := by simp
  have hge := grownCap_ge w s.size 0 5
  have hsz : (bytesRow s (grownCap w s.size 0 5)).size = grownCap w s.size 0 5 := by
    have e : s.data.size = s.size := rfl
    simp [bytesRow, e]; omega
  refine ⟨_, _, run_bytes_of_string w 9 62 5 s Try.underlying9 Try.underlying62 Try.underlying5, ⟨hcl, .inr ⟨w.heap.size, grownCap w s.size 0 5, by rw [hll], Nat.le_refl _, Nat.lt_of_lt_of_eq (Nat.lt_succ_self w.drew.heap.size) (by simp), by rw [hll]; exact hge, grownCap_le_maxLen w _ _ _ (by unfold maxLen; omega), fun j u hj => ?_, fun j hj => ?_⟩⟩, ((Below.refl _ _).drew).alloc (Nat.le_refl _) _⟩
  · have hl : j < s.data.size := by
      have h1 := (List.getElem?_eq_some_iff.1 hj).1
      rw [cellsB_length, hll] at h1
      exact h1
    have := World.cell?_alloc_mark w.drew (bytesRow s (grownCap w s.size 0 5)) 5 ((bytesRow s (grownCap w s.size 0 5)).size, (bytesRow s (grownCap w s.size 0 5)).size + 1) j
    have e : w.drew.heap.size = w.heap.size := rfl
    rw [e] at this
    rw [this, bytesRow_at _ _ _ hl]
    simp only [cellsB, List.getElem?_map, Array.getElem?_toList, Array.getElem?_eq_getElem hl, Option.map_some] at hj
    exact hj
  · have h1 := World.cell?_alloc_mark w.drew (bytesRow s (grownCap w s.size 0 5)) 5 ((bytesRow s (grownCap w s.size 0 5)).size, (bytesRow s (grownCap w s.size 0 5)).size + 1) j
    have h2 := World.frozen?_alloc_mark w.drew (bytesRow s (grownCap w s.size 0 5)) 5 (bytesRow s (grownCap w s.size 0 5)).size ((bytesRow s (grownCap w s.size 0 5)).size + 1) j
    have e : w.drew.heap.size = w.heap.size := rfl
    rw [e] at h1 h2
    rw [h1, h2, hsz]
    rw [Nat.mul_one] at hj
    refine ⟨?_, by rw [decide_eq_false (by omega), Bool.false_and]⟩
    rw [Array.getElem?_eq_getElem (by rw [hsz]; exact hj)]; rfl
/-- string(v) -/
theorem string_own {w : World} {base : Nat} {v : Value} {l : List UInt8} (h : OwnB w base v l) : (convert 62 9 v).run Try.prog w = .ok (.string (ofL l)) w := by
  obtain ⟨_, ⟨rfl, h0⟩ | ⟨g, c, rfl, h1, h2, h3, h4, h5, h6⟩⟩ := h
  · obtain rfl : l = [] := List.eq_nil_of_length_eq_zero h0
    exact run_convert_bytes_nil w 62 5 Try.underlying62 Try.underlying5 0 0 9 Try.underlying9
  · refine run_convert_bytes_back w 62 9 5 ⟨g, 0, none⟩ c l Try.underlying62 Try.underlying5 Try.underlying9 ?_
    intro j hj
    have hp : (⟨g, 0, none⟩ : Addr).add j = ⟨g, j, none⟩ := by unfold Addr.add; split <;> simp_all
    rw [hp]
    exact h5 j _ (by simp [cellsB, List.getElem?_eq_getElem hj])
/-- append(v, x), x one byte that was laid into a new block. -/
theorem wpList_append_byte {w : World} {ops : Array Oper} {rest : List Oper} {o : Oper} {a : Act} {Q : Exit → Act → World → Prop} (hgd : o.guard = none) (s x : Operand)
    (ho : o.op = .call { callee := .builtin .append, args := #[s, x], argTypes := #[62, 62] })
    (base : Nat) (v : Value) (l : List UInt8) (hv : a.eval s = v) (h : OwnB w base v l) (g c : Nat) (y : UInt8) (hx : a.eval x = .slice (some ⟨g, 0, none⟩) 1 c) (hc : w.cell? ⟨g, 0, none⟩ = some (.int .u8 ((y.toNat : Nat) : Int)))
    (h63 : l.length ≤ 100000000) (hbase : base ≤ w.heap.size)
    (hK : ∀ v' w', OwnB w' base v' (l ++ [y]) → Below base w w' → wpList Try.prog ops Q rest (a.put o.dst v') w') : wpList Try.prog ops Q (o :: rest) a w := by
  obtain ⟨i, hi, hz, hsz, hby⟩ := info_parts infoB
  refine wpList_append_ownC hgd s x 62 62 ho base 1 5 i (.int .u8 0) 1 Try.underlying62 hi hz hsz hby rfl v l.length (cellsB l) hv h _ 1 (cellsB [y]) hx
    (Src.ofSlice w Try.underlying62 ⟨g, 0, none⟩ 1 c (cellsB [y]) rfl ?_ ?_) (by unfold maxLen; omega) (by omega) hbase ?_
  · intro j u hj
    have hp : (⟨g, 0, none⟩ : Addr).add j = ⟨g, j, none⟩ := by unfold Addr.add; split <;> simp_all
    cases j with
    | zero => rw [hp, hc]; simpa [cellsB] using hj
    | succ j => simp [cellsB] at hj
  · intro u hu
    simp [cellsB] at hu
    subst hu; rfl
  · intro v' w' h1 h2
    refine hK v' w' ?_ h2
    unfold OwnB
    rw [cellsB_append, List.length_append]
    exact h1
/-- append(v, t...), t a text. -/
theorem wpList_append_text {w : World} {ops : Array Oper} {rest : List Oper} {o : Oper} {a : Act} {Q : Exit → Act → World → Prop} (hgd : o.guard = none) (s x : Operand)
    (ho : o.op = .call { callee := .builtin .append, args := #[s, x], argTypes := #[62, 9] })
    (base : Nat) (v : Value) (l : List UInt8) (hv : a.eval s = v) (h : OwnB w base v l) (t : ByteArray) (hx : a.eval x = .string t)
    (h63 : l.length ≤ 100000000) (ht : t.size ≤ 100000000) (hbase : base ≤ w.heap.size)
    (hK : ∀ v' w', OwnB w' base v' (l ++ t.data.toList) → Below base w w' → wpList Try.prog ops Q rest (a.put o.dst v') w') : wpList Try.prog ops Q (o :: rest) a w := by
  obtain ⟨i, hi, hz, hsz, hby⟩ := info_parts infoB
  refine wpList_append_ownC hgd s x 62 9 ho base 1 5 i (.int .u8 0) 1 Try.underlying62 hi hz hsz hby rfl v l.length (cellsB l) hv h _ t.size (cellsB t.data.toList) hx
    (Src.ofString w Try.underlying9 t) (by unfold maxLen; omega) (by omega) hbase ?_
  · intro v' w' h1 h2
    refine hK v' w' ?_ h2
    unfold OwnB
    rw [cellsB_append, List.length_append, Array.length_toList]
    exact h1
end Go.Proofs.Ytjhllkjcaodcgaa
