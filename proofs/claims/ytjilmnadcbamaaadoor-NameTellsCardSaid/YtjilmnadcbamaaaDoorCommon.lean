import Derived.Test.YtjilmnadcbamaaaDoorOrder
import Derived.Test.YtjilmnadcbamaaaDoorPlainTwo
namespace Go.Proofs.YtjilmnadcbamaaaDoor
open Go.RowKit Go.Lib
/-- How many runes a text has, 0 if it has none by the words. -/
def cnt (l : List UInt8) : Nat := ((runes l).getD []).length
theorem runes_t (s : ByteArray) (w : World) (hs : s.size ≤ 1000000) :
    Calls Tryd.prog 11 #[.string s] w fun e w' => e = .returned (.tuple #[.int .i64 (cnt s.data.toList), .bool (runes s.data.toList).isSome]) ∧ Below w.heap.size w w' := by
  refine (runes_any s w hs).mono ?_
  rintro e w' ⟨rfl, hb⟩
  refine ⟨?_, hb⟩
  unfold cnt
  cases runes s.data.toList <;> rfl
theorem cnt_le (l : List UInt8) : cnt l ≤ l.length := by
  unfold cnt
  cases h : runes l with
  | none => simp
  | some rs => exact runes_length l rs h
theorem cnt_none {l : List UInt8} (h : (runes l).isSome = false) : cnt l = 0 := by
  unfold cnt
  cases hr : runes l with
  | none => rfl
  | some rs => rw [hr] at h; cases h
theorem cnt_append {l m : List UInt8} (h : (runes l).isSome = true) (k : (runes m).isSome = true) : (runes (l ++ m)).isSome = true ∧ cnt (l ++ m) = cnt l + cnt m := by
  unfold cnt
  obtain ⟨rl, hl⟩ := Option.isSome_iff_exists.1 h
  obtain ⟨rm, hm⟩ := Option.isSome_iff_exists.1 k
  rw [runes_append m rm hm l rl hl, hl, hm]
  simp
theorem namesB_data (l : List ByteArray) : namesB l = (decide ((l.map (·.data.toList)).length ≤ 16) && (l.map (·.data.toList)).all chk) := by
  unfold namesB; simp [List.all_map]; rfl
theorem data_inj : ∀ {l m : List ByteArray}, l.map (·.data.toList) = m.map (·.data.toList) → l = m
  | [], [], _ => rfl
  | [], _ :: _, h => by simp at h
  | _ :: _, [], h => by simp at h
  | x :: l, y :: m, h => by
    simp only [List.map_cons, List.cons.injEq] at h
    rw [data_inj h.2, ByteArray.ext (Array.ext' h.1)]
theorem join_ge : ∀ (l : List (List UInt8)), l.length ≤ (join l [47]).length + 1
  | [] => by simp
  | [x] => by simp
  | x :: y :: r => by
    have := join_ge (y :: r)
    rw [join_cons2 x (y :: r) (by simp), List.length_append, List.length_cons (a := (47 : UInt8)), List.length_cons]
    omega
/-- The pieces of names with marks between are the names. -/
theorem pieces_join (l : List ByteArray) (hne : l ≠ []) (hn : namesB l = true) : piecesB (join (l.map (·.data.toList)) [47]) = l := by
  rw [namesB_data] at hn
  simp only [Bool.and_eq_true, decide_eq_true_eq, List.all_eq_true] at hn
  apply data_inj
  rw [pieces_data]
  have hl := join_ge (l.map (·.data.toList))
  exact splitK_join _ _ (by simpa using hne) (fun x hx => chk_no_mark (hn.2 x hx)) (by omega)
theorem pieces_two (a b : ByteArray) (ha : chk a.data.toList = true) (hb : chk b.data.toList = true) : piecesB (a.data.toList ++ 47 :: b.data.toList) = [a, b] := by
  have h := pieces_join [a, b] (by simp) (by simp [namesB, ha, hb])
  have e : join ([a, b].map (·.data.toList)) [47] = a.data.toList ++ 47 :: b.data.toList := by
    rw [List.map_cons, join_cons2 _ _ (by simp), List.map_cons, List.map_nil, join_one]
  rw [e] at h
  exact h
theorem same_new (a : Option Addr) (c : Nat) (l m : List ByteArray) (w : World) (t : TypeId) (h : IsL w a c l) (hll : l.length ≤ 1000000) :
    Calls Tryd.prog 21 #[.slice a l.length c, .slice (some ⟨w.heap.size, 0, none⟩) m.length m.length] (w.alloc (.cells (m.map Value.string).toArray t)) fun e w' => e = .returned (.bool (sameB l m)) ∧ Below w.heap.size w w' := by
  have b := (Below.refl w.heap.size w).alloc (Nat.le_refl _) (.cells (m.map Value.string).toArray t)
  refine (same_any _ _ c m.length l m _ (h.below b) (isL_new w m t) hll).mono ?_
  rintro e w' ⟨rfl, hb⟩
  exact ⟨rfl, b.trans (hb.mono (by simp))⟩
theorem sameB_refl (l : List ByteArray) : sameB l l = true := by simp [sameB]
theorem split_any (s : ByteArray) (w : World) (hs : s.size ≤ 1000000) (hm : HasMax w) :
    Calls Tryd.prog 13 #[.string s] w fun e w' => (∃ v en, e = .returned (.tuple #[v, .int .i64 en])) ∧ Below w.heap.size w w' := by
  by_cases h : ∃ r, s.data.toList = 47 :: r
  · obtain ⟨r, h⟩ := h
    by_cases hr : r = []
    · subst hr
      exact (split_root s w h).mono fun e w' ⟨he, hb⟩ => ⟨⟨_, _, he⟩, hb⟩
    · cases hn : namesB (piecesB r) with
      | false => exact (split_no s w hs hm r h hr hn).mono fun e w' ⟨he, hb⟩ => ⟨⟨_, _, he⟩, hb⟩
      | true => exact (split_yes s w hs hm r h hr hn).mono fun e w' ⟨c, he, _, hb⟩ => ⟨⟨_, _, he⟩, hb⟩
  · exact (split_off s w (fun r e => h ⟨r, e⟩)).mono fun e w' ⟨he, hb⟩ => ⟨⟨_, _, he⟩, hb⟩
end Go.Proofs.YtjilmnadcbamaaaDoor
