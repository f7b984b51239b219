import Derived.Test.YtjilmnadcbamaaaDoorJoin
import Derived.Lib.Split
import Derived.Lib.SplitLaws
import Derived.Laws.IdiomCopy
namespace Go.Proofs.YtjilmnadcbamaaaDoor
open Go.RowKit Go.Lib
/-- The texts between the marks, of a path without its first one; at most seventeen. -/
def piecesB (r : List UInt8) : List ByteArray := Lib.splitB ⟨#[47]⟩ 0 (min 17 (r.length + 1) - 1) ⟨r.toArray⟩
/-- A path's names. -/
def splitO : List UInt8 → Option (List ByteArray)
  | [] => none
  | m :: r => if m = 47 then (if r = [] then some [] else if namesB (piecesB r) then some (piecesB r) else none) else none
theorem prefix_yes (r : List UInt8) : Lib.hasPrefix (47 :: r) [47] = true := by simp [Lib.hasPrefix, List.isPrefixOf]
theorem trim_yes (r : List UInt8) : Lib.trimPrefix (47 :: r) [47] = r := by rw [Lib.trimPrefix, if_pos (prefix_yes r)]; rfl
theorem prefix_no (l : List UInt8) (h : ∀ r, l ≠ 47 :: r) : Lib.hasPrefix l [47] = false := by
  cases l with
  | nil => rfl
  | cons m r =>
    have : m ≠ 47 := fun e => h r (by rw [e])
    simp only [Lib.hasPrefix, List.isPrefixOf, Bool.and_true, beq_eq_false_iff_ne]
    exact fun e => this e.symm
/-- The variable of the library that its search reads holds a number. -/
def HasMax (w : World) : Prop := ∃ m, w.cell? ⟨0, 0, none⟩ = some (.int .i64 m)
theorem splitK_small (sep : List UInt8) : ∀ (k : Nat) (s : List UInt8), ∀ x ∈ Lib.splitK sep 0 k s, x.length ≤ s.length
  | 0, s, x, h => by simp [Lib.splitK] at h; rw [h]; exact Nat.le_refl _
  | k + 1, s, x, h => by
    unfold Lib.splitK at h
    split at h
    · simp at h; rw [h]; exact Nat.le_refl _
    · rcases List.mem_cons.1 h with rfl | h
      · exact List.length_take_le' _ _
      · have := splitK_small sep k _ x h
        rw [List.length_drop] at this
        omega
theorem pieces_data (r : List UInt8) : (piecesB r).map (·.data.toList) = Lib.splitK [47] 0 (min 17 (r.length + 1) - 1) r := by
  unfold piecesB
  rw [Lib.splitB_data]
theorem pieces_small (r : List UInt8) (h : r.length ≤ 1000000) : ∀ x ∈ piecesB r, x.size ≤ 1000000 := by
  intro x hx
  have h1 : x.data.toList ∈ Lib.splitK [47] 0 (min 17 (r.length + 1) - 1) r := by
    rw [← pieces_data]; exact List.mem_map_of_mem hx
  have h2 := splitK_small _ _ _ _ h1
  have h3 : x.data.toList.length = x.size := by simp
  omega
theorem cells_at {l : List ByteArray} {N j : Nat} {x : ByteArray} (h : l[j]? = some x) : (Lib.cellsOf l N)[j]? = some (.string x) := by
  have hj : j < l.length := by
    by_cases e : j < l.length
    · exact e
    · rw [List.getElem?_eq_none (by omega)] at h; cases h
  unfold Lib.cellsOf
  rw [List.getElem?_toArray, List.getElem?_append_left (by simpa using hj), List.getElem?_map, h]
  rfl
/-- A row of texts of the call's own, at block n. -/
def Own (w : World) (n : Nat) (l : List ByteArray) : Prop := n < w.heap.size ∧ (∀ j x, l[j]? = some x → w.cell? ⟨n, j, none⟩ = some (.string x)) ∧ ∀ j, w.frozen? ⟨n, j, none⟩ = false
theorem Own.isL {w : World} {n c : Nat} {l : List ByteArray} (h : Own w n l) (hc : l.length ≤ c) : IsL w (some ⟨n, 0, none⟩) c l :=
  ⟨hc, fun _ => ⟨n, 0, rfl, h.1, fun j x hj => by rw [Nat.zero_add]; exact h.2.1 j x hj⟩⟩
theorem Own.below {w w' : World} {n : Nat} {l : List ByteArray} (h : Own w n l) (hb : Below w.heap.size w w') : Own w' n l :=
  ⟨Nat.lt_of_lt_of_le h.1 hb.size, fun j x hj => by rw [hb.cell (p := ⟨n, j, none⟩) h.1]; exact h.2.1 j x hj, fun j => by rw [hb.frozen (p := ⟨n, j, none⟩) h.1]; exact h.2.2 j⟩
theorem frozen_setCell (w : World) (a b : Addr) (v : Value) : (w.setCell a v).frozen? b = w.frozen? b := by simp
/-- A text that is laid where it lies leaves the row as it is. -/
theorem Own.again {w : World} {n k : Nat} {l : List ByteArray} {x : ByteArray} (h : Own w n l) (hx : l[k]? = some x) : Own (w.setCell ⟨n, k, none⟩ (.string x)) n l := by
  refine ⟨by simpa using h.1, fun j y hj => ?_, fun j => ?_⟩
  · by_cases e : j = k
    · subst e
      rw [World.cell?_setCell_same w _ _ (h.2.1 j x hx)]
      rw [hx] at hj; cases hj; rfl
    · rw [World.cell?_setCell_other w _ _ _ (by simp)]
      exact h.2.1 j y hj
  · rw [frozen_setCell]; exact h.2.2 j
theorem splitn_any (r : List UInt8) (w : World) (hr : r.length ≤ 1000000) (hm : HasMax w) :
    Calls Tryd.prog 25 #[.string ⟨r.toArray⟩, .string ⟨#[47]⟩, .int .i64 17] w fun e w' => ∃ c, e = .returned (.slice (some ⟨w.heap.size, 0, none⟩) (piecesB r).length c) ∧ (piecesB r).length ≤ c ∧ Own w' w.heap.size (piecesB r) ∧ Below w.heap.size w w' := by
  obtain ⟨m, hm⟩ := hm
  have hz : (ByteArray.mk r.toArray).size = r.length := rfl
  refine (Tryd.strings_SplitN ⟨r.toArray⟩ ⟨#[47]⟩ 17 m w (by omega) hm (by decide) (by decide) (by decide)).mono ?_
  rintro e w' ⟨rfl, rfl⟩
  refine ⟨min 17 (r.length + 1), rfl, ?_, ⟨by simp, fun j x hj => ?_, fun j => ?_⟩, (Below.refl _ _).alloc (Nat.le_refl _) _⟩
  · have := Lib.splitB_length_le ⟨#[47]⟩ 0 (min 17 (r.length + 1) - 1) ⟨r.toArray⟩
    unfold piecesB
    omega
  · rw [World.cell?_alloc_at _ _ _ _ rfl]
    exact cells_at hj
  · exact World.frozen?_alloc_new _ _ _ _
set_option maxHeartbeats 1000000 in
theorem split_off (s : ByteArray) (w : World) (h : ∀ r, s.data.toList ≠ 47 :: r) :
    Calls Tryd.prog 13 #[.string s] w fun e w' => e = .returned (.tuple #[.slice none 0 0, .int .i64 10]) ∧ Below w.heap.size w w' := by
  have Hp := Lib.hid (prefix_no _ h)
  go_enter Tryd.func13, Tryd.ntmps13
  go_wp2_with fail
  refine (Tryd.strings_CutPrefix _ _ _).mono ?_
  rintro e w1 ⟨rfl, rfl⟩
  rw [show Lib.hasPrefix s.data.toList (ByteArray.mk #[47]).data.toList = false from Hp.out]
  go_wp2
  go_ret2
  exact ⟨rfl, Below.refl _ _⟩
set_option maxHeartbeats 1000000 in
theorem split_root (s : ByteArray) (w : World) (h : s.data.toList = [47]) :
    Calls Tryd.prog 13 #[.string s] w fun e w' => e = .returned (.tuple #[.slice none 0 0, .int .i64 0]) ∧ Below w.heap.size w w' := by
  have H := Lib.hid h
  clear h
  go_enter Tryd.func13, Tryd.ntmps13
  go_wp2_with fail
  refine (Tryd.strings_CutPrefix _ _ _).mono ?_
  rintro e w1 ⟨rfl, rfl⟩
  rw [H.out, show Lib.hasPrefix [47] (ByteArray.mk #[47]).data.toList = true from prefix_yes [], show Lib.trimPrefix [47] (ByteArray.mk #[47]).data.toList = [] from trim_yes []]
  go_wp2
  go_ret2
  exact ⟨rfl, Below.refl _ _⟩
set_option maxHeartbeats 1000000 in
theorem split_no (s : ByteArray) (w : World) (hs : s.size ≤ 1000000) (hm : HasMax w) (r : List UInt8) (h : s.data.toList = 47 :: r) (hr : r ≠ []) (hn : namesB (piecesB r) = false) :
    Calls Tryd.prog 13 #[.string s] w fun e w' => e = .returned (.tuple #[.slice none 0 0, .int .i64 10]) ∧ Below w.heap.size w w' := by
  have hlen : r.length + 1 = s.size := by have := congrArg List.length h; simp at this; omega
  have hsm := pieces_small r (by omega)
  have H := Lib.hid h
  have Hn := Lib.hid hn
  have hne : r.isEmpty = false := by cases r with | nil => exact absurd rfl hr | cons => rfl
  clear h hn
  obtain ⟨m, hm⟩ := hm
  go_enter Tryd.func13, Tryd.ntmps13
  go_wp2_with fail
  refine (Tryd.strings_CutPrefix _ _ _).mono ?_
  rintro e w1 ⟨rfl, rfl⟩
  rw [H.out, show Lib.hasPrefix (47 :: r) (ByteArray.mk #[47]).data.toList = true from prefix_yes r, show Lib.trimPrefix (47 :: r) (ByteArray.mk #[47]).data.toList = r from trim_yes r]
  go_wp2_with fail
  refine (splitn_any r w1 (by omega) ⟨m, hm⟩).mono ?_
  rintro e w2 ⟨c, rfl, hc, how, hb2⟩
  go_wp2_with fail
  refine (allNames_any _ _ _ _ (how.isL hc) hsm).mono ?_
  rintro e w3 ⟨rfl, hb3⟩
  rw [Hn.out]
  go_wp2
  go_ret2
  exact ⟨rfl, hb2.trans (hb3.mono hb2.size)⟩
set_option maxHeartbeats 1000000 in
theorem split_yes (s : ByteArray) (w : World) (hs : s.size ≤ 1000000) (hm : HasMax w) (r : List UInt8) (h : s.data.toList = 47 :: r) (hr : r ≠ []) (hn : namesB (piecesB r) = true) :
    Calls Tryd.prog 13 #[.string s] w fun e w' => ∃ c, e = .returned (.tuple #[.slice (some ⟨w.heap.size, 0, none⟩) (piecesB r).length c, .int .i64 0]) ∧ IsL w' (some ⟨w.heap.size, 0, none⟩) c (piecesB r) ∧ Below w.heap.size w w' := by
  have hlen : r.length + 1 = s.size := by have := congrArg List.length h; simp at this; omega
  have hsm := pieces_small r (by omega)
  have h16 := namesB_len hn
  have H := Lib.hid h
  have Hn := Lib.hid hn
  have hne : r.isEmpty = false := by cases r with | nil => exact absurd rfl hr | cons => rfl
  clear h hn
  go_enter Tryd.func13, Tryd.ntmps13
  go_wp2_with fail
  refine (Tryd.strings_CutPrefix _ _ _).mono ?_
  rintro e w1 ⟨rfl, rfl⟩
  rw [H.out, show Lib.hasPrefix (47 :: r) (ByteArray.mk #[47]).data.toList = true from prefix_yes r, show Lib.trimPrefix (47 :: r) (ByteArray.mk #[47]).data.toList = r from trim_yes r]
  go_wp2_with fail
  refine (splitn_any r w1 (by omega) hm).mono ?_
  rintro e w2 ⟨c, rfl, hc, how, hb2⟩
  go_wp2_with fail
  refine (allNames_any _ _ _ _ (how.isL hc) hsm).mono ?_
  rintro e w3 ⟨rfl, hb3⟩
  rw [Hn.out]
  have how3 := how.below hb3
  have hb13 := hb2.trans (hb3.mono hb2.size)
  have How := Lib.hid how3
  have Hsm := Lib.hid hsm
  clear how how3 hsm hb2 hb3
  generalize hps : piecesB r = ps at *
  have Hps := Lib.hid hps
  clear hps
  go_wp2
  go_loopw [25] (fun i w' => ∃ k : Nat, k ≤ ps.length ∧ i = .int .i64 k ∧ Own w' w1.heap.size ps ∧ Below w1.heap.size w1 w') (fun i _ => ps.length - (RowKit.intOf i).toNat)
  case atStart => exact ⟨0, Nat.zero_le _, rfl, How.out, hb13⟩
  case round =>
    obtain ⟨k, hk, rfl, how, hb⟩ := hrel
    have HO := Lib.hid how
    by_cases hkl : k < ps.length
    · obtain ⟨x, hx⟩ : ∃ x, ps[k]? = some x := ⟨ps[k], List.getElem?_eq_getElem hkl⟩
      have Hx := Lib.hid hx
      have hcell : wr.cell? ⟨w1.heap.size, k, none⟩ = some (.string x) := how.2.1 k x hx
      have hsx := Hsm.out x (List.mem_of_getElem? hx)
      clear hx how
      go_wp2_with fail
      refine (clone_any _ _ hsx).mono ?_
      rintro e w4 ⟨rfl, hb4⟩
      have how4 := HO.out.below hb4
      have hcell4 : w4.cell? ⟨w1.heap.size, k, none⟩ = some (.string x) := how4.2.1 k x Hx.out
      have hfr4 : w4.frozen? ⟨w1.heap.size, k, none⟩ = false := how4.2.2 k
      have HO4 := Lib.hid how4
      clear how4
      go_wp2
      go_roundw
      case rel => exact ⟨k + 1, by omega, by go_num, HO4.out.again Hx.out, (hb.trans (hb4.mono hb.size)).setCell (Nat.le_refl _) _⟩
      case measure => simp [RowKit.intOf]; omega
    · go_wp2
      go_ret2
      exact ⟨c, by rw [Hps.out]; rfl, by rw [Hps.out]; exact HO.out.isL hc, hb⟩
end Go.Proofs.YtjilmnadcbamaaaDoor
