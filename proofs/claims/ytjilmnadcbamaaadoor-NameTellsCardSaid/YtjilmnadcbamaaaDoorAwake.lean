import Derived.Test.YtjilmnadcbamaaaDoorSplit
namespace Go.Proofs.YtjilmnadcbamaaaDoor
open Go.RowKit Go.Lib
theorem aw_ab : runes [195, 164, 98] = some [228, 98] := by decide +kernel
theorem aw_ff : runes [255] = none := by decide +kernel
theorem aw_p1 : piecesB [97, 47, 98, 99] = [⟨#[97]⟩, ⟨#[98, 99]⟩] := by decide +kernel
theorem aw_n1 : namesB [⟨#[97]⟩, ⟨#[98, 99]⟩] = true := by decide +kernel
theorem aw_n2 : namesB [⟨#[120]⟩, ⟨#[121]⟩] = true := by decide +kernel
theorem aw_j2 : joinS [⟨#[120]⟩, ⟨#[121]⟩] = ⟨#[47, 120, 47, 121]⟩ := by decide +kernel
theorem aw_p3 : namesB (piecesB [97, 47]) = false := by decide +kernel
theorem aw_n4 : namesB [⟨#[]⟩] = false := by decide +kernel
theorem aw_c1 : chk [97, 32, 98] = true := by decide +kernel
theorem aw_c2 : chk [46, 46] = false := by decide +kernel
theorem aw_c3 : chk [97, 47, 98] = false := by decide +kernel
theorem aw_l1 : lessB [97] [97, 98] = true := by decide +kernel
theorem aw_l2 : lessB [122] [255] = true := by decide +kernel
theorem aw_l3 : lessB [98] [97] = false := by decide +kernel
theorem HasMax.below {w w' : World} (h : HasMax w) (hb : Below w.heap.size w w') (h0 : 0 < w.heap.size) : HasMax w' := by
  obtain ⟨m, h⟩ := h
  exact ⟨m, by rw [hb.cell (p := ⟨0, 0, none⟩) h0]; exact h⟩
theorem HasMax.pos {w : World} (h : HasMax w) : 0 < w.heap.size := by
  obtain ⟨m, h⟩ := h
  by_cases e : 0 < w.heap.size
  · exact e
  · exfalso
    have : w.heap[0]? = none := Array.getElem?_eq_none (by omega)
    simp [World.cell?, this] at h
theorem hasMax_of {w : World} (h : w.ShapedOpen Tryd.prog) : HasMax w :=
  Go.Proofs.cell_of_shapedOpen_int (zero := #[.int .i64 0]) (t := 3) h (of_decide_eq_true (by kernel_rfl)) (by kernel_rfl) rfl (by kernel_rfl) (by kernel_rfl) Tryd.underlying3
theorem aw_1 (w : World) : Calls Tryd.prog 11 #[.string ⟨#[195, 164, 98]⟩] w fun e w' => e = .returned (.tuple #[.int .i64 2, .bool true]) ∧ Below w.heap.size w w' := by
  refine (runes_any ⟨#[195, 164, 98]⟩ w (by decide)).mono ?_
  rintro e w' ⟨rfl, hb⟩
  exact ⟨by rw [show runes (ByteArray.mk #[195, 164, 98]).data.toList = some [228, 98] from aw_ab]; rfl, hb⟩
theorem aw_2 (w : World) : Calls Tryd.prog 11 #[.string ⟨#[255]⟩] w fun e w' => e = .returned (.tuple #[.int .i64 0, .bool false]) ∧ Below w.heap.size w w' := by
  refine (runes_any ⟨#[255]⟩ w (by decide)).mono ?_
  rintro e w' ⟨rfl, hb⟩
  exact ⟨by rw [show runes (ByteArray.mk #[255]).data.toList = none from aw_ff]; rfl, hb⟩
theorem aw_3 (w : World) (hm : HasMax w) : Calls Tryd.prog 13 #[.string ⟨#[47, 97, 47, 98, 99]⟩] w fun e w' => ∃ c, e = .returned (.tuple #[.slice (some ⟨w.heap.size, 0, none⟩) 2 c, .int .i64 0]) ∧ IsL w' (some ⟨w.heap.size, 0, none⟩) c [⟨#[97]⟩, ⟨#[98, 99]⟩] ∧ Below w.heap.size w w' := by
  have h := split_yes ⟨#[47, 97, 47, 98, 99]⟩ w (by decide) hm [97, 47, 98, 99] rfl (by simp) (by rw [aw_p1]; exact aw_n1)
  rw [aw_p1] at h
  exact h
theorem aw_5 (w : World) (hm : HasMax w) : Calls Tryd.prog 13 #[.string ⟨#[47, 97, 47]⟩] w fun e w' => e = .returned (.tuple #[.slice none 0 0, .int .i64 10]) ∧ Below w.heap.size w w' :=
  split_no ⟨#[47, 97, 47]⟩ w (by decide) hm [97, 47] rfl (by simp) aw_p3
theorem aw_7 (w : World) : Calls Tryd.prog 13 #[.string ⟨#[47]⟩] w fun e w' => e = .returned (.tuple #[.slice none 0 0, .int .i64 0]) ∧ Below w.heap.size w w' :=
  split_root ⟨#[47]⟩ w rfl
theorem isL_new (w : World) (l : List ByteArray) (t : TypeId) : IsL (w.alloc (.cells (l.map Value.string).toArray t)) (some ⟨w.heap.size, 0, none⟩) l.length l :=
  ⟨Nat.le_refl _, fun _ => ⟨w.heap.size, 0, rfl, by simp, fun j x hj => by
    rw [Nat.zero_add, World.cell?_alloc_at _ _ _ _ rfl, List.getElem?_toArray, List.getElem?_map, hj]; rfl⟩⟩
theorem aw_4 (w : World) (t : TypeId) : Calls Tryd.prog 15 #[.slice (some ⟨w.heap.size, 0, none⟩) 2 2] (w.alloc (.cells #[.string ⟨#[120]⟩, .string ⟨#[121]⟩] t)) fun e w' => e = .returned (.tuple #[.string ⟨#[47, 120, 47, 121]⟩, .int .i64 0]) ∧ Below w.heap.size w w' := by
  refine (join_yes _ 2 [⟨#[120]⟩, ⟨#[121]⟩] _ (isL_new w [⟨#[120]⟩, ⟨#[121]⟩] t) (by decide) aw_n2).mono ?_
  rintro e w' ⟨rfl, hb⟩
  exact ⟨by rw [aw_j2], ((Below.refl _ _).alloc (Nat.le_refl _) _).trans (hb.mono (by simp))⟩
theorem aw_6 (w : World) (t : TypeId) : Calls Tryd.prog 15 #[.slice (some ⟨w.heap.size, 0, none⟩) 1 1] (w.alloc (.cells #[.string ⟨#[]⟩] t)) fun e w' => e = .returned (.tuple #[.string ⟨#[]⟩, .int .i64 10]) ∧ Below w.heap.size w w' := by
  refine (join_no _ 1 [⟨#[]⟩] _ (isL_new w [⟨#[]⟩] t) (by decide) aw_n4).mono ?_
  rintro e w' ⟨rfl, hb⟩
  exact ⟨rfl, ((Below.refl _ _).alloc (Nat.le_refl _) _).trans (hb.mono (by simp))⟩
theorem aw_8 (w : World) (t : TypeId) (a : Option Addr) (c : Nat) (h : IsL w a c [⟨#[97]⟩, ⟨#[98, 99]⟩]) : Calls Tryd.prog 21 #[.slice a 2 c, .slice (some ⟨w.heap.size, 0, none⟩) 2 2] (w.alloc (.cells #[.string ⟨#[97]⟩, .string ⟨#[98, 99]⟩] t)) fun e w' => e = .returned (.bool true) ∧ Below w.heap.size w w' := by
  have b := (Below.refl w.heap.size w).alloc (Nat.le_refl _) (.cells #[.string ⟨#[97]⟩, .string ⟨#[98, 99]⟩] t)
  refine (same_any _ _ c 2 [⟨#[97]⟩, ⟨#[98, 99]⟩] [⟨#[97]⟩, ⟨#[98, 99]⟩] _ (h.below b) (isL_new w [⟨#[97]⟩, ⟨#[98, 99]⟩] t) (by decide)).mono ?_
  rintro e w' ⟨rfl, hb⟩
  exact ⟨by simp [sameB], b.trans (hb.mono (by simp))⟩
theorem aw_c (l : Array UInt8) (g : Bool) (w : World) (hl : l.size ≤ 1000000) (h : chk l.toList = g) : Calls Tryd.prog 17 #[.string ⟨l⟩] w fun e w' => e = .returned (.bool g) ∧ Below w.heap.size w w' := by
  refine (check_any ⟨l⟩ w hl).mono ?_
  rintro e w' ⟨rfl, hb⟩
  exact ⟨by rw [← h], hb⟩
theorem aw_l (l m : Array UInt8) (g : Bool) (w : World) (hl : l.size ≤ 1000000) (hm : m.size ≤ 1000000) (h : lessB l.toList m.toList = g) : Calls Tryd.prog 19 #[.string ⟨l⟩, .string ⟨m⟩] w fun e w' => e = .returned (.bool g) ∧ Below w.heap.size w w' := by
  refine (less_any ⟨l⟩ ⟨m⟩ w hl hm).mono ?_
  rintro e w' ⟨rfl, hb⟩
  exact ⟨by rw [← h], hb⟩
set_option maxHeartbeats 2000000 in
theorem awake_any (w : World) (hm : HasMax w) : Calls Tryd.prog 9 #[] w fun e w' => e = .returned (.bool true) ∧ Below w.heap.size w w' := by
  have h0 := hm.pos
  have HM := Lib.hid hm
  clear hm
  go_enter Tryd.func9, Tryd.ntmps9
  go_wp2_with fail
  refine (aw_1 _).mono ?_
  rintro e w1 ⟨rfl, b1⟩
  go_wp2_with fail
  refine (aw_2 _).mono ?_
  rintro e w2 ⟨rfl, b2'⟩
  have b2 := b1.trans (b2'.mono b1.size)
  clear b1 b2'
  go_wp2_with fail
  refine (aw_3 _ (HM.out.below b2 h0)).mono ?_
  rintro e w3 ⟨c, rfl, hl, b3'⟩
  have b3 := b2.trans (b3'.mono b2.size)
  have HL := Lib.hid hl
  clear b2 b3' hl
  go_wp2_with fail
  refine (aw_4 _ _).mono ?_
  rintro e w4 ⟨rfl, b4'⟩
  have hl4 := HL.out.below b4'
  have HL4 := Lib.hid hl4
  have b4 := b3.trans (b4'.mono b3.size)
  clear b3 b4' hl4 HL
  go_wp2_with fail
  refine (aw_5 _ (HM.out.below b4 h0)).mono ?_
  rintro e w5 ⟨rfl, b5'⟩
  have hl5 := HL4.out.below b5'
  have HL5 := Lib.hid hl5
  have b5 := b4.trans (b5'.mono b4.size)
  clear b4 b5' hl5 HL4
  go_wp2_with fail
  refine (aw_6 _ _).mono ?_
  rintro e w6 ⟨rfl, b6'⟩
  have hl6 := HL5.out.below b6'
  have HL6 := Lib.hid hl6
  have b6 := b5.trans (b6'.mono b5.size)
  clear b5 b6' hl6 HL5
  go_wp2_with fail
  refine (aw_7 _).mono ?_
  rintro e w7 ⟨rfl, b7'⟩
  have hl7 := HL6.out.below b7'
  have HL7 := Lib.hid hl7
  have b7 := b6.trans (b7'.mono b6.size)
  clear b6 b7' hl7 HL6
  go_wp2_with fail
  refine (aw_8 _ _ _ _ HL7.out).mono ?_
  rintro e w8 ⟨rfl, b8'⟩
  have b8 := b7.trans (b8'.mono b7.size)
  clear b7 b8'
  go_wp2_with fail
  refine (aw_c #[97, 32, 98] true _ (by decide) aw_c1).mono ?_
  rintro e w9 ⟨rfl, b9'⟩
  have b9 := b8.trans (b9'.mono b8.size)
  clear b8 b9'
  go_wp2_with fail
  refine (aw_c #[46, 46] false _ (by decide) aw_c2).mono ?_
  rintro e w10 ⟨rfl, b10'⟩
  have b10 := b9.trans (b10'.mono b9.size)
  clear b9 b10'
  go_wp2_with fail
  refine (aw_c #[97, 47, 98] false _ (by decide) aw_c3).mono ?_
  rintro e w11 ⟨rfl, b11'⟩
  have b11 := b10.trans (b11'.mono b10.size)
  clear b10 b11'
  go_wp2_with fail
  refine (aw_l #[97] #[97, 98] true _ (by decide) (by decide) aw_l1).mono ?_
  rintro e w12 ⟨rfl, b12'⟩
  have b12 := b11.trans (b12'.mono b11.size)
  clear b11 b12'
  go_wp2_with fail
  refine (aw_l #[122] #[255] true _ (by decide) (by decide) aw_l2).mono ?_
  rintro e w13 ⟨rfl, b13'⟩
  have b13 := b12.trans (b13'.mono b12.size)
  clear b12 b13'
  go_wp2_with fail
  refine (aw_l #[98] #[97] false _ (by decide) (by decide) aw_l3).mono ?_
  rintro e w14 ⟨rfl, b14'⟩
  have b14 := b13.trans (b14'.mono b13.size)
  clear b13 b14'
  go_wp2
  go_ret
  exact ⟨rfl, b14⟩
end Go.Proofs.YtjilmnadcbamaaaDoor
