import Derived.Test.YtjilmnadcbamaaaDoorCommon
namespace Go.Proofs.YtjilmnadcbamaaaDoor
open Go.RowKit Go.Lib
theorem joinS_data (l : List ByteArray) : (joinS l).data.toList = 47 :: join (l.map (·.data.toList)) [47] := by
  simp [joinS, ByteArray.data_append]
theorem namesB_all {l : List ByteArray} (h : namesB l = true) : ∀ x ∈ l, chk x.data.toList = true := by
  unfold namesB at h; simp only [Bool.and_eq_true, List.all_eq_true] at h; exact h.2
/-- Names with marks between are something, if there is one. -/
theorem join_some {l : List ByteArray} (hne : l ≠ []) (h : namesB l = true) : ∃ b t, b ≠ 47 ∧ join (l.map (·.data.toList)) [47] = b :: t := by
  match l, hne with
  | x :: r, _ =>
    have hx := namesB_all h x (by simp)
    have h1 := chk_ne hx
    have h2 := chk_no_mark hx
    rw [List.map_cons, join_cons]
    cases hd : x.data.toList with
    | nil => exact absurd hd h1
    | cons b t => exact ⟨b, t ++ joinTail [47] (r.map (·.data.toList)), fun e => h2 (by rw [hd, e]; simp), rfl⟩
/-- A path of names is split into them. -/
theorem split_ok (s : ByteArray) (l : List ByteArray) (w : World) (hm : HasMax w) (hs : s.size ≤ 1000000) (hn : namesB l = true) (h : joinS l = s) :
    Calls Tryd.prog 13 #[.string s] w fun e w' => ∃ a c, e = .returned (.tuple #[.slice a l.length c, .int .i64 0]) ∧ IsL w' a c l ∧ Below w.heap.size w w' := by
  have hd := joinS_data l
  rw [h] at hd
  by_cases hne : l = []
  · subst hne
    refine (split_root s w (by rw [hd]; rfl)).mono ?_
    rintro e w' ⟨rfl, hb⟩
    exact ⟨none, 0, rfl, ⟨Nat.le_refl _, fun h => absurd rfl h⟩, hb⟩
  · obtain ⟨b, t, _, hj⟩ := join_some hne hn
    have hp := pieces_join l hne hn
    refine (split_yes s w hs hm _ hd (by rw [hj]; simp) (by rw [hp]; exact hn)).mono ?_
    rintro e w' ⟨c, rfl, hl, hb⟩
    rw [hp] at hl ⊢
    exact ⟨_, c, rfl, hl, hb⟩
theorem joinS_pieces (s : ByteArray) (r : List UInt8) (h : s.data.toList = 47 :: r) : joinS (piecesB r) = s := by
  apply ByteArray.ext
  apply Array.ext'
  rw [joinS_data, h, pieces_data, join_splitK]
/-- What is no path of names is none. -/
theorem split_bad (s : ByteArray) (w : World) (hm : HasMax w) (hs : s.size ≤ 1000000) (h : ∀ l, namesB l = true → joinS l ≠ s) :
    Calls Tryd.prog 13 #[.string s] w fun e w' => e = .returned (.tuple #[.slice none 0 0, .int .i64 10]) ∧ Below w.heap.size w w' := by
  by_cases hr : ∃ r, s.data.toList = 47 :: r
  · obtain ⟨r, hr⟩ := hr
    by_cases hne : r = []
    · subst hne
      exact absurd (ByteArray.ext (Array.ext' (by rw [joinS_data, hr]; rfl))) (h [] (by decide))
    · cases hn : namesB (piecesB r) with
      | false => exact split_no s w hs hm r hr hne hn
      | true => exact absurd (joinS_pieces s r hr) (h _ hn)
  · exact split_off s w (fun r e => hr ⟨r, e⟩)
theorem strs_row {W : World} {x : Addr} {len cap : Nat} {ss : List ByteArray} (hl : len ≤ cap) (hm : cap ≤ maxLen) (hz : ss.length = cap) (hcell : ∀ i, i < ss.length → W.cell? (x.add i) = some (.string (ss.getD i ByteArray.empty))) (hsz : ∀ s ∈ ss, s.size ≤ maxLen) :
    ∃ l : List ByteArray, IsL W (some x) cap l ∧ (l.length ≤ maxLen ∧ ∀ s ∈ l, s.size ≤ maxLen) ∧ len = l.length := by
  have hlen : (ss.take len).length = len := by rw [List.length_take]; omega
  refine ⟨ss.take len, ⟨by omega, fun hne => ?_⟩, ⟨by omega, fun s hs => hsz s (List.mem_of_mem_take hs)⟩, hlen.symm⟩
  have hpos : 0 < len := by
    have : 0 < (ss.take len).length := List.length_pos_iff.2 hne
    omega
  obtain ⟨b, off, spot⟩ := x
  have hc0 := hcell 0 (by omega)
  have hspot : spot = none := by simpa [Addr.add] using World.cell?_spot hc0
  subst hspot
  refine ⟨b, off, rfl, ?_, fun j y hj => ?_⟩
  · by_cases e : b < W.heap.size
    · exact e
    · exfalso
      have : W.heap[b]? = none := Array.getElem?_eq_none (by omega)
      simp [World.cell?, Addr.add, this] at hc0
  · have hjl : j < len := by
      by_cases e : j < len
      · exact e
      · rw [List.getElem?_eq_none (by omega)] at hj; cases hj
    rw [List.getElem?_take_of_lt hjl] at hj
    have := hcell j (by omega)
    rw [List.getD_eq_getElem?_getD, hj] at this
    have e : (⟨b, off, none⟩ : Addr).add j = ⟨b, off + j, none⟩ := by unfold Addr.add; split <;> simp_all
    rw [e] at this
    exact this
theorem fewB_small {l : List ByteArray} (h : fewB l = true) : l.length ≤ 100 ∧ ∀ x ∈ l, x.size ≤ 1000000 := by
  unfold fewB at h
  simp only [Bool.and_eq_true, decide_eq_true_eq, List.all_eq_true] at h
  exact ⟨h.1, fun x hx => by have := h.2 x hx; omega⟩
theorem fewB_len {l : List ByteArray} (h : fewB l = true) : ∀ x ∈ l, x.size ≤ 1000 := by
  unfold fewB at h
  simp only [Bool.and_eq_true, decide_eq_true_eq, List.all_eq_true] at h
  exact h.2
/-- The path's half of the law, where there is one. -/
def PathHalf (p : ByteArray) (ys : Option (List ByteArray)) : Prop := match ys with
  | none => ∀ l, namesB l = true → joinS l ≠ p
  | some l => namesB l = true ∧ joinS l = p
theorem half_or (p : ByteArray) : ∃ ys, PathHalf p ys := by
  by_cases h : ∃ l, namesB l = true ∧ joinS l = p
  · obtain ⟨l, h⟩ := h; exact ⟨some l, h⟩
  · exact ⟨none, fun l h1 h2 => h ⟨l, h1, h2⟩⟩
theorem isL_nil (w : World) : IsL w none 0 [] := ⟨Nat.le_refl _, fun h => absurd rfl h⟩
theorem tail_len_n (n : Nat) (r : List ByteArray) (hs : ∀ x ∈ r, x.size ≤ n) : (Lib.joinTail [47] (r.map (·.data.toList))).length ≤ r.length * (n + 1) := by
  induction r with
  | nil => simp [Lib.joinTail]
  | cons x r ih =>
    have h1 := ih (fun y hy => hs y (by simp [hy]))
    have h2 := hs x (by simp)
    have h3 : x.data.toList.length = x.size := by simp
    simp only [Lib.joinTail, List.map_cons, List.flatten_cons, List.length_append, List.length_cons, List.length_nil] at h1 ⊢
    rw [Nat.add_mul]
    omega
theorem join_len_n (n : Nat) (l : List ByteArray) (hs : ∀ x ∈ l, x.size ≤ n) : (Lib.join (l.map (·.data.toList)) [47]).length ≤ l.length * (n + 1) := by
  cases l with
  | nil => simp [Lib.join_nil]
  | cons x r =>
    have h1 := tail_len_n n r (fun y hy => hs y (by simp [hy]))
    have h2 := hs x (by simp)
    have h3 : x.data.toList.length = x.size := by simp
    rw [List.map_cons, Lib.join_cons, List.length_append, List.length_cons, Nat.add_mul]
    omega
theorem joinS_size (l : List ByteArray) (hn : namesB l = true) (hs : ∀ x ∈ l, x.size ≤ 1000) : (joinS l).size ≤ 1000000 := by
  have h1 := join_len_n 1000 l hs
  have h2 := namesB_len hn
  have h3 := congrArg List.length (joinS_data l)
  have h4 : (joinS l).data.toList.length = (joinS l).size := by simp
  rw [List.length_cons] at h3
  omega
theorem mem_join : ∀ (l : List (List UInt8)), ∀ x ∈ l, x.length ≤ (join l [47]).length
  | [], _, h => by cases h
  | [y], x, h => by
    rw [join_one]
    simp at h
    rw [h]
    exact Nat.le_refl _
  | y :: z :: r, x, h => by
    rw [join_cons2 y (z :: r) (by simp), List.length_append, List.length_cons]
    rcases List.mem_cons.1 h with rfl | h
    · omega
    · have := mem_join (z :: r) x h
      omega
theorem joinS_mem {l : List ByteArray} {n : Nat} (h : (joinS l).size ≤ n) : ∀ x ∈ l, x.size ≤ n := by
  intro x hx
  have h1 := mem_join (l.map (·.data.toList)) x.data.toList (List.mem_map_of_mem hx)
  have h3 := congrArg List.length (joinS_data l)
  have h4 : (joinS l).data.toList.length = (joinS l).size := by simp
  have h5 : x.data.toList.length = x.size := by simp
  rw [List.length_cons] at h3
  omega
set_option maxHeartbeats 4000000 in
theorem back_few (a : Option Addr) (c : Nat) (l : List ByteArray) (p : ByteArray) (w : World) (hm : HasMax w) (hl : IsL w a c l) (hf : fewB l = true) (hp : p.size ≤ 1000) :
    Calls Tryd.prog 4 #[.slice a l.length c, .string p] w fun e w' => e = .returned (.bool true) ∧ Below w.heap.size w w' := by
  have h0 := hm.pos
  have HM := Lib.hid hm
  have HF := Lib.hid hf
  have hlen := (fewB_small hf).1
  have HS := Lib.hid (fewB_small hf).2
  have HL := Lib.hid hl
  clear hm hf hl
  obtain ⟨ys, hy⟩ := half_or p
  cases hn : namesB l with
  | false =>
    have HN := Lib.hid hn
    clear hn
    cases ys with
    | none =>
      have HY := Lib.hid (show ∀ l, namesB l = true → joinS l ≠ p from hy)
      clear hy
      go_enter Tryd.func4, Tryd.ntmps4
      go_wp2_with fail
      refine (awake_any _ HM.out).mono ?_
      rintro e w1 ⟨rfl, b1⟩
      go_wp2_with fail
      refine (few_any a c l _ (HL.out.below b1) (by unfold maxLen; omega)).mono ?_
      rintro e w1' ⟨rfl, rfl⟩
      rw [HF.out]
      go_wp2_with fail
      refine (from_below (join_no a c l _ (HL.out.below b1) HS.out HN.out) b1).mono ?_
      rintro e w2 ⟨rfl, b2⟩
      go_wp2_with fail
      refine (from_below (split_off ⟨#[]⟩ _ (by intro r; simp)) b2).mono ?_
      rintro e w3 ⟨rfl, b3⟩
      go_wp2_with fail
      refine (from_below (split_bad p _ (HM.out.below b3 h0) (by omega) HY.out) b3).mono ?_
      rintro e w4 ⟨rfl, b4⟩
      go_wp2_with fail
      refine (from_below (join_yes none 0 [] _ (isL_nil _) (by simp) (by decide)) b4).mono ?_
      rintro e w5 ⟨rfl, b5⟩
      go_wp2
      go_ret
      exact ⟨rfl, b5⟩
    | some ys =>
      obtain ⟨h1, h2⟩ := hy
      have HY := Lib.hid h1
      have HYs := Lib.hid (joinS_mem (n := 1000000) (by rw [h2]; omega : (joinS ys).size ≤ 1000000))
      have HP := Lib.hid h2
      clear h1 h2
      go_enter Tryd.func4, Tryd.ntmps4
      go_wp2_with fail
      refine (awake_any _ HM.out).mono ?_
      rintro e w1 ⟨rfl, b1⟩
      go_wp2_with fail
      refine (few_any a c l _ (HL.out.below b1) (by unfold maxLen; omega)).mono ?_
      rintro e w1' ⟨rfl, rfl⟩
      rw [HF.out]
      go_wp2_with fail
      refine (from_below (join_no a c l _ (HL.out.below b1) HS.out HN.out) b1).mono ?_
      rintro e w2 ⟨rfl, b2⟩
      go_wp2_with fail
      refine (from_below (split_off ⟨#[]⟩ _ (by intro r; simp)) b2).mono ?_
      rintro e w3 ⟨rfl, b3⟩
      go_wp2_with fail
      refine (split_ok p ys _ (HM.out.below b3 h0) (by omega) HY.out HP.out).mono ?_
      rintro e w4 ⟨a2, c2, rfl, hl4, b4'⟩
      have b4 := b3.trans (b4'.mono b3.size)
      have HL4 := Lib.hid hl4
      clear hl4 b4'
      go_wp2_with fail
      refine (from_below (join_yes a2 c2 ys _ HL4.out HYs.out HY.out) b4).mono ?_
      rintro e w5 ⟨rfl, b5⟩
      rw [HP.out]
      go_wp2
      go_ret
      exact ⟨rfl, b5⟩
  | true =>
    have HN := Lib.hid hn
    have hj := joinS_size l hn (fewB_len HF.out)
    clear hn
    cases ys with
    | none =>
      have HY := Lib.hid (show ∀ l, namesB l = true → joinS l ≠ p from hy)
      clear hy
      go_enter Tryd.func4, Tryd.ntmps4
      go_wp2_with fail
      refine (awake_any _ HM.out).mono ?_
      rintro e w1 ⟨rfl, b1⟩
      go_wp2_with fail
      refine (few_any a c l _ (HL.out.below b1) (by unfold maxLen; omega)).mono ?_
      rintro e w1' ⟨rfl, rfl⟩
      rw [HF.out]
      go_wp2_with fail
      refine (from_below (join_yes a c l _ (HL.out.below b1) HS.out HN.out) b1).mono ?_
      rintro e w2 ⟨rfl, b2⟩
      go_wp2_with fail
      refine (split_ok _ l _ (HM.out.below b2 h0) (by omega) HN.out rfl).mono ?_
      rintro e w3 ⟨a3, c3, rfl, hl3, b3'⟩
      have b3 := b2.trans (b3'.mono b2.size)
      have HX3 := Lib.hid hl3
      clear hl3 b3'
      go_wp2_with fail
      refine (split_bad p _ (HM.out.below b3 h0) (by omega) HY.out).mono ?_
      rintro e w4 ⟨rfl, b4'⟩
      have b4 := b3.trans (b4'.mono b3.size)
      have HX4 := Lib.hid (HX3.out.below b4')
      clear b4' HX3
      go_wp2_with fail
      refine (join_yes none 0 [] _ (isL_nil _) (by simp) (by decide)).mono ?_
      rintro e w5 ⟨rfl, b5'⟩
      have b5 := b4.trans (b5'.mono b4.size)
      have HX5 := Lib.hid (HX4.out.below b5')
      clear b5' HX4
      go_wp2_with fail
      refine (from_below (same_any a3 a c3 c l l _ HX5.out (HL.out.below b5) (by omega)) b5).mono ?_
      rintro e w6 ⟨rfl, b6⟩
      rw [sameB_refl]
      go_wp2
      go_ret
      exact ⟨rfl, b6⟩
    | some ys =>
      obtain ⟨h1, h2⟩ := hy
      have HY := Lib.hid h1
      have HYs := Lib.hid (joinS_mem (n := 1000000) (by rw [h2]; omega : (joinS ys).size ≤ 1000000))
      have HP := Lib.hid h2
      clear h1 h2
      go_enter Tryd.func4, Tryd.ntmps4
      go_wp2_with fail
      refine (awake_any _ HM.out).mono ?_
      rintro e w1 ⟨rfl, b1⟩
      go_wp2_with fail
      refine (few_any a c l _ (HL.out.below b1) (by unfold maxLen; omega)).mono ?_
      rintro e w1' ⟨rfl, rfl⟩
      rw [HF.out]
      go_wp2_with fail
      refine (from_below (join_yes a c l _ (HL.out.below b1) HS.out HN.out) b1).mono ?_
      rintro e w2 ⟨rfl, b2⟩
      go_wp2_with fail
      refine (split_ok _ l _ (HM.out.below b2 h0) (by omega) HN.out rfl).mono ?_
      rintro e w3 ⟨a3, c3, rfl, hl3, b3'⟩
      have b3 := b2.trans (b3'.mono b2.size)
      have HX3 := Lib.hid hl3
      clear hl3 b3'
      go_wp2_with fail
      refine (split_ok p ys _ (HM.out.below b3 h0) (by omega) HY.out HP.out).mono ?_
      rintro e w4 ⟨a2, c2, rfl, hl4, b4'⟩
      have b4 := b3.trans (b4'.mono b3.size)
      have HX4 := Lib.hid (HX3.out.below b4')
      have HL4 := Lib.hid hl4
      clear b4' HX3 hl4
      go_wp2_with fail
      refine (join_yes a2 c2 ys _ HL4.out HYs.out HY.out).mono ?_
      rintro e w5 ⟨rfl, b5'⟩
      rw [HP.out]
      have b5 := b4.trans (b5'.mono b4.size)
      have HX5 := Lib.hid (HX4.out.below b5')
      clear b5' HX4
      go_wp2_with fail
      refine (from_below (same_any a3 a c3 c l l _ HX5.out (HL.out.below b5) (by omega)) b5).mono ?_
      rintro e w6 ⟨rfl, b6⟩
      rw [sameB_refl]
      go_wp2
      go_ret
      exact ⟨rfl, b6⟩
set_option maxHeartbeats 2000000 in
theorem back_walk (a : Option Addr) (c : Nat) (l : List ByteArray) (p : ByteArray) (w : World) (hm : HasMax w) (hl : IsL w a c l) (hll : l.length ≤ maxLen ∧ ∀ s ∈ l, s.size ≤ maxLen) (hp : p.size ≤ maxLen) :
    Calls Tryd.prog 4 #[.slice a l.length c, .string p] w fun e w' => e = .returned (.bool true) ∧ Below w.heap.size w w' := by
  have HM := Lib.hid hm
  have HL := Lib.hid hl
  have hl1 := hll.1
  clear hll hm hl
  cases hf : fewB l with
  | false =>
    have HF := Lib.hid hf
    clear hf
    go_enter Tryd.func4, Tryd.ntmps4
    go_wp2_with fail
    refine (awake_any _ HM.out).mono ?_
    rintro e w1 ⟨rfl, b1⟩
    go_wp2_with fail
    refine (few_any a c l _ (HL.out.below b1) hl1).mono ?_
    rintro e w1' ⟨rfl, rfl⟩
    rw [HF.out]
    go_wp2
    go_ret
    exact ⟨rfl, b1⟩
  | true =>
    by_cases h1 : p.size ≤ 1000
    · exact back_few a c l p w HM.out HL.out hf h1
    · have HF := Lib.hid hf
      clear hf
      unfold maxLen at hp
      go_enter Tryd.func4, Tryd.ntmps4
      go_wp2_with fail
      refine (awake_any _ HM.out).mono ?_
      rintro e w1 ⟨rfl, b1⟩
      go_wp2_with fail
      refine (few_any a c l _ (HL.out.below b1) hl1).mono ?_
      rintro e w1' ⟨rfl, rfl⟩
      rw [HF.out]
      go_wp2
      go_ret
      exact ⟨rfl, b1⟩
end Go.Proofs.YtjilmnadcbamaaaDoor
