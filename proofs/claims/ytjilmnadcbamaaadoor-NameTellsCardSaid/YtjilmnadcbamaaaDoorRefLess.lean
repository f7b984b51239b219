import Derived.Test.YtjilmnadcbamaaaDoorRefCheck
namespace Go.Proofs.YtjilmnadcbamaaaDoor
open Go.RowKit Go.Lib Go.PlainAid
/-- What a text is taken by. -/
def keysL (l : List UInt8) : List Nat := match runes l with
  | some rs => rs
  | none => l.map fun b => 1114112 + b.toNat
def natLess : List Nat → List Nat → Bool
  | _, [] => false
  | [], _ :: _ => true
  | a :: x, b :: y => decide (a < b) || (a == b && natLess x y)
theorem natLess_take : ∀ (k : Nat) (x y : List Nat), x.take k = y.take k → k ≤ x.length → k ≤ y.length → natLess x y = natLess (x.drop k) (y.drop k)
  | 0, _, _, _, _, _ => rfl
  | k + 1, [], _, _, h, _ => by simp at h
  | k + 1, _ :: _, [], _, _, h => by simp at h
  | k + 1, a :: x, b :: y, h, hx, hy => by
    simp only [List.take_succ_cons, List.cons.injEq] at h
    obtain ⟨rfl, h⟩ := h
    rw [List.drop_succ_cons, List.drop_succ_cons, ← natLess_take k x y h (by simpa using hx) (by simpa using hy)]
    simp [natLess]
theorem natLess_part {x y : List Nat} {k a b : Nat} (h : x.take k = y.take k) (hx : x[k]? = some a) (hy : y[k]? = some b) (hne : a ≠ b) : natLess x y = decide (a < b) := by
  have kx : k < x.length := by
    by_cases e : k < x.length
    · exact e
    · rw [List.getElem?_eq_none (by omega)] at hx; cases hx
  have ky : k < y.length := by
    by_cases e : k < y.length
    · exact e
    · rw [List.getElem?_eq_none (by omega)] at hy; cases hy
  rw [natLess_take k x y h (by omega) (by omega), List.drop_eq_getElem_cons kx, List.drop_eq_getElem_cons ky]
  rw [List.getElem?_eq_getElem kx] at hx
  rw [List.getElem?_eq_getElem ky] at hy
  rw [Option.some.inj hx, Option.some.inj hy]
  have : (a == b) = false := beq_eq_false_iff_ne.2 hne
  simp [natLess, this]
theorem natLess_end {x y : List Nat} {k : Nat} (h : x.take k = y.take k) (kx : k ≤ x.length) (ky : k ≤ y.length) (hk : ¬ (k < x.length ∧ k < y.length)) : natLess x y = decide (x.length < y.length) := by
  rw [natLess_take k x y h kx ky]
  by_cases e : k < y.length
  · have e2 : x.length = k := by omega
    rw [List.drop_eq_nil_of_le (by omega : x.length ≤ k), List.drop_eq_getElem_cons e, decide_eq_true (by omega)]
    rfl
  · rw [List.drop_eq_nil_of_le (by omega : y.length ≤ k), decide_eq_false (by omega)]
    cases x.drop k <;> rfl
def KeysPost (l : List Nat) (w : World) (e : Ending) (w' : World) : Prop := ∃ a c, e = .returned (.slice a l.length c) ∧ IsN w' a c l ∧ Below w.heap.size w w'
theorem take_map_succ (s : ByteArray) (k : Nat) (h : k < s.size) : (s.data.toList.take (k + 1)).map (fun b => vi (1114112 + b.toNat)) = (s.data.toList.take k).map (fun b => vi (1114112 + b.toNat)) ++ [vi (1114112 + (s.get! k).toNat)] := by
  have hk : k < s.data.toList.length := by simpa using h
  rw [List.take_succ_eq_append_getElem hk, List.map_append]
  have e : s.data.toList[k] = s.get! k := by
    have := get_at s k h
    rw [Nat.add_zero] at this
    rw [this]; rfl
  rw [e]; rfl
set_option maxHeartbeats 2000000 in
theorem keys_any (s : ByteArray) (w : World) (hs : s.size ≤ 1000000) :
    Calls Tryd.prog 29 #[.string s] w (KeysPost (keysL s.data.toList) w) := by
  cases hr : runes s.data.toList with
  | some rs =>
    have HK := Lib.hid (show keysL s.data.toList = rs by unfold keysL; rw [hr])
    have Hr := Lib.hid hr
    clear hr
    go_enter Tryd.func29, Tryd.ntmps29
    go_wp2_with fail
    refine (all_some _ _ hs rs Hr.out).mono ?_
    rintro e w1 ⟨a, c, rfl, hl, hb⟩
    have HL := Lib.hid hl
    clear hl
    go_wp2
    go_ret
    rw [HK.out]
    exact ⟨a, c, rfl, HL.out, hb⟩
  | none =>
    have HK := Lib.hid (show keysL s.data.toList = s.data.toList.map fun b => 1114112 + b.toNat by unfold keysL; rw [hr])
    have Hr := Lib.hid hr
    clear hr
    obtain ⟨i3, hi3, hz0, hz1, hz2⟩ := info_parts info3
    have hbt := get_bt s
    go_enter Tryd.func29, Tryd.ntmps29
    go_wp2_with fail
    refine (all_none _ _ hs Hr.out).mono ?_
    rintro e w1 ⟨rfl, b1⟩
    go_wp2
    go_loopw [5, 6] (fun v i w' => ∃ k : Nat, k ≤ s.size ∧ i = .int .i64 k ∧ w'.ownsRow w.heap.size 3 1 v k ((s.data.toList.take k).map fun b => vi (1114112 + b.toNat)) ∧ Below w.heap.size w w') (fun _ i _ => s.size - (RowKit.intOf i).toNat)
    case atStart => exact ⟨0, Nat.zero_le _, rfl, World.ownsRow_nil _ _ _ _, b1⟩
    case round =>
      obtain ⟨k, hk, rfl, how, hb⟩ := hrel
      have HO := Lib.hid how
      have hws := hb.size
      clear how
      by_cases hkl : k < s.size
      · have hg : bt s k = ((s.get! k).toNat : Int) := bt_get s k
        have hg1 : (s.get! k).toNat ≤ 255 := by have := UInt8.toNat_lt (s.get! k); omega
        have HT := Lib.hid (take_map_succ s k hkl)
        go_wp2_with (at_builtin; refine wpList_append_own _ rfl _ _ 41 rfl w.heap.size 3 i3 (.int .i64 0) 1 8 Tryd.underlying41 hi3 hz0 hz1 hz2 rfl (by decide) _ _ _ rfl (HO.out.alloc _) ⟨wr.heap.size, 0, none⟩ 1 1 [vi (1114112 + (s.get! k).toNat)] rfl rfl ?c1 ?c2 ?c3 ?c4 ?c5 ?_)
        case c1 =>
          intro j u hj
          match j, hj with
          | 0, hj => simp at hj; subst hj; simp [Addr.add, vi]
        case c2 => intro u hu; simp at hu; subst hu; rfl
        case c3 => unfold maxLen; omega
        case c4 => omega
        case c5 => simp; omega
        intro v' w2 hown' hgrow _
        have b2 := ((hb.alloc hws _).grown hgrow (by simp; omega) (fun r hr => (HO.out.lt r hr).1))
        have HO2 := Lib.hid hown'
        clear hown' hgrow
        go_wp2
        go_roundw
        case rel => exact ⟨k + 1, by omega, by go_num, by rw [HT.out, List.map_take]; exact HO2.out, b2⟩
        case measure => simp [RowKit.intOf]; omega
      · have e : k = s.size := by omega
        have hz : (s.data.toList.map fun b => 1114112 + b.toNat).length = k := by simp [e]
        have ho : (s.data.toList.take k).map (fun b => vi (1114112 + b.toNat)) = (s.data.toList.map fun b => 1114112 + b.toNat).map vi := by
          rw [List.take_of_length_le (by simp; omega), List.map_map]; rfl
        have how := HO.out
        rw [ho] at how
        obtain ⟨a, c, rfl, hl⟩ := own_isN how hz
        have HL := Lib.hid hl
        clear how ho hz e hl
        go_wp2
        go_ret
        rw [HK.out]
        exact ⟨a, c, rfl, HL.out, hb⟩
theorem keysL_len (l : List UInt8) : (keysL l).length ≤ l.length := by
  unfold keysL
  cases h : runes l with
  | none => simp
  | some rs => exact runes_length l rs h
set_option maxHeartbeats 4000000 in
theorem refLess_any (a b : ByteArray) (w : World) (ha : a.size ≤ 1000000) (hb : b.size ≤ 1000000) :
    Calls Tryd.prog 20 #[.string a, .string b] w fun e w' => e = .returned (.bool (natLess (keysL a.data.toList) (keysL b.data.toList))) ∧ Below w.heap.size w w' := by
  have la := keysL_len a.data.toList
  have lb := keysL_len b.data.toList
  have la2 : a.data.toList.length = a.size := by simp
  have lb2 : b.data.toList.length = b.size := by simp
  have KA := Lib.hid (fun w => keys_any a w ha)
  have KB := Lib.hid (fun w => keys_any b w hb)
  generalize keysL a.data.toList = x at *
  generalize keysL b.data.toList = y at *
  have hx : x.length ≤ 1000000 := by omega
  have hy : y.length ≤ 1000000 := by omega
  clear la lb la2 lb2
  go_enter Tryd.func20, Tryd.ntmps20
  go_wp2_with fail
  refine (KA.out _).mono ?_
  rintro e w1 ⟨xa, xc, rfl, hxl, b1⟩
  have HX1 := Lib.hid hxl
  clear hxl
  go_wp2_with fail
  refine (KB.out _).mono ?_
  rintro e w2 ⟨ya, yc, rfl, hyl, b2'⟩
  have b2 := b1.trans (b2'.mono b1.size)
  have HX := Lib.hid (HX1.out.below b2')
  have HY := Lib.hid hyl
  clear hyl b1 b2' HX1
  go_wp2
  go_loopw [7] (fun i w' => ∃ k : Nat, k ≤ x.length ∧ k ≤ y.length ∧ i = .int .i64 k ∧ x.take k = y.take k ∧ Below w.heap.size w w' ∧ IsN w' xa xc x ∧ IsN w' ya yc y) (fun i _ => x.length - (RowKit.intOf i).toNat)
  case atStart => exact ⟨0, Nat.zero_le _, Nat.zero_le _, rfl, rfl, b2, HX.out, HY.out⟩
  case round =>
    obtain ⟨k, hk1, hk2, rfl, ht, hbl, hxx, hyy⟩ := hrel
    have HT := Lib.hid ht
    have HXX := Lib.hid hxx
    have HYY := Lib.hid hyy
    clear ht hxx hyy
    by_cases hkl : k < x.length ∧ k < y.length
    · obtain ⟨g1', g2'⟩ := hkl
      obtain ⟨b1, o1, rfl, hlt1, hc1⟩ := HXX.out.2 (fun e => by rw [e] at g1'; simp at g1')
      obtain ⟨bb, o2, rfl, hlt2, hc2⟩ := HYY.out.2 (fun e => by rw [e] at g2'; simp at g2')
      obtain ⟨p, hp⟩ : ∃ p, x[k]? = some p := ⟨x[k], List.getElem?_eq_getElem g1'⟩
      obtain ⟨q, hq⟩ : ∃ q, y[k]? = some q := ⟨y[k], List.getElem?_eq_getElem g2'⟩
      have Hp := Lib.hid hp
      have Hq := Lib.hid hq
      have hcp : wr.cell? ⟨b1, o1 + k, none⟩ = some (.int .i64 (p : Nat)) := hc1 k p hp
      have hcq : wr.cell? ⟨bb, o2 + k, none⟩ = some (.int .i64 (q : Nat)) := hc2 k q hq
      have g1 : (k : Int) < (x.length : Int) := by omega
      have g2 : (k : Int) < (y.length : Int) := by omega
      clear hp hq hc1 hc2
      by_cases hpq : p = q
      · have hq1 : ((p : Int) != (q : Int)) = false := by rw [bne_eq_false_iff_eq]; omega
        have hq2 : ((p : Int) == (q : Int)) = true := beq_iff_eq.2 (by omega)
        have HPQ := Lib.hid hpq
        clear hpq
        go_wp2
        go_quiet (fail)
        go_wp2
        go_roundw
        case rel => exact ⟨k + 1, by omega, by omega, by go_num, by rw [List.take_add_one, List.take_add_one, HT.out, Hp.out, Hq.out, HPQ.out], below_drewN hbl nq, HXX.out.below (below_drewN (Below.refl _ _) nq), HYY.out.below (below_drewN (Below.refl _ _) nq)⟩
        case measure => simp [RowKit.intOf]; omega
      · have hq1 : ((p : Int) != (q : Int)) = true := by rw [bne_iff_ne]; omega
        have hq2 : ((p : Int) == (q : Int)) = false := beq_eq_false_iff_ne.2 (by omega)
        have HPQ := Lib.hid hpq
        clear hpq
        go_wp2
        go_quiet (fail)
        go_wp2
        go_quiet (fail)
        go_wp2
        go_ret
        refine ⟨ret_bool ?_, by first | exact below_drewN (below_drewN hbl _) _ | exact below_drewN hbl _⟩
        rw [natLess_part HT.out Hp.out Hq.out HPQ.out]
    · by_cases hkx : k < x.length
      · have hky : ¬ k < y.length := fun h => hkl ⟨hkx, h⟩
        clear hkl
        go_wp2
        go_ret
        exact ⟨ret_bool (natLess_end HT.out hk1 hk2 (fun h => hky h.2)).symm, hbl⟩
      · clear hkl
        go_wp2
        go_ret
        exact ⟨ret_bool (natLess_end HT.out hk1 hk2 (fun h => hkx h.1)).symm, hbl⟩
end Go.Proofs.YtjilmnadcbamaaaDoor
