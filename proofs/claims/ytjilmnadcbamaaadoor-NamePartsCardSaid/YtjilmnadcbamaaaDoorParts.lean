import Derived.Test.YtjilmnadcbamaaaDoorCommon
namespace Go.Proofs.YtjilmnadcbamaaaDoor
open Go.RowKit Go.Lib
set_option maxHeartbeats 4000000 in
theorem parts_off1 (a b : ByteArray) (w : World) (nb nz : Nat) (xb xz : Bool) (hm : Hid (HasMax w)) (h0 : 0 < w.heap.size) (ha : a.size ≤ 1000) (hb : b.size ≤ 1000)
    (A : Hid (∀ w, Calls Tryd.prog 11 #[.string a] w fun e w' => e = .returned (.tuple #[.int .i64 (0 : Nat), .bool false]) ∧ Below w.heap.size w w')) (B : Hid (∀ w, Calls Tryd.prog 11 #[.string b] w fun e w' => e = .returned (.tuple #[.int .i64 (nb : Nat), .bool xb]) ∧ Below w.heap.size w w')) (Z : Hid (∀ w, Calls Tryd.prog 11 #[.string (a ++ b)] w fun e w' => e = .returned (.tuple #[.int .i64 (nz : Nat), .bool xz]) ∧ Below w.heap.size w w')) (SP : Hid (∀ w, HasMax w → Calls Tryd.prog 13 #[.string (⟨#[47]⟩ ++ a ++ ⟨#[47]⟩ ++ b)] w fun e w' => (∃ v en, e = .returned (.tuple #[v, .int .i64 en])) ∧ Below w.heap.size w w')) (KA : Hid (∀ w, Calls Tryd.prog 17 #[.string a] w fun e w' => e = .returned (.bool false) ∧ Below w.heap.size w w')) (KC : Hid (∀ w, Calls Tryd.prog 17 #[.string (a ++ ⟨#[47]⟩ ++ b)] w fun e w' => e = .returned (.bool false) ∧ Below w.heap.size w w')) :
    Calls Tryd.prog 7 #[.string a, .string b] w fun e w' => e = .returned (.bool true) ∧ Below w.heap.size w w' := by
  go_enter Tryd.func7, Tryd.ntmps7
  go_wp2_with (first | (go_at_call 9; refine (awake_any _ hm.out).mono ?_; rintro e w' ⟨rfl, hw⟩) | (go_at_call 11; (with_reducible refine (from_below (A.out _) ‹_›).mono ?_); rintro e w' ⟨rfl, hw⟩) | (go_at_call 11; (with_reducible refine (from_below (B.out _) ‹_›).mono ?_); rintro e w' ⟨rfl, hw⟩) | (go_at_call 11; (with_reducible refine (from_below (Z.out _) ‹_›).mono ?_); rintro e w' ⟨rfl, hw⟩) | (go_at_call 13; (with_reducible refine (from_below (SP.out _ (hm.out.below ‹_› h0)) ‹_›).mono ?_); rintro e w' ⟨⟨v, en, rfl⟩, hw⟩) | (go_at_call 17; (with_reducible refine (from_below (KA.out _) ‹_›).mono ?_); rintro e w' ⟨rfl, hw⟩) | (go_at_call 17; (with_reducible refine (from_below (KC.out _) ‹_›).mono ?_); rintro e w' ⟨rfl, hw⟩))
  all_goals (go_ret; exact ⟨rfl, by assumption⟩)

set_option maxHeartbeats 4000000 in
theorem parts_off2 (a b : ByteArray) (w : World) (na nb nz : Nat) (xz ca : Bool) (hm : Hid (HasMax w)) (h0 : 0 < w.heap.size) (ha : a.size ≤ 1000) (hb : b.size ≤ 1000)
    (A : Hid (∀ w, Calls Tryd.prog 11 #[.string a] w fun e w' => e = .returned (.tuple #[.int .i64 (na : Nat), .bool true]) ∧ Below w.heap.size w w')) (B : Hid (∀ w, Calls Tryd.prog 11 #[.string b] w fun e w' => e = .returned (.tuple #[.int .i64 (nb : Nat), .bool false]) ∧ Below w.heap.size w w')) (Z : Hid (∀ w, Calls Tryd.prog 11 #[.string (a ++ b)] w fun e w' => e = .returned (.tuple #[.int .i64 (nz : Nat), .bool xz]) ∧ Below w.heap.size w w')) (SP : Hid (∀ w, HasMax w → Calls Tryd.prog 13 #[.string (⟨#[47]⟩ ++ a ++ ⟨#[47]⟩ ++ b)] w fun e w' => (∃ v en, e = .returned (.tuple #[v, .int .i64 en])) ∧ Below w.heap.size w w')) (KA : Hid (∀ w, Calls Tryd.prog 17 #[.string a] w fun e w' => e = .returned (.bool ca) ∧ Below w.heap.size w w')) (KB : Hid (∀ w, Calls Tryd.prog 17 #[.string b] w fun e w' => e = .returned (.bool false) ∧ Below w.heap.size w w')) (KC : Hid (∀ w, Calls Tryd.prog 17 #[.string (a ++ ⟨#[47]⟩ ++ b)] w fun e w' => e = .returned (.bool false) ∧ Below w.heap.size w w')) :
    Calls Tryd.prog 7 #[.string a, .string b] w fun e w' => e = .returned (.bool true) ∧ Below w.heap.size w w' := by
  cases ca
  all_goals
    go_enter Tryd.func7, Tryd.ntmps7
    go_wp2_with (first | (go_at_call 9; refine (awake_any _ hm.out).mono ?_; rintro e w' ⟨rfl, hw⟩) | (go_at_call 11; (with_reducible refine (from_below (A.out _) ‹_›).mono ?_); rintro e w' ⟨rfl, hw⟩) | (go_at_call 11; (with_reducible refine (from_below (B.out _) ‹_›).mono ?_); rintro e w' ⟨rfl, hw⟩) | (go_at_call 11; (with_reducible refine (from_below (Z.out _) ‹_›).mono ?_); rintro e w' ⟨rfl, hw⟩) | (go_at_call 13; (with_reducible refine (from_below (SP.out _ (hm.out.below ‹_› h0)) ‹_›).mono ?_); rintro e w' ⟨⟨v, en, rfl⟩, hw⟩) | (go_at_call 17; (with_reducible refine (from_below (KA.out _) ‹_›).mono ?_); rintro e w' ⟨rfl, hw⟩) | (go_at_call 17; (with_reducible refine (from_below (KB.out _) ‹_›).mono ?_); rintro e w' ⟨rfl, hw⟩) | (go_at_call 17; (with_reducible refine (from_below (KC.out _) ‹_›).mono ?_); rintro e w' ⟨rfl, hw⟩))
    all_goals (go_ret; exact ⟨rfl, by assumption⟩)

set_option maxHeartbeats 4000000 in
theorem parts_off3 (a b : ByteArray) (w : World) (na nb : Nat) (ca cb : Bool) (hm : Hid (HasMax w)) (h0 : 0 < w.heap.size) (ha : a.size ≤ 1000) (hb : b.size ≤ 1000) (hna : na ≤ 1000) (hnb : nb ≤ 1000) (hoff : (ca && cb) = false)
    (A : Hid (∀ w, Calls Tryd.prog 11 #[.string a] w fun e w' => e = .returned (.tuple #[.int .i64 (na : Nat), .bool true]) ∧ Below w.heap.size w w')) (B : Hid (∀ w, Calls Tryd.prog 11 #[.string b] w fun e w' => e = .returned (.tuple #[.int .i64 (nb : Nat), .bool true]) ∧ Below w.heap.size w w')) (Z : Hid (∀ w, Calls Tryd.prog 11 #[.string (a ++ b)] w fun e w' => e = .returned (.tuple #[.int .i64 ((na + nb) : Nat), .bool true]) ∧ Below w.heap.size w w')) (SP : Hid (∀ w, HasMax w → Calls Tryd.prog 13 #[.string (⟨#[47]⟩ ++ a ++ ⟨#[47]⟩ ++ b)] w fun e w' => (∃ v en, e = .returned (.tuple #[v, .int .i64 en])) ∧ Below w.heap.size w w')) (KA : Hid (∀ w, Calls Tryd.prog 17 #[.string a] w fun e w' => e = .returned (.bool ca) ∧ Below w.heap.size w w')) (KB : Hid (∀ w, Calls Tryd.prog 17 #[.string b] w fun e w' => e = .returned (.bool cb) ∧ Below w.heap.size w w')) (KC : Hid (∀ w, Calls Tryd.prog 17 #[.string (a ++ ⟨#[47]⟩ ++ b)] w fun e w' => e = .returned (.bool false) ∧ Below w.heap.size w w')) :
    Calls Tryd.prog 7 #[.string a, .string b] w fun e w' => e = .returned (.bool true) ∧ Below w.heap.size w w' := by
  cases ca
  · clear hoff
    go_enter Tryd.func7, Tryd.ntmps7
    go_wp2_with (first | (go_at_call 9; refine (awake_any _ hm.out).mono ?_; rintro e w' ⟨rfl, hw⟩) | (go_at_call 11; (with_reducible refine (from_below (A.out _) ‹_›).mono ?_); rintro e w' ⟨rfl, hw⟩) | (go_at_call 11; (with_reducible refine (from_below (B.out _) ‹_›).mono ?_); rintro e w' ⟨rfl, hw⟩) | (go_at_call 11; (with_reducible refine (from_below (Z.out _) ‹_›).mono ?_); rintro e w' ⟨rfl, hw⟩) | (go_at_call 13; (with_reducible refine (from_below (SP.out _ (hm.out.below ‹_› h0)) ‹_›).mono ?_); rintro e w' ⟨⟨v, en, rfl⟩, hw⟩) | (go_at_call 17; (with_reducible refine (from_below (KA.out _) ‹_›).mono ?_); rintro e w' ⟨rfl, hw⟩) | (go_at_call 17; (with_reducible refine (from_below (KB.out _) ‹_›).mono ?_); rintro e w' ⟨rfl, hw⟩) | (go_at_call 17; (with_reducible refine (from_below (KC.out _) ‹_›).mono ?_); rintro e w' ⟨rfl, hw⟩))
    all_goals (go_ret; exact ⟨rfl, by assumption⟩)
  · obtain rfl : cb = false := by simpa using hoff
    clear hoff
    go_enter Tryd.func7, Tryd.ntmps7
    go_wp2_with (first | (go_at_call 9; refine (awake_any _ hm.out).mono ?_; rintro e w' ⟨rfl, hw⟩) | (go_at_call 11; (with_reducible refine (from_below (A.out _) ‹_›).mono ?_); rintro e w' ⟨rfl, hw⟩) | (go_at_call 11; (with_reducible refine (from_below (B.out _) ‹_›).mono ?_); rintro e w' ⟨rfl, hw⟩) | (go_at_call 11; (with_reducible refine (from_below (Z.out _) ‹_›).mono ?_); rintro e w' ⟨rfl, hw⟩) | (go_at_call 13; (with_reducible refine (from_below (SP.out _ (hm.out.below ‹_› h0)) ‹_›).mono ?_); rintro e w' ⟨⟨v, en, rfl⟩, hw⟩) | (go_at_call 17; (with_reducible refine (from_below (KA.out _) ‹_›).mono ?_); rintro e w' ⟨rfl, hw⟩) | (go_at_call 17; (with_reducible refine (from_below (KB.out _) ‹_›).mono ?_); rintro e w' ⟨rfl, hw⟩) | (go_at_call 17; (with_reducible refine (from_below (KC.out _) ‹_›).mono ?_); rintro e w' ⟨rfl, hw⟩))
    all_goals (go_ret; exact ⟨rfl, by assumption⟩)

set_option maxHeartbeats 4000000 in
theorem parts_both (a b : ByteArray) (w : World) (na nb : Nat) (hm : Hid (HasMax w)) (h0 : 0 < w.heap.size) (ha : a.size ≤ 1000) (hb : b.size ≤ 1000) (hna : na ≤ 1000) (hnb : nb ≤ 1000)
    (A : Hid (∀ w, Calls Tryd.prog 11 #[.string a] w fun e w' => e = .returned (.tuple #[.int .i64 (na : Nat), .bool true]) ∧ Below w.heap.size w w')) (B : Hid (∀ w, Calls Tryd.prog 11 #[.string b] w fun e w' => e = .returned (.tuple #[.int .i64 (nb : Nat), .bool true]) ∧ Below w.heap.size w w')) (Z : Hid (∀ w, Calls Tryd.prog 11 #[.string (a ++ b)] w fun e w' => e = .returned (.tuple #[.int .i64 ((na + nb) : Nat), .bool true]) ∧ Below w.heap.size w w'))
    (SP : Hid (∀ w, HasMax w → Calls Tryd.prog 13 #[.string (⟨#[47]⟩ ++ a ++ ⟨#[47]⟩ ++ b)] w fun e w' => ∃ c, e = .returned (.tuple #[.slice (some ⟨w.heap.size, 0, none⟩) 2 c, .int .i64 0]) ∧ IsL w' (some ⟨w.heap.size, 0, none⟩) c [a, b] ∧ Below w.heap.size w w'))
    (KA : Hid (∀ w, Calls Tryd.prog 17 #[.string a] w fun e w' => e = .returned (.bool true) ∧ Below w.heap.size w w')) (KB : Hid (∀ w, Calls Tryd.prog 17 #[.string b] w fun e w' => e = .returned (.bool true) ∧ Below w.heap.size w w')) (KC : Hid (∀ w, Calls Tryd.prog 17 #[.string (a ++ ⟨#[47]⟩ ++ b)] w fun e w' => e = .returned (.bool false) ∧ Below w.heap.size w w')) :
    Calls Tryd.prog 7 #[.string a, .string b] w fun e w' => e = .returned (.bool true) ∧ Below w.heap.size w w' := by
  go_enter Tryd.func7, Tryd.ntmps7
  go_wp2_with fail
  refine (awake_any _ hm.out).mono ?_
  rintro e w1 ⟨rfl, b1⟩
  go_wp2_with fail
  refine (from_below (A.out _) b1).mono ?_
  rintro e w2 ⟨rfl, b2⟩
  go_wp2_with fail
  refine (from_below (B.out _) b2).mono ?_
  rintro e w3 ⟨rfl, b3⟩
  go_wp2_with fail
  refine (from_below (Z.out _) b3).mono ?_
  rintro e w4 ⟨rfl, b4⟩
  go_wp2_with fail
  refine (SP.out _ (hm.out.below b4 h0)).mono ?_
  rintro e w5 ⟨c, rfl, hl5, b5'⟩
  have b5 := b4.trans (b5'.mono b4.size)
  have HL5 := Lib.hid hl5
  clear b1 b2 b3 hl5 b5'
  go_wp2_with fail
  refine (KA.out _).mono ?_
  rintro e w6 ⟨rfl, b6'⟩
  have b6 := b5.trans (b6'.mono b5.size)
  have HL6 := Lib.hid (HL5.out.below b6')
  clear b4 b5 b6' HL5
  go_wp2_with fail
  refine (KB.out _).mono ?_
  rintro e w7 ⟨rfl, b7'⟩
  have b7 := b6.trans (b7'.mono b6.size)
  have HL7 := Lib.hid (HL6.out.below b7')
  clear b6 b7' HL6
  go_wp2_with fail
  refine (KC.out _).mono ?_
  rintro e w8 ⟨rfl, b8'⟩
  have b8 := b7.trans (b8'.mono b7.size)
  have HL8 := Lib.hid (HL7.out.below b8')
  clear b7 b8' HL7
  go_wp2_with fail
  refine (same_new _ c [a, b] [a, b] _ _ HL8.out (by simp)).mono ?_
  rintro e w9 ⟨rfl, b9'⟩
  have b9 := b8.trans (b9'.mono b8.size)
  rw [sameB_refl]
  clear b8 b9'
  go_wp2
  go_ret
  exact ⟨rfl, b9⟩
theorem path_data (a b : ByteArray) : ((⟨#[47]⟩ : ByteArray) ++ a ++ ⟨#[47]⟩ ++ b).data.toList = 47 :: (a.data.toList ++ 47 :: b.data.toList) := by
  simp [ByteArray.data_append]
theorem mid_data (a b : ByteArray) : (a ++ (⟨#[47]⟩ : ByteArray) ++ b).data.toList = a.data.toList ++ 47 :: b.data.toList := by
  simp [ByteArray.data_append]
set_option maxHeartbeats 2000000 in
theorem parts_walk (a b : ByteArray) (w : World) (hm : HasMax w) (ha : a.size ≤ maxLen) (hb : b.size ≤ maxLen) :
    Calls Tryd.prog 7 #[.string a, .string b] w fun e w' => e = .returned (.bool true) ∧ Below w.heap.size w w' := by
  have h0 := hm.pos
  have HM := Lib.hid hm
  clear hm
  by_cases h1 : a.size ≤ 1000 ∧ b.size ≤ 1000
  · obtain ⟨ha1, hb1⟩ := h1
    have A := fun w => runes_t a w (by omega)
    have B := fun w => runes_t b w (by omega)
    have sz : (a ++ b).size = a.size + b.size := by simp
    have sp : ((⟨#[47]⟩ : ByteArray) ++ a ++ ⟨#[47]⟩ ++ b).size = a.size + b.size + 2 := by rw [ByteArray.size_append, ByteArray.size_append, ByteArray.size_append]; show 1 + a.size + 1 + b.size = _; omega
    have sm : (a ++ (⟨#[47]⟩ : ByteArray) ++ b).size = a.size + b.size + 1 := by rw [ByteArray.size_append, ByteArray.size_append]; show a.size + 1 + b.size = _; omega
    have Z := fun w => runes_t (a ++ b) w (by omega)
    have KA := fun w => check_any a w (by omega)
    have KB := fun w => check_any b w (by omega)
    have KC := fun w => check_any (a ++ ⟨#[47]⟩ ++ b) w (by omega)
    have SP := fun w hw => split_any (⟨#[47]⟩ ++ a ++ ⟨#[47]⟩ ++ b) w (by omega) hw
    rw [mid_data, chk_mark _ (by simp)] at KC
    have na := cnt_le a.data.toList
    have nb := cnt_le b.data.toList
    have la : a.data.toList.length = a.size := by simp
    have lb : b.data.toList.length = b.size := by simp
    have zd : (a ++ b).data.toList = a.data.toList ++ b.data.toList := by simp [ByteArray.data_append]
    cases xa : (runes a.data.toList).isSome with
    | false =>
      have ca : chk a.data.toList = false := by
        cases e : chk a.data.toList with
        | false => rfl
        | true => rw [chk_runes e] at xa; cases xa
      rw [xa, cnt_none xa] at A
      rw [ca] at KA
      exact parts_off1 a b w _ _ _ _ HM h0 ha1 hb1 (Lib.hid A) (Lib.hid B) (Lib.hid Z) (Lib.hid SP) (Lib.hid KA) (Lib.hid KC)
    | true =>
      rw [xa] at A
      cases xb : (runes b.data.toList).isSome with
      | false =>
        have cb : chk b.data.toList = false := by
          cases e : chk b.data.toList with
          | false => rfl
          | true => rw [chk_runes e] at xb; cases xb
        rw [xb] at B
        rw [cb] at KB
        exact parts_off2 a b w _ _ _ _ _ HM h0 ha1 hb1 (Lib.hid A) (Lib.hid B) (Lib.hid Z) (Lib.hid SP) (Lib.hid KA) (Lib.hid KB) (Lib.hid KC)
      | true =>
        have hz := cnt_append xa xb
        rw [xb] at B
        rw [zd, hz.1, hz.2] at Z
        cases hc : (chk a.data.toList && chk b.data.toList) with
        | false => exact parts_off3 a b w _ _ _ _ HM h0 ha1 hb1 (by omega) (by omega) hc (Lib.hid A) (Lib.hid B) (Lib.hid Z) (Lib.hid SP) (Lib.hid KA) (Lib.hid KB) (Lib.hid KC)
        | true =>
          simp only [Bool.and_eq_true] at hc
          have hp := pieces_two a b hc.1 hc.2
          have SY := fun w hw => split_yes (⟨#[47]⟩ ++ a ++ ⟨#[47]⟩ ++ b) w (by omega) hw _ (path_data a b) (by simp) (by rw [hp]; simp [namesB, hc.1, hc.2])
          rw [hp] at SY
          rw [hc.1] at KA
          rw [hc.2] at KB
          exact parts_both a b w _ _ HM h0 ha1 hb1 (by omega) (by omega) (Lib.hid A) (Lib.hid B) (Lib.hid Z) (Lib.hid SY) (Lib.hid KA) (Lib.hid KB) (Lib.hid KC)
  · go_enter Tryd.func7, Tryd.ntmps7
    unfold maxLen at ha hb
    go_wp2_with (first | (go_at_call 9; refine (awake_any _ HM.out).mono ?_; rintro e w' ⟨rfl, hw⟩) | (go_at_call 11; exfalso; omega))
    all_goals (go_ret; exact ⟨rfl, by assumption⟩)
end Go.Proofs.YtjilmnadcbamaaaDoor
