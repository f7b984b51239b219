import Derived.Test.YtjilmnadcbamaaaDoorOrder
namespace Go.Proofs.YtjilmnadcbamaaaDoor
open Go.RowKit Go.Lib
theorem less_ss {a b : List UInt8} (h : (runes a).isSome = (runes b).isSome) : lessB a b = Op.bytesLess a b := by unfold lessB; rw [if_pos h]
set_option maxHeartbeats 2000000 in
theorem bytes_walk (a b : ByteArray) (w : World) (hm : HasMax w) (ha : a.size ≤ maxLen) (hb : b.size ≤ maxLen) :
    Calls Tryd.prog 6 #[.string a, .string b] w fun e w' => e = .returned (.bool true) ∧ Below w.heap.size w w' := by
  unfold maxLen at ha hb
  have HM := Lib.hid hm
  clear hm
  by_cases h1 : a.size ≤ 1000 ∧ b.size ≤ 1000
  · obtain ⟨ha1, hb1⟩ := h1
    cases hra : runes a.data.toList with
    | none =>
      have Ha := Lib.hid hra
      cases hrb : runes b.data.toList with
      | none =>
        have Hb := Lib.hid hrb
        have Hl := Lib.hid (less_ss (a := a.data.toList) (b := b.data.toList) (by rw [hra, hrb]))
        rw [← ByteArray.toList_eq, ← ByteArray.toList_eq] at Hl
        clear hra hrb
        go_enter Tryd.func6, Tryd.ntmps6
        go_wp2_with (first | (go_at_call 9; refine (awake_any _ HM.out).mono ?_; rintro e w' ⟨rfl, hw⟩) | (go_at_call 11; refine (from_below (runes_any _ _ (by omega)) ‹_›).mono ?_; rintro e w' ⟨rfl, hw⟩; (first | rw [Ha.out] | rw [Hb.out]); unfold runesV) | (go_at_call 19; refine (from_below (less_any _ _ _ (by omega) (by omega)) ‹_›).mono ?_; rintro e w' ⟨rfl, hw⟩; rw [← ByteArray.toList_eq, ← ByteArray.toList_eq, Hl.out]))
        all_goals (go_ret; exact ⟨rfl, by assumption⟩)
      | some rb =>
        have Hb := Lib.hid hrb
        clear hra hrb
        go_enter Tryd.func6, Tryd.ntmps6
        go_wp2_with (first | (go_at_call 9; refine (awake_any _ HM.out).mono ?_; rintro e w' ⟨rfl, hw⟩) | (go_at_call 11; refine (from_below (runes_any _ _ (by omega)) ‹_›).mono ?_; rintro e w' ⟨rfl, hw⟩; (first | rw [Ha.out] | rw [Hb.out]); unfold runesV))
        all_goals (go_ret; exact ⟨rfl, by assumption⟩)
    | some ra =>
      have Ha := Lib.hid hra
      cases hrb : runes b.data.toList with
      | none =>
        have Hb := Lib.hid hrb
        have Hl := Lib.hid (show lessB a.data.toList b.data.toList = true by simp [lessB, hra, hrb])
        have Hk := Lib.hid (show lessB b.data.toList a.data.toList = false by simp [lessB, hra, hrb])
        clear hra hrb
        go_enter Tryd.func6, Tryd.ntmps6
        go_wp2_with (first | (go_at_call 9; refine (awake_any _ HM.out).mono ?_; rintro e w' ⟨rfl, hw⟩) | (go_at_call 11; refine (from_below (runes_any _ _ (by omega)) ‹_›).mono ?_; rintro e w' ⟨rfl, hw⟩; (first | rw [Ha.out] | rw [Hb.out]); unfold runesV) | (go_at_call 19; refine (from_below (less_any _ _ _ (by omega) (by omega)) ‹_›).mono ?_; rintro e w' ⟨rfl, hw⟩; (first | rw [Hl.out] | rw [Hk.out])))
        all_goals (go_ret; exact ⟨rfl, by assumption⟩)
      | some rb =>
        have Hb := Lib.hid hrb
        have Hl := Lib.hid (less_ss (a := a.data.toList) (b := b.data.toList) (by rw [hra, hrb]; rfl))
        rw [← ByteArray.toList_eq, ← ByteArray.toList_eq] at Hl
        clear hra hrb
        go_enter Tryd.func6, Tryd.ntmps6
        go_wp2_with (first | (go_at_call 9; refine (awake_any _ HM.out).mono ?_; rintro e w' ⟨rfl, hw⟩) | (go_at_call 11; refine (from_below (runes_any _ _ (by omega)) ‹_›).mono ?_; rintro e w' ⟨rfl, hw⟩; (first | rw [Ha.out] | rw [Hb.out]); unfold runesV) | (go_at_call 19; refine (from_below (less_any _ _ _ (by omega) (by omega)) ‹_›).mono ?_; rintro e w' ⟨rfl, hw⟩; rw [← ByteArray.toList_eq, ← ByteArray.toList_eq, Hl.out]))
        all_goals (go_ret; exact ⟨rfl, by assumption⟩)
  · go_enter Tryd.func6, Tryd.ntmps6
    go_wp2_with (first | (go_at_call 9; refine (awake_any _ HM.out).mono ?_; rintro e w' ⟨rfl, hw⟩) | (go_at_call 11; exfalso; omega))
    all_goals (go_ret; exact ⟨rfl, by assumption⟩)
end Go.Proofs.YtjilmnadcbamaaaDoor
