import Derived.Test.YtjilmnadcbamaaaDoorScan
namespace Go.Proofs.YtjilmnadcbamaaaDoor
open Go.RowKit Go.Lib
def runesV : Option (List Nat) → Value
  | none => .tuple #[.int .i64 0, .bool false]
  | some rs => .tuple #[.int .i64 rs.length, .bool true]
theorem scan_none (s : ByteArray) (w : World) (hs : s.size ≤ 1000000) (hr : runes s.data.toList = none) :
    Calls Tryd.prog 22 #[.string s] w fun e w' => e = .returned (.tuple #[.int .i64 0, .bool false, .bool false]) ∧ Below w.heap.size w w' := by
  refine (scan_any s w hs).mono ?_
  rintro e w' ⟨rfl, hb⟩
  exact ⟨by rw [hr]; rfl, hb⟩
theorem scan_some (s : ByteArray) (w : World) (hs : s.size ≤ 1000000) (rs : List Nat) (g : Bool) (hr : runes s.data.toList = some rs) (hg : rs.all goodR = g) :
    Calls Tryd.prog 22 #[.string s] w fun e w' => e = .returned (.tuple #[.int .i64 rs.length, .bool true, .bool g]) ∧ Below w.heap.size w w' := by
  refine (scan_any s w hs).mono ?_
  rintro e w' ⟨rfl, hb⟩
  exact ⟨by rw [hr, ← hg]; rfl, hb⟩
set_option maxHeartbeats 1000000 in
theorem runes_any (s : ByteArray) (w : World) (hs : s.size ≤ 1000000) :
    Calls Tryd.prog 11 #[.string s] w fun e w' => e = .returned (runesV (runes s.data.toList)) ∧ Below w.heap.size w w' := by
  cases hr : runes s.data.toList with
  | none =>
    have Hr := Lib.hid hr
    clear hr
    go_enter Tryd.func11, Tryd.ntmps11
    go_wp2_with (go_at_call 22; refine (scan_none _ _ hs Hr.out).mono ?_; rintro e w' ⟨rfl, hb⟩)
    go_ret2
    exact ⟨rfl, hb⟩
  | some rs =>
    have Hr := Lib.hid hr
    clear hr
    go_enter Tryd.func11, Tryd.ntmps11
    go_wp2_with (go_at_call 22; refine (scan_some _ _ hs rs _ Hr.out rfl).mono ?_; rintro e w' ⟨rfl, hb⟩)
    go_ret2
    exact ⟨rfl, hb⟩
theorem ret_bool {a b : Bool} (h : a = b) : Ending.returned (.bool a) = .returned (.bool b) := by rw [h]
theorem chk_some (l : List UInt8) (rs : List Nat) (hr : runes l = some rs) (hg : rs.all goodR = true) : chk l = (decide (1 ≤ (rs.length : Int)) && (decide ((rs.length : Int) ≤ 20) && (!(l == [46]) && !(l == [46, 46])))) := by
  have e1 : decide (1 ≤ rs.length) = decide (1 ≤ (rs.length : Int)) := decide_eq_decide.2 (by omega)
  have e2 : decide (rs.length ≤ 20) = decide ((rs.length : Int) ≤ 20) := decide_eq_decide.2 (by omega)
  simp only [chk, hr, hg, Bool.true_and, e1, e2]
set_option maxHeartbeats 1000000 in
theorem check_any (s : ByteArray) (w : World) (hs : s.size ≤ 1000000) :
    Calls Tryd.prog 17 #[.string s] w fun e w' => e = .returned (.bool (chk s.data.toList)) ∧ Below w.heap.size w w' := by
  cases hr : runes s.data.toList with
  | none =>
    have Hr := Lib.hid hr
    clear hr
    go_enter Tryd.func17, Tryd.ntmps17
    go_wp2_with (go_at_call 22; refine (scan_none _ _ hs Hr.out).mono ?_; rintro e w' ⟨rfl, hb⟩)
    go_ret
    exact ⟨by simp [chk, Hr.out], hb⟩
  | some rs =>
    have Hr := Lib.hid hr
    clear hr
    cases hg : rs.all goodR with
    | false =>
      have Hg := Lib.hid hg
      clear hg
      go_enter Tryd.func17, Tryd.ntmps17
      go_wp2_with (go_at_call 22; refine (scan_some _ _ hs rs _ Hr.out Hg.out).mono ?_; rintro e w' ⟨rfl, hb⟩)
      go_ret
      exact ⟨by simp only [chk, Hr.out, Hg.out]; rfl, hb⟩
    | true =>
      have Hg := Lib.hid hg
      clear hg
      go_enter Tryd.func17, Tryd.ntmps17
      go_wp2_with (go_at_call 22; refine (scan_some _ _ hs rs _ Hr.out Hg.out).mono ?_; rintro e w' ⟨rfl, hb⟩)
      all_goals (go_ret; refine ⟨ret_bool ?_, hb⟩; rw [chk_some _ rs Hr.out Hg.out, ← ByteArray.toList_eq])
      · rename_i h1 h2 h3
        rw [h3]; simp
      · rename_i h1 h2 h3
        rw [decide_eq_true h1, decide_eq_true h2]; simp
      · rename_i h1 h2
        rw [decide_eq_false (by omega : ¬ ((rs.length : Int) ≤ 20))]; simp
      · rename_i h1
        rw [decide_eq_false (by omega : ¬ (1 ≤ (rs.length : Int)))]; simp
set_option maxHeartbeats 1000000 in
theorem less_any (a b : ByteArray) (w : World) (ha : a.size ≤ 1000000) (hb : b.size ≤ 1000000) :
    Calls Tryd.prog 19 #[.string a, .string b] w fun e w' => e = .returned (.bool (lessB a.data.toList b.data.toList)) ∧ Below w.heap.size w w' := by
  cases hra : runes a.data.toList with
  | none =>
    cases hrb : runes b.data.toList with
    | none =>
      have Ha := Lib.hid hra
      have Hb := Lib.hid hrb
      clear hra hrb
      go_enter Tryd.func19, Tryd.ntmps19
      go_wp2_with fail
      refine (runes_any _ _ ha).mono ?_
      rintro e w1 ⟨rfl, hb1⟩
      rw [Ha.out]
      unfold runesV
      go_wp2_with fail
      refine (runes_any _ _ hb).mono ?_
      rintro e w2 ⟨rfl, hb2⟩
      rw [Hb.out]
      unfold runesV
      go_wp2
      go_ret
      exact ⟨ret_bool (by simp [lessB, Ha.out, Hb.out, ByteArray.toList_eq]), hb1.trans (hb2.mono hb1.size)⟩
    | some rb =>
      have Ha := Lib.hid hra
      have Hb := Lib.hid hrb
      clear hra hrb
      go_enter Tryd.func19, Tryd.ntmps19
      go_wp2_with fail
      refine (runes_any _ _ ha).mono ?_
      rintro e w1 ⟨rfl, hb1⟩
      rw [Ha.out]
      unfold runesV
      go_wp2_with fail
      refine (runes_any _ _ hb).mono ?_
      rintro e w2 ⟨rfl, hb2⟩
      rw [Hb.out]
      unfold runesV
      go_wp2
      go_ret
      exact ⟨ret_bool (by simp [lessB, Ha.out, Hb.out]), hb1.trans (hb2.mono hb1.size)⟩
  | some ra =>
    cases hrb : runes b.data.toList with
    | none =>
      have Ha := Lib.hid hra
      have Hb := Lib.hid hrb
      clear hra hrb
      go_enter Tryd.func19, Tryd.ntmps19
      go_wp2_with fail
      refine (runes_any _ _ ha).mono ?_
      rintro e w1 ⟨rfl, hb1⟩
      rw [Ha.out]
      unfold runesV
      go_wp2_with fail
      refine (runes_any _ _ hb).mono ?_
      rintro e w2 ⟨rfl, hb2⟩
      rw [Hb.out]
      unfold runesV
      go_wp2
      go_ret
      exact ⟨ret_bool (by simp [lessB, Ha.out, Hb.out]), hb1.trans (hb2.mono hb1.size)⟩
    | some rb =>
      have Ha := Lib.hid hra
      have Hb := Lib.hid hrb
      clear hra hrb
      go_enter Tryd.func19, Tryd.ntmps19
      go_wp2_with fail
      refine (runes_any _ _ ha).mono ?_
      rintro e w1 ⟨rfl, hb1⟩
      rw [Ha.out]
      unfold runesV
      go_wp2_with fail
      refine (runes_any _ _ hb).mono ?_
      rintro e w2 ⟨rfl, hb2⟩
      rw [Hb.out]
      unfold runesV
      go_wp2
      go_ret
      exact ⟨ret_bool (by simp [lessB, Ha.out, Hb.out, ByteArray.toList_eq]), hb1.trans (hb2.mono hb1.size)⟩
end Go.Proofs.YtjilmnadcbamaaaDoor
