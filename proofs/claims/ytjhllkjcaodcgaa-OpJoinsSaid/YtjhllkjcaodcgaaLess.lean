import Derived.Test.YtjhllkjcaodcgaaScan
namespace Go.Proofs.Ytjhllkjcaodcgaa
open Go.RowKit Go.Lib
def runesV : Option (List Nat) → Value
  | none => .tuple #[.int .i64 0, .bool false]
  | some rs => .tuple #[.int .i64 rs.length, .bool true]
theorem scan_none (s : ByteArray) (w : World) (hs : s.size ≤ 1000000) (hr : runes s.data.toList = none) :
    Calls Try.prog 85 #[.string s] w fun e w' => e = .returned (.tuple #[.int .i64 0, .bool false, .bool false]) ∧ Below w.heap.size w w' := by
  refine (scan_any s w hs).mono ?_
  rintro e w' ⟨rfl, hb⟩
  exact ⟨by rw [hr]; rfl, hb⟩
theorem scan_some (s : ByteArray) (w : World) (hs : s.size ≤ 1000000) (rs : List Nat) (g : Bool) (hr : runes s.data.toList = some rs) (hg : rs.all goodR = g) :
    Calls Try.prog 85 #[.string s] w fun e w' => e = .returned (.tuple #[.int .i64 rs.length, .bool true, .bool g]) ∧ Below w.heap.size w w' := by
  refine (scan_any s w hs).mono ?_
  rintro e w' ⟨rfl, hb⟩
  exact ⟨by rw [hr, ← hg]; rfl, hb⟩
theorem scan_none_far (s : ByteArray) (w : World) (hs : s.size ≤ 9223372036854775807) (hr : runes s.data.toList = none) :
    Calls Try.prog 85 #[.string s] w fun e w' => e = .returned (.tuple #[.int .i64 0, .bool false, .bool false]) ∧ Below w.heap.size w w' := by
  refine (scan_far s w hs).mono ?_
  rintro e w' ⟨rfl, hb⟩
  exact ⟨by rw [hr]; rfl, hb⟩
theorem scan_some_far (s : ByteArray) (w : World) (hs : s.size ≤ 9223372036854775807) (rs : List Nat) (g : Bool) (hr : runes s.data.toList = some rs) (hg : rs.all goodR = g) :
    Calls Try.prog 85 #[.string s] w fun e w' => e = .returned (.tuple #[.int .i64 rs.length, .bool true, .bool g]) ∧ Below w.heap.size w w' := by
  refine (scan_far s w hs).mono ?_
  rintro e w' ⟨rfl, hb⟩
  exact ⟨by rw [hr, ← hg]; rfl, hb⟩
theorem ret_bool {a b : Bool} (h : a = b) : Ending.returned (.bool a) = .returned (.bool b) := by rw [h]
theorem chk_some (l : List UInt8) (rs : List Nat) (hr : runes l = some rs) (hg : rs.all goodR = true) : chk l = (decide (1 ≤ (rs.length : Int)) && (decide ((rs.length : Int) ≤ 20) && (!(l == [46]) && !(l == [46, 46])))) := by
  have e1 : decide (1 ≤ rs.length) = decide (1 ≤ (rs.length : Int)) := decide_eq_decide.2 (by omega)
  have e2 : decide (rs.length ≤ 20) = decide ((rs.length : Int) ≤ 20) := decide_eq_decide.2 (by omega)
  simp only [chk, hr, hg, Bool.true_and, e1, e2]
set_option maxHeartbeats 1000000 in
theorem check_far (s : ByteArray) (w : World) (hs : s.size ≤ 9223372036854775807) :
    Calls Try.prog 82 #[.string s] w fun e w' => e = .returned (.bool (chk s.data.toList)) ∧ Below w.heap.size w w' := by
  cases hr : runes s.data.toList with
  | none =>
    have Hr := Lib.hid hr
    clear hr
    go_enter Try.func82, Try.ntmps82
    go_wp2_with (go_at_call 85; refine (scan_none_far _ _ hs Hr.out).mono ?_; rintro e w' ⟨rfl, hb⟩)
    go_ret
    exact ⟨by simp [chk, Hr.out], hb⟩
  | some rs =>
    have Hr := Lib.hid hr
    clear hr
    cases hg : rs.all goodR with
    | false =>
      have Hg := Lib.hid hg
      clear hg
      go_enter Try.func82, Try.ntmps82
      go_wp2_with (go_at_call 85; refine (scan_some_far _ _ hs rs _ Hr.out Hg.out).mono ?_; rintro e w' ⟨rfl, hb⟩)
      go_ret
      exact ⟨by simp only [chk, Hr.out, Hg.out]; rfl, hb⟩
    | true =>
      have Hg := Lib.hid hg
      clear hg
      go_enter Try.func82, Try.ntmps82
      go_wp2_with (go_at_call 85; refine (scan_some_far _ _ hs rs _ Hr.out Hg.out).mono ?_; rintro e w' ⟨rfl, hb⟩)
      all_goals (go_ret; refine ⟨ret_bool ?_, hb⟩; rw [chk_some _ rs Hr.out Hg.out, ← ByteArray.toList_eq])
      · rename_i h1 h2 h3
        rw [h3]; simp
      · rename_i h1 h2 h3
        rw [decide_eq_true h1, decide_eq_true h2]; simp
      · rename_i h1 h2
        rw [decide_eq_false (by omega : ¬ ((rs.length : Int) ≤ 20))]; simp
      · rename_i h1
        rw [decide_eq_false (by omega : ¬ (1 ≤ (rs.length : Int)))]; simp
theorem check_any (s : ByteArray) (w : World) (hs : s.size ≤ 1000000) :
    Calls Try.prog 82 #[.string s] w fun e w' => e = .returned (.bool (chk s.data.toList)) ∧ Below w.heap.size w w' := check_far s w (by omega)
end Go.Proofs.Ytjhllkjcaodcgaa
