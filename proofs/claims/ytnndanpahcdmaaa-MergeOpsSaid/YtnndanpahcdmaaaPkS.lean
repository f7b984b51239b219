/- Several texts of this seat in one, in build order. -/
import Derived.Test.YtnndanpahcdmaaaChecked
import Derived.Test.YtnndanpahcdmaaaShelf
import Derived.Test.YtnndanpahcdmaaaPlain
import Derived.WalkKit
import Derived.WalkLawsBesides
import Derived.WalkMore
import Derived.Lib.Hide
import Derived.Lib.IndexBytes
import Derived.Lib.TrimUEq
import Derived.Laws.RangeString
import Derived.Laws.RangeAny
import Derived.LoopTactic
import Derived.Test.YtnndanpahcdmaaaPlainTwo
import Derived.OwnWalk
import Derived.PlainAid
import Derived.Handy
import Derived.Deep.QuietTactic
import Derived.BigQuiet
namespace Go.Proofs.Ytnndanpahcdmaaa
open Go.RowKit Go.Lib
def scanV : Option (List Nat) → Value
  | none => .tuple #[.int .i64 0, .bool false, .bool false]
  | some rs => .tuple #[.int .i64 rs.length, .bool true, .bool (rs.all goodR)]
/-- The runes rs have been met up to the place pos. -/
def SoFar (s : ByteArray) (pos : Nat) (rs : List Nat) : Prop := runes s.data.toList = (runes (s.data.toList.drop pos)).map (rs ++ ·)
theorem sofar_start (s : ByteArray) : SoFar s 0 [] := by simp [SoFar]
theorem drop_ne (s : ByteArray) (pos : Nat) (h : pos < s.size) : s.data.toList.drop pos ≠ [] := by
  intro e
  have := congrArg List.length e
  simp at this
  have h2 : s.data.size = s.size := rfl
  omega
theorem sofar_bad {s : ByteArray} {pos : Nat} {rs : List Nat} (h : SoFar s pos rs) (hlt : pos < s.size) (hb : BadHead (s.data.toList.drop pos)) : runes s.data.toList = none := by
  rw [h, runes_bad _ (drop_ne s pos hlt) hb]; rfl
theorem sofar_step {s : ByteArray} {pos : Nat} {rs : List Nat} (h : SoFar s pos rs) (hlt : pos < s.size) (hb : ¬ BadHead (s.data.toList.drop pos)) :
    SoFar s (pos + (Utf8.decode s pos).2) (rs ++ [(Utf8.decode s pos).1]) := by
  unfold SoFar at h ⊢
  rw [h, runes_step _ (drop_ne s pos hlt) hb, decodeL_drop, List.drop_drop]
  cases runes (List.drop (pos + (Utf8.decode s pos).2) s.data.toList) <;> simp
theorem sofar_end {s : ByteArray} {pos : Nat} {rs : List Nat} (h : SoFar s pos rs) (hge : ¬ pos < s.size) : runes s.data.toList = some rs := by
  have e : s.data.toList.drop pos = [] := List.drop_eq_nil_of_le (by have h2 : s.data.size = s.size := rfl; simp; omega)
  rw [h, e, runes_nil]; simp
theorem width_le (s : ByteArray) (pos : Nat) (hlt : pos < s.size) : pos + (Utf8.decode s pos).2 ≤ s.size := by
  have := decodeL_le _ (drop_ne s pos hlt)
  rw [decodeL_drop] at this
  simp at this
  have h2 : s.data.size = s.size := rfl
  omega
theorem bad_iff (s : ByteArray) (pos : Nat) : BadHead (s.data.toList.drop pos) ↔ (Utf8.decode s pos).1 = 65533 ∧ (Utf8.decode s pos).2 = 1 := by
  unfold BadHead; rw [decodeL_drop]
theorem prefix_at (s : ByteArray) (pos : Nat) (hlt : pos < s.size) (hr : (Utf8.decode s pos).1 = 65533) : hasPrefix (s.extract pos s.size).data.toList [239, 191, 189] = !decide (BadHead (s.data.toList.drop pos)) := by
  rw [Lib.extract_to_end]
  exact repl _ (drop_ne s pos hlt) (by rw [decodeL_drop]; exact hr)
theorem all_snoc (rs : List Nat) (r : Nat) (b : Bool) (h : goodR r = b) : (rs ++ [r]).all goodR = (rs.all goodR && b) := by simp [h]
theorem good_no {r : Nat} (h : r < 32 ∨ r = 47 ∨ r = 127) : goodR r = false := by
  rcases h with h | h | h
  · simp [goodR, h]
  · subst h; rfl
  · subst h; rfl
theorem good_yes {r : Nat} (h1 : 32 ≤ r) (h2 : r ≠ 47) (h3 : r ≠ 127) : goodR r = true := by
  simp [goodR, h2, h3]; omega
theorem num_snoc (rs : List Nat) (r : Nat) : Value.int .i64 ((rs.length : Int) + 1) = Value.int .i64 ((rs ++ [r]).length : Nat) := by simp
theorem pl_no (rs : List Nat) (r : Nat) (h : goodR r = false) : Value.bool false = Value.bool ((rs ++ [r]).all goodR) := by rw [all_snoc rs r _ h]; simp
theorem pl_yes (rs : List Nat) (r : Nat) (h : goodR r = true) : Value.bool (rs.all goodR) = Value.bool ((rs ++ [r]).all goodR) := by rw [all_snoc rs r _ h]; simp
set_option maxRecDepth 100000 in
set_option maxHeartbeats 1000000 in
theorem scan_far (s : ByteArray) (w : World) (hs : s.size ≤ 9223372036854775807) :
    Calls Try.prog 109 #[.string s] w fun e w' => e = .returned (scanV (runes s.data.toList)) ∧ Below w.heap.size w w' := by
  go_enter Try.func109, Try.ntmps109
  go_wp2
  go_step3
  go_wp2
  go_step3
  go_wp2
  go_loopw [2, 3, 4] (fun n ok pl w' => ∃ (pos : Nat) (rs : List Nat), w' = w.iter s pos ∧ pos ≤ s.size ∧ rs.length ≤ pos ∧ SoFar s pos rs ∧ n = .int .i64 rs.length ∧ ok = .bool true ∧ pl = .bool (rs.all goodR)) (fun _ _ _ w' => s.size - w'.iterPos w.heap.size)
  case atStart => exact ⟨0, [], rfl, Nat.zero_le _, Nat.le_refl _, sofar_start s, rfl, rfl, rfl⟩
  case round =>
    obtain ⟨pos, rs, rfl, hp, hl, hso, rfl, rfl, rfl⟩ := hrel
    have Hso := Lib.hid hso
    clear hso
    by_cases hlt : pos < s.size
    · have hnx : ∀ ty, (Instr.next (.pointer (some ⟨w.heap.size, 0, none⟩)) true ty).run Try.prog (w.iter s pos) = _ := fun ty => run_next_any w s pos ty hlt
      have hwd := Lib.width_pos s pos
      have hle := width_le s pos hlt
      by_cases hb : (Utf8.decode s pos).1 = 65533 ∧ (Utf8.decode s pos).2 = 1
      · have Hn := Lib.hid (sofar_bad Hso.out hlt ((bad_iff s pos).2 hb))
        have Hp := Lib.hid (prefix_at s pos hlt hb.1)
        rw [decide_eq_true ((bad_iff s pos).2 hb)] at Hp
        have hr := hb.1
        clear hb
        go_wp2_with (go_at_call 110; refine (Try.strings_HasPrefix _ _ _).mono ?_; rintro e w' ⟨rfl, rfl⟩; rw [Hp.out])
        rw [Exit.noGoto_ret]
        go_ret3
        exact ⟨by rw [Hn.out]; rfl, (Below.refl _ _).alloc (Nat.le_refl _) _⟩
      · have Hs := Lib.hid (sofar_step Hso.out hlt (fun h => hb ((bad_iff s pos).1 h)))
        by_cases hr : (Utf8.decode s pos).1 = 65533
        · have Hp := Lib.hid (prefix_at s pos hlt hr)
          rw [decide_eq_false (fun h => hb ((bad_iff s pos).1 h))] at Hp
          clear hb
          go_wp2_with (go_at_call 110; refine (Try.strings_HasPrefix _ _ _).mono ?_; rintro e w' ⟨rfl, rfl⟩; rw [Hp.out])
          go_roundw
          case rel => exact ⟨_, _, rfl, hle, by simp only [List.length_append, List.length_singleton]; omega, Hs.out, num_snoc _ _, rfl, pl_yes _ _ (good_yes (by omega) (by omega) (by omega))⟩
          case measure => simp; omega
        · clear hb
          by_cases h1 : (Utf8.decode s pos).1 < 32
          · go_wp2
            go_roundw
            case rel => exact ⟨_, _, rfl, hle, by simp only [List.length_append, List.length_singleton]; omega, Hs.out, num_snoc _ _, rfl, pl_no _ _ (good_no (.inl h1))⟩
            case measure => simp; omega
          · by_cases h2 : (Utf8.decode s pos).1 = 47
            · have H2 := Lib.hid h2
              have b2 : (((Utf8.decode s pos).1 : Int) == 47) = true := beq_iff_eq.2 (by omega)
              clear h2
              go_wp2
              go_roundw
              case rel => exact ⟨_, _, rfl, hle, by simp only [List.length_append, List.length_singleton]; omega, Hs.out, num_snoc _ _, rfl, pl_no _ _ (good_no (.inr (.inl H2.out)))⟩
              case measure => simp; omega
            · have b2 : (((Utf8.decode s pos).1 : Int) == 47) = false := beq_eq_false_iff_ne.2 (by omega)
              by_cases h3 : (Utf8.decode s pos).1 = 127
              · have H3 := Lib.hid h3
                have b3 : (((Utf8.decode s pos).1 : Int) == 127) = true := beq_iff_eq.2 (by omega)
                clear h3
                go_wp2
                go_roundw
                case rel => exact ⟨_, _, rfl, hle, by simp only [List.length_append, List.length_singleton]; omega, Hs.out, num_snoc _ _, rfl, pl_no _ _ (good_no (.inr (.inr H3.out)))⟩
                case measure => simp; omega
              · have b3 : (((Utf8.decode s pos).1 : Int) == 127) = false := beq_eq_false_iff_ne.2 (by omega)
                go_wp2
                go_roundw
                case rel => exact ⟨_, _, rfl, hle, by simp only [List.length_append, List.length_singleton]; omega, Hs.out, num_snoc _ _, rfl, pl_yes _ _ (good_yes (by omega) h2 h3)⟩
                case measure => simp; omega
    · have hnx : ∀ ty, (Instr.next (.pointer (some ⟨w.heap.size, 0, none⟩)) true ty).run Try.prog (w.iter s pos) = _ := fun ty => run_next_end w s pos ty hlt
      have Hn := Lib.hid (sofar_end Hso.out hlt)
      go_wp2
      rw [Exit.noGoto_ret]
      go_ret3
      exact ⟨by rw [Hn.out]; rfl, (Below.refl _ _).alloc (Nat.le_refl _) _⟩
theorem scan_any (s : ByteArray) (w : World) (hs : s.size ≤ 1000000) :
    Calls Try.prog 109 #[.string s] w fun e w' => e = .returned (scanV (runes s.data.toList)) ∧ Below w.heap.size w w' := scan_far s w (by omega)
end Go.Proofs.Ytnndanpahcdmaaa
namespace Go.Proofs.Ytnndanpahcdmaaa
open Go.RowKit Go.Lib
def runesV : Option (List Nat) → Value
  | none => .tuple #[.int .i64 0, .bool false]
  | some rs => .tuple #[.int .i64 rs.length, .bool true]
theorem scan_none (s : ByteArray) (w : World) (hs : s.size ≤ 1000000) (hr : runes s.data.toList = none) :
    Calls Try.prog 109 #[.string s] w fun e w' => e = .returned (.tuple #[.int .i64 0, .bool false, .bool false]) ∧ Below w.heap.size w w' := by
  refine (scan_any s w hs).mono ?_
  rintro e w' ⟨rfl, hb⟩
  exact ⟨by rw [hr]; rfl, hb⟩
theorem scan_some (s : ByteArray) (w : World) (hs : s.size ≤ 1000000) (rs : List Nat) (g : Bool) (hr : runes s.data.toList = some rs) (hg : rs.all goodR = g) :
    Calls Try.prog 109 #[.string s] w fun e w' => e = .returned (.tuple #[.int .i64 rs.length, .bool true, .bool g]) ∧ Below w.heap.size w w' := by
  refine (scan_any s w hs).mono ?_
  rintro e w' ⟨rfl, hb⟩
  exact ⟨by rw [hr, ← hg]; rfl, hb⟩
theorem scan_none_far (s : ByteArray) (w : World) (hs : s.size ≤ 9223372036854775807) (hr : runes s.data.toList = none) :
    Calls Try.prog 109 #[.string s] w fun e w' => e = .returned (.tuple #[.int .i64 0, .bool false, .bool false]) ∧ Below w.heap.size w w' := by
  refine (scan_far s w hs).mono ?_
  rintro e w' ⟨rfl, hb⟩
  exact ⟨by rw [hr]; rfl, hb⟩
theorem scan_some_far (s : ByteArray) (w : World) (hs : s.size ≤ 9223372036854775807) (rs : List Nat) (g : Bool) (hr : runes s.data.toList = some rs) (hg : rs.all goodR = g) :
    Calls Try.prog 109 #[.string s] w fun e w' => e = .returned (.tuple #[.int .i64 rs.length, .bool true, .bool g]) ∧ Below w.heap.size w w' := by
  refine (scan_far s w hs).mono ?_
  rintro e w' ⟨rfl, hb⟩
  exact ⟨by rw [hr, ← hg]; rfl, hb⟩
theorem ret_bool {a b : Bool} (h : a = b) : Ending.returned (.bool a) = .returned (.bool b) := by rw [h]
theorem chk_some (l : List UInt8) (rs : List Nat) (hr : runes l = some rs) (hg : rs.all goodR = true) : chk l = (decide (1 ≤ (rs.length : Int)) && (decide ((rs.length : Int) ≤ 20) && (!(l == [46]) && !(l == [46, 46])))) := by
  have e1 : decide (1 ≤ rs.length) = decide (1 ≤ (rs.length : Int)) := decide_eq_decide.2 (by omega)
  have e2 : decide (rs.length ≤ 20) = decide ((rs.length : Int) ≤ 20) := decide_eq_decide.2 (by omega)
  simp only [chk, hr, hg, Bool.true_and, e1, e2]
set_option maxRecDepth 100000 in
set_option maxHeartbeats 1000000 in
theorem check_far (s : ByteArray) (w : World) (hs : s.size ≤ 9223372036854775807) :
    Calls Try.prog 108 #[.string s] w fun e w' => e = .returned (.bool (chk s.data.toList)) ∧ Below w.heap.size w w' := by
  cases hr : runes s.data.toList with
  | none =>
    have Hr := Lib.hid hr
    clear hr
    go_enter Try.func108, Try.ntmps108
    go_wp2_with (go_at_call 109; refine (scan_none_far _ _ hs Hr.out).mono ?_; rintro e w' ⟨rfl, hb⟩)
    go_ret
    exact ⟨by simp [chk, Hr.out], hb⟩
  | some rs =>
    have Hr := Lib.hid hr
    clear hr
    cases hg : rs.all goodR with
    | false =>
      have Hg := Lib.hid hg
      clear hg
      go_enter Try.func108, Try.ntmps108
      go_wp2_with (go_at_call 109; refine (scan_some_far _ _ hs rs _ Hr.out Hg.out).mono ?_; rintro e w' ⟨rfl, hb⟩)
      go_ret
      exact ⟨by simp only [chk, Hr.out, Hg.out]; rfl, hb⟩
    | true =>
      have Hg := Lib.hid hg
      clear hg
      go_enter Try.func108, Try.ntmps108
      go_wp2_with (go_at_call 109; refine (scan_some_far _ _ hs rs _ Hr.out Hg.out).mono ?_; rintro e w' ⟨rfl, hb⟩)
      all_goals (go_ret; refine ⟨ret_bool ?_, hb⟩; rw [chk_some _ rs Hr.out Hg.out, ← ByteArray.toList_eq])
      · rename_i h1 h2 h3
        rw [h3]; simp
      · rename_i h1 h2 h3
        rw [decide_eq_true h1, decide_eq_true h2]; simp
      · rename_i h1 h2
        rw [decide_eq_false (by omega : ¬ ((rs.length : Int) ≤ 20))]; simp
      · rename_i h1
        rw [decide_eq_false (by omega : ¬ (1 ≤ (rs.length : Int)))]; simp
theorem check_any (s : ByteArray) (w : World) (hs : s.size ≤ 1000000) :
    Calls Try.prog 108 #[.string s] w fun e w' => e = .returned (.bool (chk s.data.toList)) ∧ Below w.heap.size w w' := check_far s w (by omega)
end Go.Proofs.Ytnndanpahcdmaaa
namespace Go.Proofs.Ytnndanpahcdmaaa
open Go.RowKit Go.Lib Go.PlainAid
/-- What the document's answer takes for a rune at a place, and how many bytes: none is 0, 0. -/
def takeE (n b0 b1 b2 b3 : Nat) : Nat × Nat :=
  if b0 < 128 then (b0, 1)
  else if 194 ≤ b0 ∧ b0 < 224 then
    (if 2 ≤ n ∧ 128 ≤ b1 ∧ b1 < 192 then (b0 % 64 * 64 + b1 % 64, 2) else (0, 0))
  else if 224 ≤ b0 ∧ b0 < 240 then
    (if 3 ≤ n ∧ (128 ≤ b1 ∧ b1 < 192) ∧ (128 ≤ b2 ∧ b2 < 192) ∧ 2048 ≤ (b0 % 16 * 64 + b1 % 64) * 64 + b2 % 64 ∧ ((b0 % 16 * 64 + b1 % 64) * 64 + b2 % 64 < 55296 ∨ 57343 < (b0 % 16 * 64 + b1 % 64) * 64 + b2 % 64) then ((b0 % 16 * 64 + b1 % 64) * 64 + b2 % 64, 3) else (0, 0))
  else if 240 ≤ b0 ∧ b0 < 245 then
    (if 4 ≤ n ∧ (128 ≤ b1 ∧ b1 < 192) ∧ (128 ≤ b2 ∧ b2 < 192) ∧ (128 ≤ b3 ∧ b3 < 192) ∧ 65536 ≤ ((b0 % 8 * 64 + b1 % 64) * 64 + b2 % 64) * 64 + b3 % 64 ∧ ((b0 % 8 * 64 + b1 % 64) * 64 + b2 % 64) * 64 + b3 % 64 ≤ 1114111 then (((b0 % 8 * 64 + b1 % 64) * 64 + b2 % 64) * 64 + b3 % 64, 4) else (0, 0))
  else (0, 0)
theorem ret_pair {a b c d : Int} (h1 : a = c) (h2 : b = d) : Ending.returned (.tuple #[.int .i64 a, .int .i64 b]) = .returned (.tuple #[.int .i64 c, .int .i64 d]) := by rw [h1, h2]
set_option maxHeartbeats 4000000 in
set_option maxRecDepth 100000 in
theorem take_1 (s : ByteArray) (p : Nat) (b0 b1 b2 b3 : Nat) (w : World) (hs : s.size ≤ 1000000) (hat : p < s.size)
    (h0 : bt s p = b0) (hc : b0 < 194 ∨ 245 ≤ b0) (k0 : b0 ≤ 255) :
    Calls Try.prog 79 #[.string s, .int .i64 p] w fun e w' => e = .returned (.tuple #[.int .i64 (takeE (s.size - p) b0 b1 b2 b3).1, .int .i64 (takeE (s.size - p) b0 b1 b2 b3).2]) ∧ w = w' := by
  have hb := get_bt s
  go_enter Try.func79, Try.ntmps79
  go_wp2
  all_goals (go_ret2; refine ⟨?_, rfl⟩; unfold takeE; (repeat first | rw [if_pos (by omega)] | rw [if_neg (by omega)]); exact ret_pair (by omega) (by omega))
set_option maxHeartbeats 4000000 in
set_option maxRecDepth 100000 in
theorem take_2 (s : ByteArray) (p : Nat) (b0 b1 b2 b3 : Nat) (w : World) (hs : s.size ≤ 1000000) (hat : p < s.size)
    (h0 : bt s p = b0) (h1 : bt s (p + 1) = b1) (k1 : b1 ≤ 255) (hc1 : 194 ≤ b0) (hc2 : b0 < 224) :
    Calls Try.prog 79 #[.string s, .int .i64 p] w fun e w' => e = .returned (.tuple #[.int .i64 (takeE (s.size - p) b0 b1 b2 b3).1, .int .i64 (takeE (s.size - p) b0 b1 b2 b3).2]) ∧ w = w' := by
  have hb := get_bt s
  go_enter Try.func79, Try.ntmps79
  by_cases hr : p + 2 ≤ s.size
  · go_wp2
    go_rounds 2
    all_goals (go_ret2; refine ⟨?_, rfl⟩; unfold takeE; (repeat first | rw [if_pos (by omega)] | rw [if_neg (by omega)]); exact ret_pair (by omega) (by omega))
  · go_wp2
    all_goals (go_ret2; refine ⟨?_, rfl⟩; unfold takeE; (repeat first | rw [if_pos (by omega)] | rw [if_neg (by omega)]); exact ret_pair (by omega) (by omega))
set_option maxHeartbeats 8000000 in
set_option maxRecDepth 100000 in
theorem take_3 (s : ByteArray) (p : Nat) (b0 b1 b2 b3 : Nat) (w : World) (hs : s.size ≤ 1000000) (hat : p < s.size)
    (h0 : bt s p = b0) (h1 : bt s (p + 1) = b1) (h2 : bt s (p + 2) = b2) (k1 : b1 ≤ 255) (k2 : b2 ≤ 255) (hc1 : 224 ≤ b0) (hc2 : b0 < 240) :
    Calls Try.prog 79 #[.string s, .int .i64 p] w fun e w' => e = .returned (.tuple #[.int .i64 (takeE (s.size - p) b0 b1 b2 b3).1, .int .i64 (takeE (s.size - p) b0 b1 b2 b3).2]) ∧ w = w' := by
  have hb := get_bt s
  go_enter Try.func79, Try.ntmps79
  by_cases hr : p + 3 ≤ s.size
  · go_wp2
    go_rounds 3
    all_goals (go_ret2; refine ⟨?_, rfl⟩; unfold takeE; (repeat first | rw [if_pos (by omega)] | rw [if_neg (by omega)]); exact ret_pair (by omega) (by omega))
  · go_wp2
    all_goals (go_ret2; refine ⟨?_, rfl⟩; unfold takeE; (repeat first | rw [if_pos (by omega)] | rw [if_neg (by omega)]); exact ret_pair (by omega) (by omega))
set_option maxHeartbeats 8000000 in
set_option maxRecDepth 100000 in
theorem take_4 (s : ByteArray) (p : Nat) (b0 b1 b2 b3 : Nat) (w : World) (hs : s.size ≤ 1000000) (hat : p < s.size)
    (h0 : bt s p = b0) (h1 : bt s (p + 1) = b1) (h2 : bt s (p + 2) = b2) (h3 : bt s (p + 3) = b3) (k1 : b1 ≤ 255) (k2 : b2 ≤ 255) (k3 : b3 ≤ 255) (hc1 : 240 ≤ b0) (hc2 : b0 < 245) :
    Calls Try.prog 79 #[.string s, .int .i64 p] w fun e w' => e = .returned (.tuple #[.int .i64 (takeE (s.size - p) b0 b1 b2 b3).1, .int .i64 (takeE (s.size - p) b0 b1 b2 b3).2]) ∧ w = w' := by
  have hb := get_bt s
  go_enter Try.func79, Try.ntmps79
  by_cases hr : p + 4 ≤ s.size
  · go_wp2
    go_rounds 4
    all_goals (go_ret2; refine ⟨?_, rfl⟩; unfold takeE; (repeat first | rw [if_pos (by omega)] | rw [if_neg (by omega)]); exact ret_pair (by omega) (by omega))
  · go_wp2
    all_goals (go_ret2; refine ⟨?_, rfl⟩; unfold takeE; (repeat first | rw [if_pos (by omega)] | rw [if_neg (by omega)]); exact ret_pair (by omega) (by omega))
end Go.Proofs.Ytnndanpahcdmaaa
namespace Go.Proofs.Ytnndanpahcdmaaa
open Go.RowKit Go.Lib Go.PlainAid
theorem dn_off (n b0 b1 b2 b3 : Nat) (hc : 128 ≤ b0 ∧ b0 < 194 ∨ 245 ≤ b0 ∧ b0 < 256) : decodeN n b0 b1 b2 b3 = (65533, 1) := by
  unfold decodeN
  repeat' split
  all_goals first | rfl | (exfalso; omega)
theorem dn_2 (n b0 b1 b2 b3 : Nat) (k1 : b1 ≤ 255) (h1 : 194 ≤ b0) (h2 : b0 < 224) : decodeN n b0 b1 b2 b3 = if 2 ≤ n ∧ 128 ≤ b1 ∧ b1 < 192 then (b0 % 64 * 64 + b1 % 64, 2) else (65533, 1) := by
  unfold decodeN
  repeat' split
  all_goals first | rfl | (exfalso; omega) | (apply Prod.ext <;> simp only <;> omega)
theorem dn_3 (n b0 b1 b2 b3 : Nat) (k1 : b1 ≤ 255) (k2 : b2 ≤ 255) (h1 : 224 ≤ b0) (h2 : b0 < 240) : decodeN n b0 b1 b2 b3 =
    if 3 ≤ n ∧ (128 ≤ b1 ∧ b1 < 192) ∧ (128 ≤ b2 ∧ b2 < 192) ∧ 2048 ≤ (b0 % 16 * 64 + b1 % 64) * 64 + b2 % 64 ∧ ((b0 % 16 * 64 + b1 % 64) * 64 + b2 % 64 < 55296 ∨ 57343 < (b0 % 16 * 64 + b1 % 64) * 64 + b2 % 64) then ((b0 % 16 * 64 + b1 % 64) * 64 + b2 % 64, 3) else (65533, 1) := by
  unfold decodeN
  repeat' split
  all_goals first | rfl | (exfalso; omega) | (apply Prod.ext <;> simp only <;> omega)
theorem dn_4 (n b0 b1 b2 b3 : Nat) (k1 : b1 ≤ 255) (k2 : b2 ≤ 255) (k3 : b3 ≤ 255) (h1 : 240 ≤ b0) (h2 : b0 < 245) : decodeN n b0 b1 b2 b3 =
    if 4 ≤ n ∧ (128 ≤ b1 ∧ b1 < 192) ∧ (128 ≤ b2 ∧ b2 < 192) ∧ (128 ≤ b3 ∧ b3 < 192) ∧ 65536 ≤ ((b0 % 8 * 64 + b1 % 64) * 64 + b2 % 64) * 64 + b3 % 64 ∧ ((b0 % 8 * 64 + b1 % 64) * 64 + b2 % 64) * 64 + b3 % 64 ≤ 1114111 then (((b0 % 8 * 64 + b1 % 64) * 64 + b2 % 64) * 64 + b3 % 64, 4) else (65533, 1) := by
  unfold decodeN
  repeat' split
  all_goals first | rfl | (exfalso; omega) | (apply Prod.ext <;> simp only <;> omega)
theorem pick_if (c : Prop) [Decidable c] (r k : Nat) (hk : k ≠ 1) : (if (if c then (r, k) else (65533, 1)) = ((65533, 1) : Nat × Nat) then ((0, 0) : Nat × Nat) else (if c then (r, k) else (65533, 1))) = if c then (r, k) else (0, 0) := by
  by_cases h : c
  · rw [if_pos h, if_pos h, if_neg (by intro e; exact hk (congrArg Prod.snd e))]
  · rw [if_neg h, if_neg h, if_pos rfl]
/-- It is the runes' decoder, that tells 0 bytes where there is none. -/
theorem takeE_dec (n b0 b1 b2 b3 : Nat) (k0 : b0 ≤ 255) (k1 : b1 ≤ 255) (k2 : b2 ≤ 255) (k3 : b3 ≤ 255) :
    takeE n b0 b1 b2 b3 = if decodeN n b0 b1 b2 b3 = (65533, 1) then (0, 0) else decodeN n b0 b1 b2 b3 := by
  by_cases c0 : b0 < 128
  · have e : decodeN n b0 b1 b2 b3 = (b0, 1) := by unfold decodeN; rw [if_pos c0]
    rw [e, if_neg (by intro h; have := congrArg Prod.fst h; simp at this; omega)]
    unfold takeE; rw [if_pos c0]
  by_cases c2 : 194 ≤ b0 ∧ b0 < 224
  · rw [dn_2 n b0 b1 b2 b3 k1 c2.1 c2.2, pick_if _ _ _ (by omega)]
    unfold takeE; rw [if_neg c0, if_pos c2]
  by_cases c3 : 224 ≤ b0 ∧ b0 < 240
  · rw [dn_3 n b0 b1 b2 b3 k1 k2 c3.1 c3.2, pick_if _ _ _ (by omega)]
    unfold takeE; rw [if_neg c0, if_neg c2, if_pos c3]
  by_cases c4 : 240 ≤ b0 ∧ b0 < 245
  · rw [dn_4 n b0 b1 b2 b3 k1 k2 k3 c4.1 c4.2, pick_if _ _ _ (by omega)]
    unfold takeE; rw [if_neg c0, if_neg c2, if_neg c3, if_pos c4]
  · rw [dn_off n b0 b1 b2 b3 (by omega), if_pos rfl]
    unfold takeE; rw [if_neg c0, if_neg c2, if_neg c3, if_neg c4]
theorem bt_get (s : ByteArray) (k : Nat) : bt s k = ((s.get! k).toNat : Int) := by
  unfold bt
  by_cases h : k < s.size
  · rw [dif_pos h]; have := get_at s k h; rw [Nat.add_zero] at this; rw [this]
  · rw [dif_neg h]
    have : s.get! k = 0 := by
      have h2 : ¬ k < s.data.size := h
      show s.data[k]! = 0
      rw [getElem!_neg s.data k h2]; rfl
    rw [this]; rfl
/-- What is taken at a place of a text. -/
def tk (l : List UInt8) : Nat × Nat := if BadHead l then (0, 0) else decodeL l
theorem take_any (s : ByteArray) (p : Nat) (w : World) (hs : s.size ≤ 1000000) (hat : p < s.size) :
    Calls Try.prog 79 #[.string s, .int .i64 p] w fun e w' => e = .returned (.tuple #[.int .i64 (tk (s.data.toList.drop p)).1, .int .i64 (tk (s.data.toList.drop p)).2]) ∧ w = w' := by
  have k0 : (s.get! p).toNat ≤ 255 := by have := UInt8.toNat_lt (s.get! p); omega
  have k1 : (s.get! (p + 1)).toNat ≤ 255 := by have := UInt8.toNat_lt (s.get! (p + 1)); omega
  have k2 : (s.get! (p + 2)).toNat ≤ 255 := by have := UInt8.toNat_lt (s.get! (p + 2)); omega
  have k3 : (s.get! (p + 3)).toNat ≤ 255 := by have := UInt8.toNat_lt (s.get! (p + 3)); omega
  have e : tk (s.data.toList.drop p) = takeE (s.size - p) (s.get! p).toNat (s.get! (p + 1)).toNat (s.get! (p + 2)).toNat (s.get! (p + 3)).toNat := by
    rw [takeE_dec _ _ _ _ _ k0 k1 k2 k3, ← decode_at]
    unfold tk
    by_cases hb : BadHead (s.data.toList.drop p)
    · rw [if_pos hb, if_pos (Prod.ext ((bad_iff s p).1 hb).1 ((bad_iff s p).1 hb).2)]
    · rw [if_neg hb, if_neg (fun h => hb ((bad_iff s p).2 ⟨congrArg Prod.fst h, congrArg Prod.snd h⟩)), decodeL_drop]
  rw [e]
  by_cases c0 : (s.get! p).toNat < 194 ∨ 245 ≤ (s.get! p).toNat
  · exact take_1 s p _ _ _ _ w hs hat (bt_get s p) c0 k0
  by_cases c2 : (s.get! p).toNat < 224
  · exact take_2 s p _ _ _ _ w hs hat (bt_get s p) (bt_get s _) k1 (by omega) c2
  by_cases c3 : (s.get! p).toNat < 240
  · exact take_3 s p _ _ _ _ w hs hat (bt_get s p) (bt_get s _) (bt_get s _) k1 k2 (by omega) c3
  · exact take_4 s p _ _ _ _ w hs hat (bt_get s p) (bt_get s _) (bt_get s _) (bt_get s _) k1 k2 k3 (by omega) (by omega)
end Go.Proofs.Ytnndanpahcdmaaa
namespace Go.Proofs.Ytnndanpahcdmaaa
open Go.RowKit Go.Lib Go.PlainAid
def vi (n : Nat) : Value := .int .i64 n
/-- What a slice of numbers that is read holds. -/
def IsN (w : World) (a : Option Addr) (c : Nat) (l : List Nat) : Prop :=
  l.length ≤ c ∧ (l ≠ [] → ∃ b o, a = some ⟨b, o, none⟩ ∧ b < w.heap.size ∧ ∀ j x, l[j]? = some x → w.cell? ⟨b, o + j, none⟩ = some (.int .i64 (x : Nat)))
theorem IsN.below {w w' : World} {a : Option Addr} {c : Nat} {l : List Nat} (h : IsN w a c l) (hb : Below w.heap.size w w') : IsN w' a c l :=
  ⟨h.1, fun hne => by
    obtain ⟨b, o, e, hlt, hc⟩ := h.2 hne
    exact ⟨b, o, e, Nat.lt_of_lt_of_le hlt hb.size, fun j x hj => by rw [hb.cell (p := ⟨b, o + j, none⟩) hlt]; exact hc j x hj⟩⟩
theorem own_isN {w : World} {base : Nat} {e : TypeId} {v : Value} {n : Nat} {l : List Nat} (h : w.ownsRow base e 1 v n (l.map vi)) (hnl : l.length = n) : ∃ a c, v = .slice a l.length c ∧ IsN w a c l := by
  subst hnl
  have hc : ∀ g, v.ownBlock = some g → ∀ j u, (l.map vi)[j]? = some u → w.cell? ((⟨g, 0, none⟩ : Addr).add j) = some u := fun g hg => h.cells hg
  have hlt := h.lt
  obtain ⟨hn, ⟨rfl, h0⟩ | ⟨g, cap, cur, rfl, hb, hg, hcap, hm, hs, hx⟩⟩ := h
  · have : l = [] := List.eq_nil_of_length_eq_zero h0
    subst this
    exact ⟨none, 0, rfl, Nat.le_refl _, fun h => absurd rfl h⟩
  · refine ⟨_, cap, rfl, hcap, fun _ => ⟨g, 0, rfl, (hlt g rfl).2, fun j x hj => ?_⟩⟩
    have := hc g rfl j (vi x) (by rw [List.getElem?_map, hj]; rfl)
    have e : (⟨g, 0, none⟩ : Addr).add j = ⟨g, 0 + j, none⟩ := by unfold Addr.add; split <;> simp_all
    rw [e] at this
    exact this
theorem info3 : (Try.prog.info? 3).map (fun i => (i.zero, i.size, i.bytes)) = some (some (.int .i64 0), 1, 8) := by kernel_rfl
theorem tk_bad {l : List UInt8} (h : BadHead l) : tk l = (0, 0) := by unfold tk; rw [if_pos h]
theorem tk_ok {l : List UInt8} (h : ¬ BadHead l) : tk l = decodeL l := by unfold tk; rw [if_neg h]
def AllPost (o : Option (List Nat)) (w : World) (e : Ending) (w' : World) : Prop := match o with
  | none => e = .returned (.tuple #[.slice none 0 0, .bool false]) ∧ Below w.heap.size w w'
  | some rs => ∃ a c, e = .returned (.tuple #[.slice a rs.length c, .bool true]) ∧ IsN w' a c rs ∧ Below w.heap.size w w'
set_option maxRecDepth 100000 in
set_option maxHeartbeats 2000000 in
theorem all_any (s : ByteArray) (w : World) (hs : s.size ≤ 1000000) :
    Calls Try.prog 69 #[.string s] w (AllPost (runes s.data.toList) w) := by
  obtain ⟨i3, hi3, hz0, hz1, hz2⟩ := info_parts info3
  go_enter Try.func69, Try.ntmps69
  go_wp2
  go_loopw [4, 5] (fun v p w' => ∃ (pos : Nat) (rs : List Nat), pos ≤ s.size ∧ rs.length ≤ pos ∧ SoFar s pos rs ∧ p = .int .i64 pos ∧ w'.ownsRow w.heap.size 3 1 v rs.length (rs.map vi) ∧ Below w.heap.size w w') (fun _ p _ => s.size - (RowKit.intOf p).toNat)
  case atStart => exact ⟨0, [], Nat.zero_le _, Nat.le_refl _, sofar_start s, rfl, World.ownsRow_nil _ _ _ _, Below.refl _ _⟩
  case round =>
    obtain ⟨pos, rs, hp, hl, hso, rfl, how, hb⟩ := hrel
    have Hso := Lib.hid hso
    have HO := Lib.hid how
    have hws := hb.size
    clear hso how
    by_cases hlt : pos < s.size
    · by_cases hbad : BadHead (s.data.toList.drop pos)
      · have Hn := Lib.hid (sofar_bad Hso.out hlt hbad)
        have Ht := Lib.hid (tk_bad hbad)
        clear hbad
        go_wp2_with fail
        refine (take_any s pos _ hs hlt).mono ?_
        rintro e w1 ⟨rfl, rfl⟩
        rw [Ht.out]
        go_wp2
        go_ret2
        show AllPost (runes s.data.toList) w _ _
        rw [Hn.out]
        exact ⟨rfl, hb⟩
      · have Hs := Lib.hid (sofar_step Hso.out hlt hbad)
        have hwd := Lib.width_pos s pos
        have hle := width_le s pos hlt
        have hwz : (((Utf8.decode s pos).2 : Int) == 0) = false := beq_eq_false_iff_ne.2 (by omega)
        have Ht := Lib.hid ((tk_ok hbad).trans (decodeL_drop s pos))
        clear hbad
        go_wp2_with (first | (go_at_call 79; refine (take_any s pos _ hs hlt).mono ?_; rintro e w1 ⟨rfl, rfl⟩; rw [Ht.out]) | (at_builtin; refine wpList_append_own _ rfl _ _ 98 rfl w.heap.size 3 i3 (.int .i64 0) 1 8 Try.underlying98 hi3 hz0 hz1 hz2 rfl (by decide) _ _ _ rfl (HO.out.alloc _) ⟨wr.heap.size, 0, none⟩ 1 1 [vi (Utf8.decode s pos).1] rfl rfl ?c1 ?c2 ?c3 ?c4 ?c5 ?_))
        case c1 =>
          intro j u hj
          match j, hj with
          | 0, hj => simp at hj; subst hj; simp [Addr.add, vi]
        case c2 => intro u hu; simp at hu; subst hu; rfl
        case c3 => unfold maxLen; omega
        case c4 => omega
        case c5 => simp; omega
        intro v' w2 hown' hgrow _
        have b2 := ((hb.alloc hws _).grown hgrow (by simp; omega) (fun r hr => (HO.out.lt r hr).1))
        have HO2 := Lib.hid hown'
        clear hown' hgrow
        go_wp2
        go_roundw
        case rel => exact ⟨pos + (Utf8.decode s pos).2, rs ++ [(Utf8.decode s pos).1], hle, by simp only [List.length_append, List.length_singleton]; omega, Hs.out, by go_num, by rw [List.length_append, List.map_append]; exact HO2.out, b2⟩
        case measure => simp [RowKit.intOf]; omega
    · have Hn := Lib.hid (sofar_end Hso.out hlt)
      obtain ⟨a, c, rfl, hl2⟩ := own_isN HO.out rfl
      go_wp2
      go_ret2
      show AllPost (runes s.data.toList) w _ _
      rw [Hn.out]
      exact ⟨a, c, rfl, hl2, hb⟩
end Go.Proofs.Ytnndanpahcdmaaa
namespace Go.Proofs.Ytnndanpahcdmaaa
open Go.RowKit Go.Lib Go.PlainAid
theorem all_none (s : ByteArray) (w : World) (hs : s.size ≤ 1000000) (hr : runes s.data.toList = none) :
    Calls Try.prog 69 #[.string s] w fun e w' => e = .returned (.tuple #[.slice none 0 0, .bool false]) ∧ Below w.heap.size w w' := by
  refine (all_any s w hs).mono ?_
  intro e w' h
  rw [hr] at h
  exact h
theorem all_some (s : ByteArray) (w : World) (hs : s.size ≤ 1000000) (rs : List Nat) (hr : runes s.data.toList = some rs) :
    Calls Try.prog 69 #[.string s] w fun e w' => ∃ a c, e = .returned (.tuple #[.slice a rs.length c, .bool true]) ∧ IsN w' a c rs ∧ Below w.heap.size w w' := by
  refine (all_any s w hs).mono ?_
  intro e w' h
  rw [hr] at h
  exact h
set_option maxRecDepth 100000 in
set_option maxHeartbeats 4000000 in
theorem refCheck_any (s : ByteArray) (w : World) (hs : s.size ≤ 1000000) :
    Calls Try.prog 51 #[.string s] w fun e w' => e = .returned (.bool (chk s.data.toList)) ∧ Below w.heap.size w w' := by
  cases hr : runes s.data.toList with
  | none =>
    have Hr := Lib.hid hr
    clear hr
    go_enter Try.func51, Try.ntmps51
    go_wp2_with fail
    refine (all_none _ _ hs Hr.out).mono ?_
    rintro e w1 ⟨rfl, hb⟩
    go_wp2
    go_ret
    exact ⟨by simp [chk, Hr.out], hb⟩
  | some rs =>
    have Hr := Lib.hid hr
    have hlen := runes_length _ rs hr
    have hls : s.data.toList.length = s.size := by simp
    clear hr
    by_cases hn : 1 ≤ rs.length ∧ rs.length ≤ 20 ∧ s.toList ≠ [46] ∧ s.toList ≠ [46, 46]
    · obtain ⟨h1, h20, hd, hdd⟩ := hn
      have q1 : (s.toList == [46]) = false := beq_eq_false_iff_ne.2 hd
      have q2 : (s.toList == [46, 46]) = false := beq_eq_false_iff_ne.2 hdd
      have HC := Lib.hid (show chk s.data.toList = rs.all goodR by
        unfold chk; rw [Hr.out, ← ByteArray.toList_eq]; simp [h1, h20, q1, q2])
      clear hd hdd
      go_enter Try.func51, Try.ntmps51
      go_wp2_with fail
      refine (all_some _ _ hs rs Hr.out).mono ?_
      rintro e w1 ⟨a, c, rfl, hl, hb⟩
      have HL := Lib.hid hl
      clear hl
      go_wp2
      go_loop [5] (fun i => ∃ k : Nat, k ≤ rs.length ∧ i = .int .i64 k ∧ (rs.take k).all goodR = true) (fun i => rs.length - (RowKit.intOf i).toNat)
      case atStart => exact ⟨0, Nat.zero_le _, rfl, rfl⟩
      case round =>
        obtain ⟨k, hk, rfl, ha⟩ := hrel
        have Ha := Lib.hid ha
        clear ha
        by_cases hkl : k < rs.length
        · obtain ⟨b, o, rfl, hlt, hc⟩ := HL.out.2 (fun e => by rw [e] at hkl; simp at hkl)
          obtain ⟨x, hx⟩ : ∃ x, rs[k]? = some x := ⟨rs[k], List.getElem?_eq_getElem hkl⟩
          have Hx := Lib.hid hx
          have hcell : w1.cell? ⟨b, o + k, none⟩ = some (.int .i64 (x : Nat)) := hc k x hx
          clear hx hc
          cases hg : goodR x with
          | true =>
            have hx3 : 32 ≤ x ∧ x ≠ 47 ∧ x ≠ 127 := by unfold goodR at hg; simp at hg; omega
            obtain ⟨x1, x2, x3⟩ := hx3
            have p2 : ((x : Int) == 47) = false := beq_eq_false_iff_ne.2 (by omega)
            have p3 : ((x : Int) == 127) = false := beq_eq_false_iff_ne.2 (by omega)
            have Hg := Lib.hid hg
            clear hg
            go_wp2
            go_round
            case rel => exact ⟨k + 1, by omega, by go_num, by rw [all_take_succ _ rs k x Hx.out, Ha.out]; exact Hg.out⟩
            case measure => simp [RowKit.intOf]; omega
          | false =>
            have hx3 : x < 32 ∨ x = 47 ∨ x = 127 := by unfold goodR at hg; simp at hg; omega
            have Hg := Lib.hid hg
            clear hg
            by_cases x1 : x < 32
            · clear hx3
              go_wp2
              go_ret
              exact ⟨ret_bool (by rw [HC.out, all_false _ rs k x Hx.out Hg.out]), hb⟩
            · by_cases x2 : x = 47
              · have p2 : ((x : Int) == 47) = true := beq_iff_eq.2 (by omega)
                clear hx3 x2
                go_wp2
                go_ret
                exact ⟨ret_bool (by rw [HC.out, all_false _ rs k x Hx.out Hg.out]), hb⟩
              · have p2 : ((x : Int) == 47) = false := beq_eq_false_iff_ne.2 (by omega)
                have p3 : ((x : Int) == 127) = true := beq_iff_eq.2 (by omega)
                clear hx3
                go_wp2
                go_ret
                exact ⟨ret_bool (by rw [HC.out, all_false _ rs k x Hx.out Hg.out]), hb⟩
        · go_wp2
          go_ret
          have e : k = rs.length := by omega
          exact ⟨ret_bool (by have := Ha.out; rw [e, List.take_length] at this; rw [HC.out, this]), hb⟩
    · have HC := Lib.hid (show chk s.data.toList = false by
        unfold chk; rw [Hr.out, ← ByteArray.toList_eq]
        simp only [Bool.and_eq_false_iff, Bool.not_eq_false', decide_eq_false_iff_not, beq_iff_eq]
        by_cases c1 : 1 ≤ rs.length
        · by_cases c2 : rs.length ≤ 20
          · by_cases c3 : s.toList = [46]
            · simp [c3]
            · by_cases c4 : s.toList = [46, 46]
              · simp [c4]
              · exact absurd ⟨c1, c2, c3, c4⟩ hn
          · simp [c2]
        · simp [c1])
      have Hn := Lib.hid hn
      clear hn
      go_enter Try.func51, Try.ntmps51
      go_wp2_with fail
      refine (all_some _ _ hs rs Hr.out).mono ?_
      rintro e w1 ⟨a, c, rfl, hl, hb⟩
      have HL := Lib.hid hl
      clear hl
      by_cases c1 : 1 ≤ rs.length
      · by_cases c2 : rs.length ≤ 20
        · by_cases c3 : s.toList = [46]
          · have q1 : (s.toList == [46]) = true := by rw [c3]; rfl
            clear c3
            go_wp2
            go_ret
            exact ⟨ret_bool HC.out.symm, hb⟩
          · have q1 : (s.toList == [46]) = false := beq_eq_false_iff_ne.2 c3
            by_cases c4 : s.toList = [46, 46]
            · have q2 : (s.toList == [46, 46]) = true := by rw [c4]; rfl
              clear c3 c4
              go_wp2
              go_ret
              exact ⟨ret_bool HC.out.symm, hb⟩
            · exact absurd ⟨c1, c2, c3, c4⟩ Hn.out
        · go_wp2
          go_ret
          exact ⟨ret_bool HC.out.symm, hb⟩
      · go_wp2
        go_ret
        exact ⟨ret_bool HC.out.symm, hb⟩
end Go.Proofs.Ytnndanpahcdmaaa
