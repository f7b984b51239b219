import Derived.Test.YtjhllkjcaodcgaaLess
import Derived.Test.YtjhllkjcaodcgaaPlainTwo
import Derived.OwnWalk
import Derived.PlainAid
import Derived.Handy
namespace Go.Proofs.Ytjhllkjcaodcgaa
open Go.RowKit Go.Lib Go.PlainAid
/-- What the document's answer takes for a rune at a place, and how many bytes: none is 0, 0. -/
def takeE (n b0 b1 b2 b3 : Nat) : Nat × Nat :=
  if b0 < 128 then (b0, 1)
  else if 194 ≤ b0 ∧ b0 < 224 then
    (if 2 ≤ n ∧ 128 ≤ b1 ∧ b1 < 192 then (b0 % 64 * 64 + b1 % 64, 2) else (0, 0))
  else if 224 ≤ b0 ∧ b0 < 240 then
    (if 3 ≤ n ∧ (128 ≤ b1 ∧ b1 < 192) ∧ (128 ≤ b2 ∧ b2 < 192) ∧ 2048 ≤ (b0 % 16 * 64 + b1 % 64) * 64 + b2 % 64 ∧ ((b0 % 16 * 64 + b1 % 64) * 64 + b2 % 64 < 55296 ∨ 57343 < (b0 % 16 * 64 + b1 % 64) * 64 + b2 % 64) then ((b0 % 16 * 64 + b1 % 64) * 64 + b2 % 64, 3) else (0, 0))
  else if 240 ≤ b0 ∧ b0 < 245 then
    (if 4 ≤ n ∧ (128 ≤ b1 ∧ b1 < 192) ∧ (128 ≤ b2 ∧ b2 < 192) ∧ (128 ≤ b3 ∧ b3 < 192) ∧ 65536 ≤ ((b0 % 8 * 64 + b1 % 64) * 64 + b2 % 64) * 64 + b3 % 64 ∧ ((b0 % 8 * 64 + b1 % 64) * 64 + b2 % 64) * 64 + b3 % 64 ≤ 1114111 then (((b0 % 8 * 64 + b1 % 64) * 64 + b2 % 64) * 64 + b3 % 64, 4) else (0, 0))
  else (0, 0)
theorem ret_pair {a b c d : Int} (h1 : a = c) (h2 : b = d) : Ending.returned (.tuple #[.int .i64 a, .int .i64 b]) = .returned (.tuple #[.int .i64 c, .int .i64 d]) := by rw [h1, h2]
set_option maxHeartbeats 4000000 in
set_option maxRecDepth 100000 in
theorem take_1 (s : ByteArray) (p : Nat) (b0 b1 b2 b3 : Nat) (w : World) (hs : s.size ≤ 1000000) (hat : p < s.size)
    (h0 : bt s p = b0) (hc : b0 < 194 ∨ 245 ≤ b0) (k0 : b0 ≤ 255) :
    Calls Try.prog 58 #[.string s, .int .i64 p] w fun e w' => e = .returned (.tuple #[.int .i64 (takeE (s.size - p) b0 b1 b2 b3).1, .int .i64 (takeE (s.size - p) b0 b1 b2 b3).2]) ∧ w = w' := by
  have hb := get_bt s
  go_enter Try.func58, Try.ntmps58
  go_wp2
  all_goals (go_ret2; refine ⟨?_, rfl⟩; unfold takeE; (repeat first | rw [if_pos (by omega)] | rw [if_neg (by omega)]); exact ret_pair (by omega) (by omega))
set_option maxHeartbeats 4000000 in
set_option maxRecDepth 100000 in
theorem take_2 (s : ByteArray) (p : Nat) (b0 b1 b2 b3 : Nat) (w : World) (hs : s.size ≤ 1000000) (hat : p < s.size)
    (h0 : bt s p = b0) (h1 : bt s (p + 1) = b1) (k1 : b1 ≤ 255) (hc1 : 194 ≤ b0) (hc2 : b0 < 224) :
    Calls Try.prog 58 #[.string s, .int .i64 p] w fun e w' => e = .returned (.tuple #[.int .i64 (takeE (s.size - p) b0 b1 b2 b3).1, .int .i64 (takeE (s.size - p) b0 b1 b2 b3).2]) ∧ w = w' := by
  have hb := get_bt s
  go_enter Try.func58, Try.ntmps58
  by_cases hr : p + 2 ≤ s.size
  · go_wp2
    go_rounds 2
    all_goals (go_ret2; refine ⟨?_, rfl⟩; unfold takeE; (repeat first | rw [if_pos (by omega)] | rw [if_neg (by omega)]); exact ret_pair (by omega) (by omega))
  · go_wp2
    all_goals (go_ret2; refine ⟨?_, rfl⟩; unfold takeE; (repeat first | rw [if_pos (by omega)] | rw [if_neg (by omega)]); exact ret_pair (by omega) (by omega))
set_option maxHeartbeats 8000000 in
set_option maxRecDepth 100000 in
theorem take_3 (s : ByteArray) (p : Nat) (b0 b1 b2 b3 : Nat) (w : World) (hs : s.size ≤ 1000000) (hat : p < s.size)
    (h0 : bt s p = b0) (h1 : bt s (p + 1) = b1) (h2 : bt s (p + 2) = b2) (k1 : b1 ≤ 255) (k2 : b2 ≤ 255) (hc1 : 224 ≤ b0) (hc2 : b0 < 240) :
    Calls Try.prog 58 #[.string s, .int .i64 p] w fun e w' => e = .returned (.tuple #[.int .i64 (takeE (s.size - p) b0 b1 b2 b3).1, .int .i64 (takeE (s.size - p) b0 b1 b2 b3).2]) ∧ w = w' := by
  have hb := get_bt s
  go_enter Try.func58, Try.ntmps58
  by_cases hr : p + 3 ≤ s.size
  · go_wp2
    go_rounds 3
    all_goals (go_ret2; refine ⟨?_, rfl⟩; unfold takeE; (repeat first | rw [if_pos (by omega)] | rw [if_neg (by omega)]); exact ret_pair (by omega) (by omega))
  · go_wp2
    all_goals (go_ret2; refine ⟨?_, rfl⟩; unfold takeE; (repeat first | rw [if_pos (by omega)] | rw [if_neg (by omega)]); exact ret_pair (by omega) (by omega))
set_option maxHeartbeats 8000000 in
set_option maxRecDepth 100000 in
theorem take_4 (s : ByteArray) (p : Nat) (b0 b1 b2 b3 : Nat) (w : World) (hs : s.size ≤ 1000000) (hat : p < s.size)
    (h0 : bt s p = b0) (h1 : bt s (p + 1) = b1) (h2 : bt s (p + 2) = b2) (h3 : bt s (p + 3) = b3) (k1 : b1 ≤ 255) (k2 : b2 ≤ 255) (k3 : b3 ≤ 255) (hc1 : 240 ≤ b0) (hc2 : b0 < 245) :
    Calls Try.prog 58 #[.string s, .int .i64 p] w fun e w' => e = .returned (.tuple #[.int .i64 (takeE (s.size - p) b0 b1 b2 b3).1, .int .i64 (takeE (s.size - p) b0 b1 b2 b3).2]) ∧ w = w' := by
  have hb := get_bt s
  go_enter Try.func58, Try.ntmps58
  by_cases hr : p + 4 ≤ s.size
  · go_wp2
    go_rounds 4
    all_goals (go_ret2; refine ⟨?_, rfl⟩; unfold takeE; (repeat first | rw [if_pos (by omega)] | rw [if_neg (by omega)]); exact ret_pair (by omega) (by omega))
  · go_wp2
    all_goals (go_ret2; refine ⟨?_, rfl⟩; unfold takeE; (repeat first | rw [if_pos (by omega)] | rw [if_neg (by omega)]); exact ret_pair (by omega) (by omega))
end Go.Proofs.Ytjhllkjcaodcgaa
