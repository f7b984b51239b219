import Derived.Test.YtjhllkjcaodcgaaChecked
import Derived.Test.YtjhllkjcaodcgaaNum
import Derived.WalkKit
import Derived.WalkLawsBesides
import Derived.WalkMore
import Derived.Lib.Hide
import Derived.LoopTactic
import Derived.Test.YtjhllkjcaodcgaaLater
namespace Go.Proofs.Ytjhllkjcaodcgaa
open Go.RowKit Go.Lib
theorem sret_bool {a b : Bool} (h : a = b) : Ending.returned (.bool a) = .returned (.bool b) := by rw [h]
def nearC (c : Int) : Int := min (max c 1) 1048576
def nearR (r : Int) : Int := min (max r 0) 63
theorem ret_agg {a b c d : Int} (h : a = c) (h' : b = d) : Ending.returned (.agg #[.int .i64 a, .int .i64 b]) = .returned (.agg #[.int .i64 c, .int .i64 d]) := by rw [h, h']
set_option maxHeartbeats 1000000 in
theorem nearest_any (c r : Int) (w : World) :
    Calls Try.prog 44 #[.agg #[.int .i64 c, .int .i64 r]] w fun e w' => e = .returned (.agg #[.int .i64 (nearC c), .int .i64 (nearR r)]) ∧ Below w.heap.size w w' := by
  go_enter Try.func44, Try.ntmps44
  go_wp2
  all_goals
    refine bodyPost_ret (v := .agg #[.int .i64 _, .int .i64 _]) (by simp [results, Try.results44, go_sem]; exact ⟨rfl, rfl⟩) rfl ⟨ret_agg (by unfold nearC; omega) (by unfold nearR; omega), ?_⟩
    exact ((Below.refl _ _).alloc (Nat.le_refl _) _).alloc (by simp) _
theorem near_may {c r : Int} (h : mayB c r = true) : nearC c = c ∧ nearR r = r := by
  have := mayB_true h; unfold nearC nearR; omega
theorem near_not {c r : Int} (h : mayB c r = false) : ¬ (c = nearC c ∧ r = nearR r) := by
  have := mayB_false h; unfold nearC nearR; omega
theorem near_yes (c r : Int) (h : mayB c r = true) (w : World) :
    Calls Try.prog 44 #[.agg #[.int .i64 c, .int .i64 r]] w fun e w' => e = .returned (.agg #[.int .i64 c, .int .i64 r]) ∧ Below w.heap.size w w' := by
  have := nearest_any c r w
  rw [(near_may h).1, (near_may h).2] at this
  exact this
set_option maxHeartbeats 1000000 in
theorem scheck_any (c r : Int) (w : World) :
    Calls Try.prog 25 #[.agg #[.int .i64 c, .int .i64 r]] w fun e w' => e = .returned (.bool (mayB c r)) ∧ Below w.heap.size w w' := by
  cases hm : mayB c r with
  | true =>
    have Hm := Lib.hid hm
    clear hm
    go_enter Try.func25, Try.ntmps25
    go_wp2_with fail
    refine wp_region_later (by kernel_rfl) (by kernel_rfl) (fun hL => ?_)
    repeat (go_big_quiet_step ((refine later_calls (near_yes _ _ Hm.out _))))
    refine wpQuiet_nil ?_
    intro w2 hw2
    have hb2 := later_out hw2
    clear hw2 hL
    go_wp2
    go_ret
    exact ⟨rfl, ((Below.refl _ _).alloc (Nat.le_refl _) _).trans (hb2.mono (by simp))⟩
  | false =>
    have Hm := Lib.hid hm
    have hn := near_not hm
    clear hm
    by_cases hc : c = nearC c
    · have hr : (r == nearR r) = false := beq_eq_false_iff_ne.2 fun e => hn ⟨hc, e⟩
      have hc' : (c == nearC c) = true := beq_iff_eq.2 hc
      clear hc hn
      go_enter Try.func25, Try.ntmps25
      go_wp2_with fail
      refine wp_region_later (by kernel_rfl) (by kernel_rfl) (fun hL => ?_)
      repeat (go_big_quiet_step ((refine later_calls (nearest_any _ _ _))))
      refine wpQuiet_nil ?_
      intro w2 hw2
      have hb2 := later_out hw2
      clear hw2 hL
      go_wp2
      go_ret
      exact ⟨rfl, ((Below.refl _ _).alloc (Nat.le_refl _) _).trans (hb2.mono (by simp))⟩
    · have hc' : (c == nearC c) = false := beq_eq_false_iff_ne.2 hc
      clear hc hn
      go_enter Try.func25, Try.ntmps25
      go_wp2_with fail
      refine wp_region_later (by kernel_rfl) (by kernel_rfl) (fun hL => ?_)
      repeat (go_big_quiet_step ((refine later_calls (nearest_any _ _ _))))
      refine wpQuiet_nil ?_
      intro w2 hw2
      have hb2 := later_out hw2
      clear hw2 hL
      go_wp2
      go_ret
      exact ⟨rfl, ((Below.refl _ _).alloc (Nat.le_refl _) _).trans (hb2.mono (by simp))⟩
theorem check_is {c r : Int} {b : Bool} (h : mayB c r = b) (w : World) :
    Calls Try.prog 25 #[.agg #[.int .i64 c, .int .i64 r]] w fun e w' => e = .returned (.bool b) ∧ Below w.heap.size w w' := by
  rw [← h]; exact scheck_any c r w
set_option maxHeartbeats 1000000 in
theorem sless_any (c r d s : Int) (w : World) :
    Calls Try.prog 27 #[.agg #[.int .i64 c, .int .i64 r], .agg #[.int .i64 d, .int .i64 s]] w fun e w' => e = .returned (.bool (lessS c r d s)) ∧ Below w.heap.size w w' := by
  go_enter Try.func27, Try.ntmps27
  go_wp2
  all_goals
    go_ret
    refine ⟨sret_bool ?_, ((Below.refl _ _).alloc (Nat.le_refl _) _).alloc (by simp) _⟩
    unfold lessS
    first | exact decide_eq_decide.2 (by omega) | exact (decide_eq_true (by omega)).symm
theorem less_is {c r d s : Int} {b : Bool} (h : lessS c r d s = b) (w : World) :
    Calls Try.prog 27 #[.agg #[.int .i64 c, .int .i64 r], .agg #[.int .i64 d, .int .i64 s]] w fun e w' => e = .returned (.bool b) ∧ Below w.heap.size w w' := by
  rw [← h]; exact sless_any c r d s w
set_option maxHeartbeats 1000000 in
theorem rless_is {c r d s : Int} {b : Bool} (h : lessS c r d s = b) (w : World) :
    Calls Try.prog 40 #[.agg #[.int .i64 c, .int .i64 r], .agg #[.int .i64 d, .int .i64 s]] w fun e w' => e = .returned (.bool b) ∧ Below w.heap.size w w' := by
  rw [← h]
  clear h
  go_enter Try.func40, Try.ntmps40
  go_wp2
  all_goals
    go_ret
    refine ⟨sret_bool ?_, ((Below.refl _ _).alloc (Nat.le_refl _) _).alloc (by simp) _⟩
    unfold lessS
    first | exact decide_eq_decide.2 (by omega) | exact (decide_eq_true (by omega)).symm
set_option maxHeartbeats 1000000 in
theorem rcheck_is {c r : Int} {b : Bool} (h : mayB c r = b) (w : World) :
    Calls Try.prog 38 #[.agg #[.int .i64 c, .int .i64 r]] w fun e w' => e = .returned (.bool b) ∧ Below w.heap.size w w' := by
  rw [← h]
  clear h
  go_enter Try.func38, Try.ntmps38
  go_wp2
  all_goals
    go_ret
    refine ⟨sret_bool ?_, (Below.refl _ _).alloc (Nat.le_refl _) _⟩
    unfold mayB
    first | exact decide_eq_decide.2 (by omega) | exact (decide_eq_true (by omega)).symm | exact (decide_eq_false (by omega)).symm
end Go.Proofs.Ytjhllkjcaodcgaa
