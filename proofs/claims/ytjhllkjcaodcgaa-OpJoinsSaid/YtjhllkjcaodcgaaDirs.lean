import Derived.Test.YtjhllkjcaodcgaaIds
namespace Go.Proofs.Ytjhllkjcaodcgaa
open Go.RowKit Go.Lib
set_option maxHeartbeats 1000000 in
theorem rof_yes {n : Int} {f : Bool} (hf : decide (n % 2 = 1) = f) (h1 : 128 ≤ n) (h2 : n < 134217856) (w : World) :
    Calls Try.prog 39 #[.int .i64 n] w fun e w' => e = .returned (.tuple #[.agg #[.int .i64 (n / 128), .int .i64 (n % 128 / 2)], .bool f, .bool true]) ∧ Below w.heap.size w w' := by
  have hq : (n % 2 == 1) = f := by rw [← hf]; rfl
  clear hf
  go_enter Try.func39, Try.ntmps39
  go_wp2
  refine bodyPost_ret (v := .tuple #[.agg #[.int .i64 (n / 128), .int .i64 (n % 128 / 2)], .bool f, .bool true]) (by simp [results, Try.results39, go_sem]) rfl ⟨rfl, ?_⟩
  exact (Below.refl _ _).alloc (Nat.le_refl _) _
set_option maxHeartbeats 1000000 in
theorem rof_no {n : Int} (h : n < 128 ∨ 134217856 ≤ n) (w : World) :
    Calls Try.prog 39 #[.int .i64 n] w fun e w' => e = .returned (.tuple #[.agg #[.int .i64 0, .int .i64 0], .bool false, .bool false]) ∧ Below w.heap.size w w' := by
  rcases h with h | h
  · go_enter Try.func39, Try.ntmps39
    go_wp2
    refine bodyPost_ret (v := .tuple #[.agg #[.int .i64 0, .int .i64 0], .bool false, .bool false]) (by simp [results, Try.results39, go_sem]) rfl ⟨rfl, ?_⟩
    exact (Below.refl _ _).alloc (Nat.le_refl _) _
  · go_enter Try.func39, Try.ntmps39
    go_wp2
    refine bodyPost_ret (v := .tuple #[.agg #[.int .i64 0, .int .i64 0], .bool false, .bool false]) (by simp [results, Try.results39, go_sem]) rfl ⟨rfl, ?_⟩
    exact (Below.refl _ _).alloc (Nat.le_refl _) _
def dirB (n : Int) : Bool := decide ((128 ≤ n ∧ n < 134217856 ∧ n % 2 ≠ 1) ∨ n = 0 ∨ n = 2)
theorem dirB_eq {n : Int} {b : Bool} (h : b = true ↔ ((128 ≤ n ∧ n < 134217856 ∧ n % 2 ≠ 1) ∨ n = 0 ∨ n = 2)) : b = dirB n := by
  unfold dirB
  rw [Bool.eq_iff_iff, decide_eq_true_eq]; exact h
set_option maxHeartbeats 1000000 in
theorem dir_is {n : Int} {b : Bool} (h : dirB n = b) (hl : -9223372036854775808 ≤ n) (hh : n ≤ 9223372036854775807) (w : World) :
    Calls Try.prog 81 #[.int .i64 n] w fun e w' => e = .returned (.bool b) ∧ Below w.heap.size w w' := by
  rw [← h]
  clear h b
  by_cases hr : 128 ≤ n ∧ n < 134217856
  · obtain ⟨h1, h2⟩ := hr
    have hn0 : (n == 0) = false := beq_eq_false_iff_ne.2 (by omega)
    have hn2 : (n == 2) = false := beq_eq_false_iff_ne.2 (by omega)
    cases hf : decide (n % 2 = 1)
    all_goals
      have Hf := Lib.hid hf
      clear hf
      go_enter Try.func81, Try.ntmps81
      go_wp2_with fail
      refine (of_yes Hf.out h1 h2 _).mono ?_
      rintro e w1 ⟨rfl, hb1⟩
      have hc1 := old_cell hb1
      have hf1 := old_mark hb1
      go_wp2
      go_ret
      have := Hf.out
      simp only [decide_eq_true_eq, decide_eq_false_iff_not] at this
      exact ⟨sret_bool (dirB_eq (by simp; omega)), hb1.alloc hb1.size _⟩
  · have hr' : n < 128 ∨ 134217856 ≤ n := by omega
    clear hr
    have Hr := Lib.hid hr'
    clear hr'
    go_enter Try.func81, Try.ntmps81
    go_wp2_with fail
    refine (of_no Hr.out hl hh _).mono ?_
    rintro e w1 ⟨rfl, hb1⟩
    have hc1 := old_cell hb1
    have hf1 := old_mark hb1
    go_wp2
    all_goals
      go_ret
      have := Hr.out
      exact ⟨sret_bool (dirB_eq (by simp; omega)), hb1.alloc hb1.size _⟩
set_option maxHeartbeats 1000000 in
theorem rdir_is {n : Int} {b : Bool} (h : dirB n = b) (w : World) :
    Calls Try.prog 41 #[.int .i64 n] w fun e w' => e = .returned (.bool b) ∧ Below w.heap.size w w' := by
  rw [← h]
  clear h b
  by_cases hr : 128 ≤ n ∧ n < 134217856
  · obtain ⟨h1, h2⟩ := hr
    have hn0 : (n == 0) = false := beq_eq_false_iff_ne.2 (by omega)
    have hn2 : (n == 2) = false := beq_eq_false_iff_ne.2 (by omega)
    cases hf : decide (n % 2 = 1)
    all_goals
      have Hf := Lib.hid hf
      clear hf
      go_enter Try.func41, Try.ntmps41
      go_wp2_with fail
      refine (rof_yes Hf.out h1 h2 _).mono ?_
      rintro e w1 ⟨rfl, hb1⟩
      have hc1 := old_cell hb1
      have hf1 := old_mark hb1
      go_wp2
      go_ret
      have := Hf.out
      simp only [decide_eq_true_eq, decide_eq_false_iff_not] at this
      exact ⟨sret_bool (dirB_eq (by simp; omega)), hb1.alloc hb1.size _⟩
  · have hr' : n < 128 ∨ 134217856 ≤ n := by omega
    clear hr
    have Hr := Lib.hid hr'
    clear hr'
    go_enter Try.func41, Try.ntmps41
    go_wp2_with fail
    refine (rof_no Hr.out _).mono ?_
    rintro e w1 ⟨rfl, hb1⟩
    have hc1 := old_cell hb1
    have hf1 := old_mark hb1
    go_wp2
    all_goals
      go_ret
      have := Hr.out
      exact ⟨sret_bool (dirB_eq (by simp; omega)), hb1.alloc hb1.size _⟩
end Go.Proofs.Ytjhllkjcaodcgaa
