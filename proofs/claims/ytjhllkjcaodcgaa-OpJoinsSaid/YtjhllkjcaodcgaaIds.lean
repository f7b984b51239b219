import Derived.Test.YtjhllkjcaodcgaaBase
namespace Go.Proofs.Ytjhllkjcaodcgaa
open Go.RowKit Go.Lib
theorem ret_int {a b : Int} (h : a = b) : Ending.returned (.int .i64 a) = .returned (.int .i64 b) := by rw [h]
/-- What a number says, if it is one. -/
def ofV (n : Int) : Value := .tuple #[.agg #[.int .i64 (n / 128), .int .i64 (n % 128 / 2)], .bool (decide (n % 2 = 1)), .bool true]
def noV : Value := .tuple #[.agg #[.int .i64 0, .int .i64 0], .bool false, .bool false]
set_option maxHeartbeats 1000000 in
theorem of_yes {n : Int} {f : Bool} (hf : decide (n % 2 = 1) = f) (h1 : 128 ≤ n) (h2 : n < 134217856) (w : World) :
    Calls Try.prog 26 #[.int .i64 n] w fun e w' => e = .returned (.tuple #[.agg #[.int .i64 (n / 128), .int .i64 (n % 128 / 2)], .bool f, .bool true]) ∧ Below w.heap.size w w' := by
  have hm : mayB (n / 128) (n % 128 / 2) = true := mayB_mk (by omega)
  have hq : (n % 2 == 1) = f := by rw [← hf]; rfl
  have Hm := Lib.hid hm
  clear hm hf
  go_enter Try.func26, Try.ntmps26
  go_wp2_with fail
  refine (check_is Hm.out _).mono ?_
  rintro e w1 ⟨rfl, hb1⟩
  have hc1 := old_cell hb1
  have hf1 := old_mark hb1
  have q0 : w1.cell? ⟨w.heap.size, 0, none⟩ = some (.int .i64 0) := by rw [hc1 _ _ (by simp; omega)]; simp [go_sem]
  have q1 : w1.cell? ⟨w.heap.size, 1, none⟩ = some (.int .i64 0) := by rw [hc1 _ _ (by simp; omega)]; simp [go_sem]
  go_wp2
  refine bodyPost_ret (v := .tuple #[.agg #[.int .i64 (n / 128), .int .i64 (n % 128 / 2)], .bool f, .bool true]) (by simp [results, Try.results26, go_sem, q0, q1]) rfl ⟨rfl, ?_⟩
  exact ((((Below.refl _ _).alloc (Nat.le_refl _) _).alloc (by simp) _).trans (hb1.mono (by simp; omega))).setCell (by simp) _ |>.setCell (by simp) _
theorem tdiv_neg (n : Int) (h : n < 0) : n.tdiv 128 ≤ 0 := by
  have h1 := Int.tdiv_eq_ediv_of_nonneg (a := -n) (b := 128) (by omega)
  rw [Int.neg_tdiv] at h1
  omega
set_option maxHeartbeats 1000000 in
theorem of_no {n : Int} (h : n < 128 ∨ 134217856 ≤ n) (hl : -9223372036854775808 ≤ n) (hh : n ≤ 9223372036854775807) (w : World) :
    Calls Try.prog 26 #[.int .i64 n] w fun e w' => e = .returned (.tuple #[.agg #[.int .i64 0, .int .i64 0], .bool false, .bool false]) ∧ Below w.heap.size w w' := by
  by_cases h0 : 0 ≤ n
  · have hm : mayB (n / 128) (n % 128 / 2) = false := mayB_no (by omega)
    have Hm := Lib.hid hm
    clear hm
    go_enter Try.func26, Try.ntmps26
    go_wp2_with fail
    refine (check_is Hm.out _).mono ?_
    rintro e w1 ⟨rfl, hb1⟩
    have hc1 := old_cell hb1
    have hf1 := old_mark hb1
    have q0 : w1.cell? ⟨w.heap.size, 0, none⟩ = some (.int .i64 0) := by rw [hc1 _ _ (by simp; omega)]; simp [go_sem]
    have q1 : w1.cell? ⟨w.heap.size, 1, none⟩ = some (.int .i64 0) := by rw [hc1 _ _ (by simp; omega)]; simp [go_sem]
    go_wp2
    refine bodyPost_ret (v := .tuple #[.agg #[.int .i64 0, .int .i64 0], .bool false, .bool false]) (by simp [results, Try.results26, go_sem, q0, q1]) rfl ⟨rfl, ?_⟩
    exact ((((Below.refl _ _).alloc (Nat.le_refl _) _).alloc (by simp) _).trans (hb1.mono (by simp; omega))).setCell (by simp) _ |>.setCell (by simp) _
  · have hm : ∀ r, mayB (n.tdiv 128) r = false := fun r => mayB_no (by have := tdiv_neg n (by omega); omega)
    have Hm := Lib.hid hm
    clear hm
    go_enter Try.func26, Try.ntmps26
    go_wp2_with fail
    refine (check_is (Hm.out _) _).mono ?_
    rintro e w1 ⟨rfl, hb1⟩
    have hc1 := old_cell hb1
    have hf1 := old_mark hb1
    have q0 : w1.cell? ⟨w.heap.size, 0, none⟩ = some (.int .i64 0) := by rw [hc1 _ _ (by simp; omega)]; simp [go_sem]
    have q1 : w1.cell? ⟨w.heap.size, 1, none⟩ = some (.int .i64 0) := by rw [hc1 _ _ (by simp; omega)]; simp [go_sem]
    go_wp2
    refine bodyPost_ret (v := .tuple #[.agg #[.int .i64 0, .int .i64 0], .bool false, .bool false]) (by simp [results, Try.results26, go_sem, q0, q1]) rfl ⟨rfl, ?_⟩
    exact ((((Below.refl _ _).alloc (Nat.le_refl _) _).alloc (by simp) _).trans (hb1.mono (by simp; omega))).setCell (by simp) _ |>.setCell (by simp) _
end Go.Proofs.Ytjhllkjcaodcgaa
