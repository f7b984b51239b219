import Derived.Test.YtamnjmlnodhhmaaBase
namespace Go.Proofs.Ytamnjmlnodhhmaa
open Go.RowKit Go.Lib
theorem ret_int {a b : Int} (h : a = b) : Ending.returned (.int .i64 a) = .returned (.int .i64 b) := by rw [h]
set_option maxHeartbeats 1000000 in
theorem id_yes {c r : Int} (f : Bool) (h : mayB c r = true) (w : World) :
    Calls Try.prog 20 #[.agg #[.int .i64 c, .int .i64 r], .bool f] w fun e w' => e = .returned (.int .i64 (idOf c r f)) ∧ Below w.heap.size w w' := by
  have hb := mayB_true h
  have Hm := Lib.hid h
  clear h
  obtain ⟨h1, h2, h3, h4⟩ := hb
  cases f
  all_goals
    go_enter Try.func20, Try.ntmps20
    go_wp2_with fail
    refine (check_is Hm.out _).mono ?_
    rintro e w1 ⟨rfl, hb1⟩
    have hc1 := old_cell hb1
    have hf1 := old_mark hb1
    go_wp2
    go_ret
    exact ⟨ret_int (by simp [idOf]), ((Below.refl _ _).alloc (Nat.le_refl _) _).trans (hb1.mono (by simp))⟩
set_option maxHeartbeats 1000000 in
theorem id_no {c r : Int} (f : Bool) (h : mayB c r = false) (w : World) :
    Calls Try.prog 20 #[.agg #[.int .i64 c, .int .i64 r], .bool f] w fun e w' => e = .returned (.int .i64 (-1)) ∧ Below w.heap.size w w' := by
  have Hm := Lib.hid h
  clear h
  go_enter Try.func20, Try.ntmps20
  go_wp2_with fail
  refine (check_is Hm.out _).mono ?_
  rintro e w1 ⟨rfl, hb1⟩
  have hc1 := old_cell hb1
  have hf1 := old_mark hb1
  go_wp2
  go_ret
  exact ⟨rfl, ((Below.refl _ _).alloc (Nat.le_refl _) _).trans (hb1.mono (by simp))⟩
set_option maxHeartbeats 1000000 in
theorem rid_yes {c r : Int} (f : Bool) (h : mayB c r = true) (w : World) :
    Calls Try.prog 21 #[.agg #[.int .i64 c, .int .i64 r], .bool f] w fun e w' => e = .returned (.int .i64 (idOf c r f)) ∧ Below w.heap.size w w' := by
  have hb := mayB_true h
  have Hm := Lib.hid h
  clear h
  obtain ⟨h1, h2, h3, h4⟩ := hb
  cases f
  all_goals
    go_enter Try.func21, Try.ntmps21
    go_wp2_with fail
    refine (rcheck_is Hm.out _).mono ?_
    rintro e w1 ⟨rfl, hb1⟩
    have hc1 := old_cell hb1
    have hf1 := old_mark hb1
    go_wp2
    go_ret
    exact ⟨ret_int (by simp [idOf]), ((Below.refl _ _).alloc (Nat.le_refl _) _).trans (hb1.mono (by simp))⟩
set_option maxHeartbeats 1000000 in
theorem rid_no {c r : Int} (f : Bool) (h : mayB c r = false) (w : World) :
    Calls Try.prog 21 #[.agg #[.int .i64 c, .int .i64 r], .bool f] w fun e w' => e = .returned (.int .i64 (-1)) ∧ Below w.heap.size w w' := by
  have Hm := Lib.hid h
  clear h
  go_enter Try.func21, Try.ntmps21
  go_wp2_with fail
  refine (rcheck_is Hm.out _).mono ?_
  rintro e w1 ⟨rfl, hb1⟩
  have hc1 := old_cell hb1
  have hf1 := old_mark hb1
  go_wp2
  go_ret
  exact ⟨rfl, ((Below.refl _ _).alloc (Nat.le_refl _) _).trans (hb1.mono (by simp))⟩
/-- What a number says, if it is one. -/
def ofV (n : Int) : Value := .tuple #[.agg #[.int .i64 (n / 128), .int .i64 (n % 128 / 2)], .bool (decide (n % 2 = 1)), .bool true]
def noV : Value := .tuple #[.agg #[.int .i64 0, .int .i64 0], .bool false, .bool false]
set_option maxHeartbeats 1000000 in
theorem of_yes {n : Int} {f : Bool} (hf : decide (n % 2 = 1) = f) (h1 : 128 ≤ n) (h2 : n < 134217856) (w : World) :
    Calls Try.prog 12 #[.int .i64 n] w fun e w' => e = .returned (.tuple #[.agg #[.int .i64 (n / 128), .int .i64 (n % 128 / 2)], .bool f, .bool true]) ∧ Below w.heap.size w w' := by
  have hm : mayB (n / 128) (n % 128 / 2) = true := mayB_mk (by omega)
  have hq : (n % 2 == 1) = f := by rw [← hf]; rfl
  have Hm := Lib.hid hm
  clear hm hf
  go_enter Try.func12, Try.ntmps12
  go_wp2_with fail
  refine (check_is Hm.out _).mono ?_
  rintro e w1 ⟨rfl, hb1⟩
  have hc1 := old_cell hb1
  have hf1 := old_mark hb1
  have q0 : w1.cell? ⟨w.heap.size, 0, none⟩ = some (.int .i64 0) := by rw [hc1 _ _ (by simp; omega)]; simp [go_sem]
  have q1 : w1.cell? ⟨w.heap.size, 1, none⟩ = some (.int .i64 0) := by rw [hc1 _ _ (by simp; omega)]; simp [go_sem]
  go_wp2
  refine bodyPost_ret (v := .tuple #[.agg #[.int .i64 (n / 128), .int .i64 (n % 128 / 2)], .bool f, .bool true]) (by simp [results, Try.results12, go_sem, q0, q1]) rfl ⟨rfl, ?_⟩
  exact ((((Below.refl _ _).alloc (Nat.le_refl _) _).alloc (by simp) _).trans (hb1.mono (by simp; omega))).setCell (by simp) _ |>.setCell (by simp) _
theorem tdiv_neg (n : Int) (h : n < 0) : n.tdiv 128 ≤ 0 := by
  have h1 := Int.tdiv_eq_ediv_of_nonneg (a := -n) (b := 128) (by omega)
  rw [Int.neg_tdiv] at h1
  omega
set_option maxHeartbeats 1000000 in
theorem of_no {n : Int} (h : n < 128 ∨ 134217856 ≤ n) (hl : -9223372036854775808 ≤ n) (hh : n ≤ 9223372036854775807) (w : World) :
    Calls Try.prog 12 #[.int .i64 n] w fun e w' => e = .returned (.tuple #[.agg #[.int .i64 0, .int .i64 0], .bool false, .bool false]) ∧ Below w.heap.size w w' := by
  by_cases h0 : 0 ≤ n
  · have hm : mayB (n / 128) (n % 128 / 2) = false := mayB_no (by omega)
    have Hm := Lib.hid hm
    clear hm
    go_enter Try.func12, Try.ntmps12
    go_wp2_with fail
    refine (check_is Hm.out _).mono ?_
    rintro e w1 ⟨rfl, hb1⟩
    have hc1 := old_cell hb1
    have hf1 := old_mark hb1
    have q0 : w1.cell? ⟨w.heap.size, 0, none⟩ = some (.int .i64 0) := by rw [hc1 _ _ (by simp; omega)]; simp [go_sem]
    have q1 : w1.cell? ⟨w.heap.size, 1, none⟩ = some (.int .i64 0) := by rw [hc1 _ _ (by simp; omega)]; simp [go_sem]
    go_wp2
    refine bodyPost_ret (v := .tuple #[.agg #[.int .i64 0, .int .i64 0], .bool false, .bool false]) (by simp [results, Try.results12, go_sem, q0, q1]) rfl ⟨rfl, ?_⟩
    exact ((((Below.refl _ _).alloc (Nat.le_refl _) _).alloc (by simp) _).trans (hb1.mono (by simp; omega))).setCell (by simp) _ |>.setCell (by simp) _
  · have hm : ∀ r, mayB (n.tdiv 128) r = false := fun r => mayB_no (by have := tdiv_neg n (by omega); omega)
    have Hm := Lib.hid hm
    clear hm
    go_enter Try.func12, Try.ntmps12
    go_wp2_with fail
    refine (check_is (Hm.out _) _).mono ?_
    rintro e w1 ⟨rfl, hb1⟩
    have hc1 := old_cell hb1
    have hf1 := old_mark hb1
    have q0 : w1.cell? ⟨w.heap.size, 0, none⟩ = some (.int .i64 0) := by rw [hc1 _ _ (by simp; omega)]; simp [go_sem]
    have q1 : w1.cell? ⟨w.heap.size, 1, none⟩ = some (.int .i64 0) := by rw [hc1 _ _ (by simp; omega)]; simp [go_sem]
    go_wp2
    refine bodyPost_ret (v := .tuple #[.agg #[.int .i64 0, .int .i64 0], .bool false, .bool false]) (by simp [results, Try.results12, go_sem, q0, q1]) rfl ⟨rfl, ?_⟩
    exact ((((Below.refl _ _).alloc (Nat.le_refl _) _).alloc (by simp) _).trans (hb1.mono (by simp; omega))).setCell (by simp) _ |>.setCell (by simp) _
end Go.Proofs.Ytamnjmlnodhhmaa
