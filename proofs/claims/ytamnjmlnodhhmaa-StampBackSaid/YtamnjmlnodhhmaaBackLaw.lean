import Derived.Test.YtamnjmlnodhhmaaBoxes
import Derived.Deep.DeepCutAuto
namespace Go.Proofs.Ytamnjmlnodhhmaa
open Go.RowKit Go.Lib
/-- What of(n) is, in one word: its stamp, whether a file, whether a number. -/
def okB (n : Int) : Bool := decide (128 ≤ n ∧ n < 134217856)
theorem okB_true {n : Int} (h : okB n = true) : 128 ≤ n ∧ n < 134217856 := by simpa [okB] using h
theorem okB_false {n : Int} (h : okB n = false) : n < 128 ∨ 134217856 ≤ n := by
  have : ¬ (128 ≤ n ∧ n < 134217856) := by unfold okB at h; exact of_decide_eq_false h
  omega
theorem id_ok {c r : Int} (f : Bool) (h : mayB c r = true) : okB (idOf c r f) = true := by
  have := mayB_true h
  unfold okB idOf
  cases f <;> simp <;> omega
theorem id_c {c r : Int} (f : Bool) (h : mayB c r = true) : idOf c r f / 128 = c := by
  have := mayB_true h
  unfold idOf
  cases f <;> simp <;> omega
theorem id_r {c r : Int} (f : Bool) (h : mayB c r = true) : idOf c r f % 128 / 2 = r := by
  have := mayB_true h
  unfold idOf
  cases f <;> simp <;> omega
theorem id_f {c r : Int} (f : Bool) : decide (idOf c r f % 2 = 1) = f := by
  unfold idOf
  cases f <;> simp <;> omega
theorem id_bd {c r : Int} (f : Bool) (h : mayB c r = true) : 128 ≤ idOf c r f ∧ idOf c r f < 134217856 := okB_true (id_ok f h)
/-- Of, at a number that was made. -/
theorem of_id {c r : Int} (f : Bool) (h : mayB c r = true) (w : World) :
    Calls Try.prog 12 #[.int .i64 (idOf c r f)] w fun e w' => e = .returned (.tuple #[.agg #[.int .i64 c, .int .i64 r], .bool f, .bool true]) ∧ Below w.heap.size w w' := by
  have := of_yes (n := idOf c r f) (f := f) (id_f f) (id_bd f h).1 (id_bd f h).2 w
  rw [id_c f h, id_r f h] at this
  exact this
theorem dir_id {c r : Int} (f : Bool) (h : mayB c r = true) : dirB (idOf c r f) = !f := by
  have := id_bd f h
  have hf := @id_f c r f
  cases f with
  | true => exact (dirB_eq (by have := of_decide_eq_true hf; simp; omega)).symm
  | false => exact (dirB_eq (by have := of_decide_eq_false hf; simp; omega)).symm
theorem back_may {n : Int} (h : okB n = true) : mayB (n / 128) (n % 128 / 2) = true := by
  have := okB_true h
  exact mayB_mk (by omega)
theorem back_id {n : Int} (h : okB n = true) : idOf (n / 128) (n % 128 / 2) (decide (n % 2 = 1)) = n := by
  have := okB_true h
  unfold idOf
  by_cases e : n % 2 = 1
  · rw [decide_eq_true e]; simp; omega
  · rw [decide_eq_false e]; simp; omega
theorem of_ok {n : Int} (h : okB n = true) (w : World) :
    Calls Try.prog 12 #[.int .i64 n] w fun e w' => e = .returned (.tuple #[.agg #[.int .i64 (n / 128), .int .i64 (n % 128 / 2)], .bool (decide (n % 2 = 1)), .bool true]) ∧ Below w.heap.size w w' :=
  of_yes rfl (okB_true h).1 (okB_true h).2 w
theorem of_off {n : Int} (h : okB n = false) (hn : I64 n) (w : World) :
    Calls Try.prog 12 #[.int .i64 n] w fun e w' => e = .returned (.tuple #[.agg #[.int .i64 0, .int .i64 0], .bool false, .bool false]) ∧ Below w.heap.size w w' :=
  of_no (okB_false h) hn.1 hn.2 w
/-- The last number told back. -/
theorem id_back {n : Int} (h : okB n = true) (w : World) :
    Calls Try.prog 20 #[.agg #[.int .i64 (n / 128), .int .i64 (n % 128 / 2)], .bool (decide (n % 2 = 1))] w fun e w' => e = .returned (.int .i64 n) ∧ Below w.heap.size w w' := by
  have := id_yes (decide (n % 2 = 1)) (back_may h) w
  rw [back_id h] at this
  exact this
theorem beq_eq_decide_par (x : Int) : (x % 2 == 1) = decide (x % 2 = 1) := rfl
set_option maxRecDepth 100000 in
set_option maxHeartbeats 2000000 in
theorem back_tt (c r : Int) (n : Int) (w : World) (hm : mayB c r = true) (hk : okB n = true) (hn : I64 n) :
    Calls Try.prog 4 #[.agg #[.int .i64 c, .int .i64 r], .bool true, .int .i64 n] w fun e w' => e = .returned (.bool true) ∧ Below w.heap.size w w' := by
  obtain ⟨hi1, hi2⟩ := id_bd true hm
  have hpar : (idOf c r true % 2 == 1) = true := (beq_eq_decide_par _).trans (id_f true)
  have HD := Lib.hid (dir_id true hm)
  have HN := Lib.hid hn
  have Hm := Lib.hid hm
  have Hk := Lib.hid hk
  clear hm hk hn
  go_enter Try.func4, Try.ntmps4
  go_wp2_with fail
  refine (awake_any _).mono ?_
  rintro e w1 ⟨rfl, c1⟩
  obtain ⟨b1, ⟨qA, lA⟩⟩ := one_box c1
  clear c1
  go_wp2_with fail
  refine (id_yes true Hm.out _).mono ?_
  rintro e w2 ⟨rfl, c2⟩
  have b2 := step_b b1 c2
  obtain ⟨qA, lA⟩ := keep2 c2 qA
  clear b1 c2
  go_wp2_with fail
  refine (of_id true Hm.out _).mono ?_
  rintro e w3 ⟨rfl, c3⟩
  have b3 := step_b b2 c3
  obtain ⟨qA, lA⟩ := keep2 c3 qA
  clear b2 c3
  go_wp2_with fail
  refine (of_ok Hk.out _).mono ?_
  rintro e w4 ⟨rfl, c4⟩
  have b4 := step_a b3 c4
  obtain ⟨qT, lT⟩ := new2 c4
  obtain ⟨qA, lA⟩ := keep2a c4 qA
  clear b3 c4
  go_wp2_with fail
  refine (check_is Hm.out _).mono ?_
  rintro e w5 ⟨rfl, c5⟩
  have b5 := step_a b4 c5
  obtain ⟨qU, lU⟩ := new2 c5
  obtain ⟨qT, lT⟩ := keep2a c5 qT
  obtain ⟨qA, lA⟩ := keep2a c5 qA
  clear b4 c5
  go_wp2_with fail
  refine (dir_is HD.out (by omega) (by omega) _).mono ?_
  rintro e w6 ⟨rfl, c6⟩
  have b6 := step_b b5 c6
  obtain ⟨qU, lU⟩ := keep2 c6 qU
  clear b5 c6
  go_wp2_with fail
  refine (id_back Hk.out _).mono ?_
  rintro e w7 ⟨rfl, c7⟩
  have b7 := step_b b6 c7
  obtain ⟨qU, lU⟩ := keep2 c7 qU
  clear b6 c7
  go_wp2_with fail
  refine (check_is (back_may Hk.out) _).mono ?_
  rintro e w8 ⟨rfl, c8⟩
  have b8 := step_b b7 c8
  clear b7 c8
  go_wp2
  go_ret
  exact ⟨rfl, b8⟩
set_option maxRecDepth 100000 in
set_option maxHeartbeats 2000000 in
theorem back_tf (c r : Int) (n : Int) (w : World) (hm : mayB c r = true) (hk : okB n = false) (hn : I64 n) :
    Calls Try.prog 4 #[.agg #[.int .i64 c, .int .i64 r], .bool true, .int .i64 n] w fun e w' => e = .returned (.bool true) ∧ Below w.heap.size w w' := by
  obtain ⟨hi1, hi2⟩ := id_bd true hm
  have hpar : (idOf c r true % 2 == 1) = true := (beq_eq_decide_par _).trans (id_f true)
  have HD := Lib.hid (dir_id true hm)
  have HN := Lib.hid hn
  have Hm := Lib.hid hm
  have Hk := Lib.hid hk
  clear hm hk hn
  go_enter Try.func4, Try.ntmps4
  go_wp2_with fail
  refine (awake_any _).mono ?_
  rintro e w1 ⟨rfl, c1⟩
  obtain ⟨b1, ⟨qA, lA⟩⟩ := one_box c1
  clear c1
  go_wp2_with fail
  refine (id_yes true Hm.out _).mono ?_
  rintro e w2 ⟨rfl, c2⟩
  have b2 := step_b b1 c2
  obtain ⟨qA, lA⟩ := keep2 c2 qA
  clear b1 c2
  go_wp2_with fail
  refine (of_id true Hm.out _).mono ?_
  rintro e w3 ⟨rfl, c3⟩
  have b3 := step_b b2 c3
  obtain ⟨qA, lA⟩ := keep2 c3 qA
  clear b2 c3
  go_wp2_with fail
  refine (of_off Hk.out HN.out _).mono ?_
  rintro e w4 ⟨rfl, c4⟩
  have b4 := step_a b3 c4
  obtain ⟨qT, lT⟩ := new2 c4
  obtain ⟨qA, lA⟩ := keep2a c4 qA
  clear b3 c4
  go_wp2_with fail
  refine (check_is Hm.out _).mono ?_
  rintro e w5 ⟨rfl, c5⟩
  have b5 := step_a b4 c5
  obtain ⟨qU, lU⟩ := new2 c5
  obtain ⟨qT, lT⟩ := keep2a c5 qT
  obtain ⟨qA, lA⟩ := keep2a c5 qA
  clear b4 c5
  go_wp2_with fail
  refine (dir_is HD.out (by omega) (by omega) _).mono ?_
  rintro e w6 ⟨rfl, c6⟩
  have b6 := step_b b5 c6
  obtain ⟨qU, lU⟩ := keep2 c6 qU
  clear b5 c6
  go_wp2
  go_ret
  exact ⟨rfl, b6⟩
set_option maxRecDepth 100000 in
set_option maxHeartbeats 2000000 in
theorem back_ft (c r : Int) (n : Int) (w : World) (hm : mayB c r = true) (hk : okB n = true) (hn : I64 n) :
    Calls Try.prog 4 #[.agg #[.int .i64 c, .int .i64 r], .bool false, .int .i64 n] w fun e w' => e = .returned (.bool true) ∧ Below w.heap.size w w' := by
  obtain ⟨hi1, hi2⟩ := id_bd false hm
  have hpar : (idOf c r false % 2 == 1) = false := (beq_eq_decide_par _).trans (id_f false)
  have HD := Lib.hid (dir_id false hm)
  have HN := Lib.hid hn
  have Hm := Lib.hid hm
  have Hk := Lib.hid hk
  clear hm hk hn
  go_enter Try.func4, Try.ntmps4
  go_wp2_with fail
  refine (awake_any _).mono ?_
  rintro e w1 ⟨rfl, c1⟩
  obtain ⟨b1, ⟨qA, lA⟩⟩ := one_box c1
  clear c1
  go_wp2_with fail
  refine (id_yes false Hm.out _).mono ?_
  rintro e w2 ⟨rfl, c2⟩
  have b2 := step_b b1 c2
  obtain ⟨qA, lA⟩ := keep2 c2 qA
  clear b1 c2
  go_wp2_with fail
  refine (of_id false Hm.out _).mono ?_
  rintro e w3 ⟨rfl, c3⟩
  have b3 := step_b b2 c3
  obtain ⟨qA, lA⟩ := keep2 c3 qA
  clear b2 c3
  go_wp2_with fail
  refine (of_ok Hk.out _).mono ?_
  rintro e w4 ⟨rfl, c4⟩
  have b4 := step_a b3 c4
  obtain ⟨qT, lT⟩ := new2 c4
  obtain ⟨qA, lA⟩ := keep2a c4 qA
  clear b3 c4
  go_wp2_with fail
  refine (check_is Hm.out _).mono ?_
  rintro e w5 ⟨rfl, c5⟩
  have b5 := step_a b4 c5
  obtain ⟨qU, lU⟩ := new2 c5
  obtain ⟨qT, lT⟩ := keep2a c5 qT
  obtain ⟨qA, lA⟩ := keep2a c5 qA
  clear b4 c5
  go_wp2_with fail
  refine (dir_is HD.out (by omega) (by omega) _).mono ?_
  rintro e w6 ⟨rfl, c6⟩
  have b6 := step_b b5 c6
  obtain ⟨qU, lU⟩ := keep2 c6 qU
  clear b5 c6
  go_wp2_with fail
  refine (id_back Hk.out _).mono ?_
  rintro e w7 ⟨rfl, c7⟩
  have b7 := step_b b6 c7
  obtain ⟨qU, lU⟩ := keep2 c7 qU
  clear b6 c7
  go_wp2_with fail
  refine (check_is (back_may Hk.out) _).mono ?_
  rintro e w8 ⟨rfl, c8⟩
  have b8 := step_b b7 c8
  clear b7 c8
  go_wp2
  go_ret
  exact ⟨rfl, b8⟩
set_option maxRecDepth 100000 in
set_option maxHeartbeats 2000000 in
theorem back_ff (c r : Int) (n : Int) (w : World) (hm : mayB c r = true) (hk : okB n = false) (hn : I64 n) :
    Calls Try.prog 4 #[.agg #[.int .i64 c, .int .i64 r], .bool false, .int .i64 n] w fun e w' => e = .returned (.bool true) ∧ Below w.heap.size w w' := by
  obtain ⟨hi1, hi2⟩ := id_bd false hm
  have hpar : (idOf c r false % 2 == 1) = false := (beq_eq_decide_par _).trans (id_f false)
  have HD := Lib.hid (dir_id false hm)
  have HN := Lib.hid hn
  have Hm := Lib.hid hm
  have Hk := Lib.hid hk
  clear hm hk hn
  go_enter Try.func4, Try.ntmps4
  go_wp2_with fail
  refine (awake_any _).mono ?_
  rintro e w1 ⟨rfl, c1⟩
  obtain ⟨b1, ⟨qA, lA⟩⟩ := one_box c1
  clear c1
  go_wp2_with fail
  refine (id_yes false Hm.out _).mono ?_
  rintro e w2 ⟨rfl, c2⟩
  have b2 := step_b b1 c2
  obtain ⟨qA, lA⟩ := keep2 c2 qA
  clear b1 c2
  go_wp2_with fail
  refine (of_id false Hm.out _).mono ?_
  rintro e w3 ⟨rfl, c3⟩
  have b3 := step_b b2 c3
  obtain ⟨qA, lA⟩ := keep2 c3 qA
  clear b2 c3
  go_wp2_with fail
  refine (of_off Hk.out HN.out _).mono ?_
  rintro e w4 ⟨rfl, c4⟩
  have b4 := step_a b3 c4
  obtain ⟨qT, lT⟩ := new2 c4
  obtain ⟨qA, lA⟩ := keep2a c4 qA
  clear b3 c4
  go_wp2_with fail
  refine (check_is Hm.out _).mono ?_
  rintro e w5 ⟨rfl, c5⟩
  have b5 := step_a b4 c5
  obtain ⟨qU, lU⟩ := new2 c5
  obtain ⟨qT, lT⟩ := keep2a c5 qT
  obtain ⟨qA, lA⟩ := keep2a c5 qA
  clear b4 c5
  go_wp2_with fail
  refine (dir_is HD.out (by omega) (by omega) _).mono ?_
  rintro e w6 ⟨rfl, c6⟩
  have b6 := step_b b5 c6
  obtain ⟨qU, lU⟩ := keep2 c6 qU
  clear b5 c6
  go_wp2
  go_ret
  exact ⟨rfl, b6⟩
set_option maxRecDepth 100000 in
set_option maxHeartbeats 2000000 in
theorem back_nt (c r : Int) (f : Bool) (n : Int) (w : World) (hm : mayB c r = false) (hk : okB n = true) (hn : I64 n) :
    Calls Try.prog 4 #[.agg #[.int .i64 c, .int .i64 r], .bool f, .int .i64 n] w fun e w' => e = .returned (.bool true) ∧ Below w.heap.size w w' := by
  have HN := Lib.hid hn
  have Hm := Lib.hid hm
  have Hk := Lib.hid hk
  clear hm hk hn
  go_enter Try.func4, Try.ntmps4
  go_wp2_with fail
  refine (awake_any _).mono ?_
  rintro e w1 ⟨rfl, c1⟩
  obtain ⟨b1, ⟨qA, lA⟩⟩ := one_box c1
  clear c1
  go_wp2_with fail
  refine (id_no f Hm.out _).mono ?_
  rintro e w2 ⟨rfl, c2⟩
  have b2 := step_b b1 c2
  obtain ⟨qA, lA⟩ := keep2 c2 qA
  clear b1 c2
  go_wp2_with fail
  refine (of_no (n := -1) (by omega) (by omega) (by omega) _).mono ?_
  rintro e w3 ⟨rfl, c3⟩
  have b3 := step_b b2 c3
  obtain ⟨qA, lA⟩ := keep2 c3 qA
  clear b2 c3
  go_wp2_with fail
  refine (of_ok Hk.out _).mono ?_
  rintro e w4 ⟨rfl, c4⟩
  have b4 := step_a b3 c4
  obtain ⟨qT, lT⟩ := new2 c4
  obtain ⟨qA, lA⟩ := keep2a c4 qA
  clear b3 c4
  go_wp2_with fail
  refine (check_is Hm.out _).mono ?_
  rintro e w5 ⟨rfl, c5⟩
  have b5 := step_a b4 c5
  obtain ⟨qU, lU⟩ := new2 c5
  obtain ⟨qT, lT⟩ := keep2a c5 qT
  obtain ⟨qA, lA⟩ := keep2a c5 qA
  clear b4 c5
  go_wp2_with fail
  refine (id_back Hk.out _).mono ?_
  rintro e w6 ⟨rfl, c6⟩
  have b6 := step_b b5 c6
  obtain ⟨qU, lU⟩ := keep2 c6 qU
  clear b5 c6
  go_wp2_with fail
  refine (check_is (back_may Hk.out) _).mono ?_
  rintro e w7 ⟨rfl, c7⟩
  have b7 := step_b b6 c7
  clear b6 c7
  go_wp2
  go_ret
  exact ⟨rfl, b7⟩
set_option maxRecDepth 100000 in
set_option maxHeartbeats 2000000 in
theorem back_nf (c r : Int) (f : Bool) (n : Int) (w : World) (hm : mayB c r = false) (hk : okB n = false) (hn : I64 n) :
    Calls Try.prog 4 #[.agg #[.int .i64 c, .int .i64 r], .bool f, .int .i64 n] w fun e w' => e = .returned (.bool true) ∧ Below w.heap.size w w' := by
  have HN := Lib.hid hn
  have Hm := Lib.hid hm
  have Hk := Lib.hid hk
  clear hm hk hn
  go_enter Try.func4, Try.ntmps4
  go_wp2_with fail
  refine (awake_any _).mono ?_
  rintro e w1 ⟨rfl, c1⟩
  obtain ⟨b1, ⟨qA, lA⟩⟩ := one_box c1
  clear c1
  go_wp2_with fail
  refine (id_no f Hm.out _).mono ?_
  rintro e w2 ⟨rfl, c2⟩
  have b2 := step_b b1 c2
  obtain ⟨qA, lA⟩ := keep2 c2 qA
  clear b1 c2
  go_wp2_with fail
  refine (of_no (n := -1) (by omega) (by omega) (by omega) _).mono ?_
  rintro e w3 ⟨rfl, c3⟩
  have b3 := step_b b2 c3
  obtain ⟨qA, lA⟩ := keep2 c3 qA
  clear b2 c3
  go_wp2_with fail
  refine (of_off Hk.out HN.out _).mono ?_
  rintro e w4 ⟨rfl, c4⟩
  have b4 := step_a b3 c4
  obtain ⟨qT, lT⟩ := new2 c4
  obtain ⟨qA, lA⟩ := keep2a c4 qA
  clear b3 c4
  go_wp2_with fail
  refine (check_is Hm.out _).mono ?_
  rintro e w5 ⟨rfl, c5⟩
  have b5 := step_a b4 c5
  obtain ⟨qU, lU⟩ := new2 c5
  obtain ⟨qT, lT⟩ := keep2a c5 qT
  obtain ⟨qA, lA⟩ := keep2a c5 qA
  clear b4 c5
  go_wp2
  go_ret
  exact ⟨rfl, b5⟩
theorem back_walk (c r : Int) (f : Bool) (n : Int) (w : World) (_ha : I64 c ∧ I64 r) (hn : (Lit.int .i64 n).wf = true) :
    Calls Try.prog 4 #[.agg #[.int .i64 c, .int .i64 r], .bool f, .int .i64 n] w fun e w' => e = .returned (.bool true) ∧ Below w.heap.size w w' := by
  cases hm : mayB c r <;> cases hk : okB n
  · exact back_nf c r f n w hm hk (i64_wf hn)
  · exact back_nt c r f n w hm hk (i64_wf hn)
  · cases f
    · exact back_ff c r n w hm hk (i64_wf hn)
    · exact back_tf c r n w hm hk (i64_wf hn)
  · cases f
    · exact back_ft c r n w hm hk (i64_wf hn)
    · exact back_tt c r n w hm hk (i64_wf hn)
end Go.Proofs.Ytamnjmlnodhhmaa
