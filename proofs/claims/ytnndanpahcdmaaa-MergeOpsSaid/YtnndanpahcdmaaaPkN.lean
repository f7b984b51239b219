/- Several texts of this seat in one, in build order. -/
import GoSem.Op.String
import Derived.Test.YtnndanpahcdmaaaChecked
import Derived.WalkKit
import Derived.WalkLawsBesides
import Derived.WalkMore
import Derived.Lib.Hide
import Derived.LoopTactic
import Derived.Test.YtnndanpahcdmaaaLater
/-
  PLAIN LEAN, NO RUN OF ANY PROGRAM: which stamps may be, their order, their numbers, and what was seen, on integers; what follows of them.
-/
namespace Go.Proofs.Ytnndanpahcdmaaa
/-- May a stamp be? -/
def mayB (c r : Int) : Bool := decide (1 ≤ c ∧ c ≤ 1048576 ∧ 0 ≤ r ∧ r ≤ 63)
def lessS (c r d s : Int) : Bool := decide (c < d ∨ (c = d ∧ r < s))
def idOf (c r : Int) (f : Bool) : Int := 128 * c + 2 * r + (if f then 1 else 0)
def idI (c r : Int) (f : Bool) : Int := if mayB c r then idOf c r f else -1
theorem mayB_true {c r : Int} (h : mayB c r = true) : 1 ≤ c ∧ c ≤ 1048576 ∧ 0 ≤ r ∧ r ≤ 63 := by simpa [mayB] using h
theorem mayB_mk {c r : Int} (h : 1 ≤ c ∧ c ≤ 1048576 ∧ 0 ≤ r ∧ r ≤ 63) : mayB c r = true := by simpa [mayB] using h
theorem mayB_false {c r : Int} (h : mayB c r = false) : ¬ (1 ≤ c ∧ c ≤ 1048576 ∧ 0 ≤ r ∧ r ≤ 63) := by simpa [mayB] using h
theorem mayB_no {c r : Int} (h : ¬ (1 ≤ c ∧ c ≤ 1048576 ∧ 0 ≤ r ∧ r ≤ 63)) : mayB c r = false := by simpa [mayB] using h
theorem lessS_true {c r d s : Int} (h : lessS c r d s = true) : c < d ∨ (c = d ∧ r < s) := by simpa [lessS] using h
theorem lessS_mk {c r d s : Int} (h : c < d ∨ (c = d ∧ r < s)) : lessS c r d s = true := by simpa [lessS] using h
theorem lessS_false {c r d s : Int} (h : lessS c r d s = false) : ¬ (c < d ∨ (c = d ∧ r < s)) := by unfold lessS at h; exact of_decide_eq_false h
theorem lessS_no {c r d s : Int} (h : ¬ (c < d ∨ (c = d ∧ r < s))) : lessS c r d s = false := by unfold lessS; exact decide_eq_false h
/-- What was seen. -/
def seenI : Int → List (Int × Int) → Int
  | n, [] => n
  | n, s :: l => seenI (if mayB s.1 s.2 then max n s.1 else n) l
theorem seenI_append (n : Int) (a b : List (Int × Int)) : seenI n (a ++ b) = seenI (seenI n a) b := by
  induction a generalizing n with
  | nil => rfl
  | cons s a ih => simp only [List.cons_append, seenI, ih]
theorem seenI_snoc (n : Int) (l : List (Int × Int)) (k : Nat) (s : Int × Int) (h : l[k]? = some s) :
    seenI n (l.take (k + 1)) = if mayB s.1 s.2 then max (seenI n (l.take k)) s.1 else seenI n (l.take k) := by
  rw [List.take_add_one, h, seenI_append]; rfl
theorem seenI_ge (n : Int) (l : List (Int × Int)) : n ≤ seenI n l := by
  induction l generalizing n with
  | nil => exact Int.le_refl _
  | cons s l ih =>
    simp only [seenI]
    split
    · have := ih (max n s.1)
      omega
    · exact ih n
theorem seenI_max (n m : Int) (l : List (Int × Int)) : seenI (max n m) l = max n (seenI m l) := by
  induction l generalizing n m with
  | nil => rfl
  | cons s l ih =>
    simp only [seenI]
    split
    · rw [← ih]; congr 1; omega
    · rw [ih]
theorem seenI_swap (n : Int) (a b : List (Int × Int)) : seenI n (a ++ b) = seenI (seenI n b) a := by
  rw [seenI_append]
  have h1 := seenI_ge n a
  have h2 := seenI_ge n b
  have e1 : seenI (seenI n a) b = max (seenI n a) (seenI n b) := by
    rw [← seenI_max]; congr 1; omega
  have e2 : seenI (seenI n b) a = max (seenI n b) (seenI n a) := by
    rw [← seenI_max]; congr 1; omega
  rw [e1, e2]; omega
theorem seenI_mem (n : Int) (l : List (Int × Int)) (k : Nat) (s : Int × Int) (h : l[k]? = some s) (hm : mayB s.1 s.2 = true) : s.1 ≤ seenI n l := by
  have e : l = l.take (k + 1) ++ l.drop (k + 1) := (List.take_append_drop _ _).symm
  rw [e, seenI_append]
  have h1 := seenI_ge (seenI n (l.take (k + 1))) (l.drop (k + 1))
  have h2 := seenI_snoc n l k s h
  rw [if_pos hm] at h2
  omega
theorem seenI_le (n : Int) (l : List (Int × Int)) (hn : n ≤ 1048576) : seenI n l ≤ 1048576 := by
  induction l generalizing n with
  | nil => exact hn
  | cons s l ih =>
    simp only [seenI]
    split
    · rename_i h
      have := mayB_true h
      exact ih _ (by omega)
    · exact ih _ hn
end Go.Proofs.Ytnndanpahcdmaaa
namespace Go.Proofs.Ytnndanpahcdmaaa
open Go.RowKit Go.Lib
theorem sret_bool {a b : Bool} (h : a = b) : Ending.returned (.bool a) = .returned (.bool b) := by rw [h]
def nearC (c : Int) : Int := min (max c 1) 1048576
def nearR (r : Int) : Int := min (max r 0) 63
theorem ret_agg {a b c d : Int} (h : a = c) (h' : b = d) : Ending.returned (.agg #[.int .i64 a, .int .i64 b]) = .returned (.agg #[.int .i64 c, .int .i64 d]) := by rw [h, h']
set_option maxRecDepth 100000 in
set_option maxHeartbeats 1000000 in
theorem nearest_any (c r : Int) (w : World) :
    Calls Try.prog 65 #[.agg #[.int .i64 c, .int .i64 r]] w fun e w' => e = .returned (.agg #[.int .i64 (nearC c), .int .i64 (nearR r)]) ∧ Below w.heap.size w w' := by
  go_enter Try.func65, Try.ntmps65
  go_wp2
  all_goals
    refine bodyPost_ret (v := .agg #[.int .i64 _, .int .i64 _]) (by simp [results, Try.results65, go_sem]; exact ⟨rfl, rfl⟩) rfl ⟨ret_agg (by unfold nearC; omega) (by unfold nearR; omega), ?_⟩
    exact ((Below.refl _ _).alloc (Nat.le_refl _) _).alloc (by simp) _
theorem near_may {c r : Int} (h : mayB c r = true) : nearC c = c ∧ nearR r = r := by
  have := mayB_true h; unfold nearC nearR; omega
theorem near_not {c r : Int} (h : mayB c r = false) : ¬ (c = nearC c ∧ r = nearR r) := by
  have := mayB_false h; unfold nearC nearR; omega
theorem near_yes (c r : Int) (h : mayB c r = true) (w : World) :
    Calls Try.prog 65 #[.agg #[.int .i64 c, .int .i64 r]] w fun e w' => e = .returned (.agg #[.int .i64 c, .int .i64 r]) ∧ Below w.heap.size w w' := by
  have := nearest_any c r w
  rw [(near_may h).1, (near_may h).2] at this
  exact this
set_option maxRecDepth 100000 in
set_option maxHeartbeats 1000000 in
theorem scheck_any (c r : Int) (w : World) :
    Calls Try.prog 41 #[.agg #[.int .i64 c, .int .i64 r]] w fun e w' => e = .returned (.bool (mayB c r)) ∧ Below w.heap.size w w' := by
  cases hm : mayB c r with
  | true =>
    have Hm := Lib.hid hm
    clear hm
    go_enter Try.func41, Try.ntmps41
    go_wp2_with fail
    refine wp_region_later (by kernel_rfl) (by kernel_rfl) (fun hL => ?_)
    repeat (go_big_quiet_step ((refine later_calls (near_yes _ _ Hm.out _))))
    refine wpQuiet_nil ?_
    intro w2 hw2
    have hb2 := later_out hw2
    clear hw2 hL
    go_wp2
    go_ret
    exact ⟨rfl, ((Below.refl _ _).alloc (Nat.le_refl _) _).trans (hb2.mono (by simp))⟩
  | false =>
    have Hm := Lib.hid hm
    have hn := near_not hm
    clear hm
    by_cases hc : c = nearC c
    · have hr : (r == nearR r) = false := beq_eq_false_iff_ne.2 fun e => hn ⟨hc, e⟩
      have hc' : (c == nearC c) = true := beq_iff_eq.2 hc
      clear hc hn
      go_enter Try.func41, Try.ntmps41
      go_wp2_with fail
      refine wp_region_later (by kernel_rfl) (by kernel_rfl) (fun hL => ?_)
      repeat (go_big_quiet_step ((refine later_calls (nearest_any _ _ _))))
      refine wpQuiet_nil ?_
      intro w2 hw2
      have hb2 := later_out hw2
      clear hw2 hL
      go_wp2
      go_ret
      exact ⟨rfl, ((Below.refl _ _).alloc (Nat.le_refl _) _).trans (hb2.mono (by simp))⟩
    · have hc' : (c == nearC c) = false := beq_eq_false_iff_ne.2 hc
      clear hc hn
      go_enter Try.func41, Try.ntmps41
      go_wp2_with fail
      refine wp_region_later (by kernel_rfl) (by kernel_rfl) (fun hL => ?_)
      repeat (go_big_quiet_step ((refine later_calls (nearest_any _ _ _))))
      refine wpQuiet_nil ?_
      intro w2 hw2
      have hb2 := later_out hw2
      clear hw2 hL
      go_wp2
      go_ret
      exact ⟨rfl, ((Below.refl _ _).alloc (Nat.le_refl _) _).trans (hb2.mono (by simp))⟩
theorem check_is {c r : Int} {b : Bool} (h : mayB c r = b) (w : World) :
    Calls Try.prog 41 #[.agg #[.int .i64 c, .int .i64 r]] w fun e w' => e = .returned (.bool b) ∧ Below w.heap.size w w' := by
  rw [← h]; exact scheck_any c r w
set_option maxRecDepth 100000 in
set_option maxHeartbeats 1000000 in
theorem sless_any (c r d s : Int) (w : World) :
    Calls Try.prog 23 #[.agg #[.int .i64 c, .int .i64 r], .agg #[.int .i64 d, .int .i64 s]] w fun e w' => e = .returned (.bool (lessS c r d s)) ∧ Below w.heap.size w w' := by
  go_enter Try.func23, Try.ntmps23
  go_wp2
  all_goals
    go_ret
    refine ⟨sret_bool ?_, ((Below.refl _ _).alloc (Nat.le_refl _) _).alloc (by simp) _⟩
    unfold lessS
    first | exact decide_eq_decide.2 (by omega) | exact (decide_eq_true (by omega)).symm
theorem less_is {c r d s : Int} {b : Bool} (h : lessS c r d s = b) (w : World) :
    Calls Try.prog 23 #[.agg #[.int .i64 c, .int .i64 r], .agg #[.int .i64 d, .int .i64 s]] w fun e w' => e = .returned (.bool b) ∧ Below w.heap.size w w' := by
  rw [← h]; exact sless_any c r d s w
set_option maxRecDepth 100000 in
set_option maxHeartbeats 1000000 in
theorem rless_is {c r d s : Int} {b : Bool} (h : lessS c r d s = b) (w : World) :
    Calls Try.prog 49 #[.agg #[.int .i64 c, .int .i64 r], .agg #[.int .i64 d, .int .i64 s]] w fun e w' => e = .returned (.bool b) ∧ Below w.heap.size w w' := by
  rw [← h]
  clear h
  go_enter Try.func49, Try.ntmps49
  go_wp2
  all_goals
    go_ret
    refine ⟨sret_bool ?_, ((Below.refl _ _).alloc (Nat.le_refl _) _).alloc (by simp) _⟩
    unfold lessS
    first | exact decide_eq_decide.2 (by omega) | exact (decide_eq_true (by omega)).symm
set_option maxRecDepth 100000 in
set_option maxHeartbeats 1000000 in
theorem rcheck_is {c r : Int} {b : Bool} (h : mayB c r = b) (w : World) :
    Calls Try.prog 47 #[.agg #[.int .i64 c, .int .i64 r]] w fun e w' => e = .returned (.bool b) ∧ Below w.heap.size w w' := by
  rw [← h]
  clear h
  go_enter Try.func47, Try.ntmps47
  go_wp2
  all_goals
    go_ret
    refine ⟨sret_bool ?_, (Below.refl _ _).alloc (Nat.le_refl _) _⟩
    unfold mayB
    first | exact decide_eq_decide.2 (by omega) | exact (decide_eq_true (by omega)).symm | exact (decide_eq_false (by omega)).symm
end Go.Proofs.Ytnndanpahcdmaaa
namespace Go.Proofs.Ytnndanpahcdmaaa
open Go.RowKit Go.Lib
theorem ret_int {a b : Int} (h : a = b) : Ending.returned (.int .i64 a) = .returned (.int .i64 b) := by rw [h]
/-- What a number says, if it is one. -/
def ofV (n : Int) : Value := .tuple #[.agg #[.int .i64 (n / 128), .int .i64 (n % 128 / 2)], .bool (decide (n % 2 = 1)), .bool true]
def noV : Value := .tuple #[.agg #[.int .i64 0, .int .i64 0], .bool false, .bool false]
set_option maxRecDepth 100000 in
set_option maxHeartbeats 1000000 in
theorem of_yes {n : Int} {f : Bool} (hf : decide (n % 2 = 1) = f) (h1 : 128 ≤ n) (h2 : n < 134217856) (w : World) :
    Calls Try.prog 66 #[.int .i64 n] w fun e w' => e = .returned (.tuple #[.agg #[.int .i64 (n / 128), .int .i64 (n % 128 / 2)], .bool f, .bool true]) ∧ Below w.heap.size w w' := by
  have hm : mayB (n / 128) (n % 128 / 2) = true := mayB_mk (by omega)
  have hq : (n % 2 == 1) = f := by rw [← hf]; rfl
  have Hm := Lib.hid hm
  clear hm hf
  go_enter Try.func66, Try.ntmps66
  go_wp2_with fail
  refine (check_is Hm.out _).mono ?_
  rintro e w1 ⟨rfl, hb1⟩
  have hc1 := old_cell hb1
  have hf1 := old_mark hb1
  have q0 : w1.cell? ⟨w.heap.size, 0, none⟩ = some (.int .i64 0) := by rw [hc1 _ _ (by simp; omega)]; simp [go_sem]
  have q1 : w1.cell? ⟨w.heap.size, 1, none⟩ = some (.int .i64 0) := by rw [hc1 _ _ (by simp; omega)]; simp [go_sem]
  go_wp2
  refine bodyPost_ret (v := .tuple #[.agg #[.int .i64 (n / 128), .int .i64 (n % 128 / 2)], .bool f, .bool true]) (by simp [results, Try.results66, go_sem, q0, q1]) rfl ⟨rfl, ?_⟩
  exact ((((Below.refl _ _).alloc (Nat.le_refl _) _).alloc (by simp) _).trans (hb1.mono (by simp; omega))).setCell (by simp) _ |>.setCell (by simp) _
theorem tdiv_neg (n : Int) (h : n < 0) : n.tdiv 128 ≤ 0 := by
  have h1 := Int.tdiv_eq_ediv_of_nonneg (a := -n) (b := 128) (by omega)
  rw [Int.neg_tdiv] at h1
  omega
set_option maxRecDepth 100000 in
set_option maxHeartbeats 1000000 in
theorem of_no {n : Int} (h : n < 128 ∨ 134217856 ≤ n) (hl : -9223372036854775808 ≤ n) (hh : n ≤ 9223372036854775807) (w : World) :
    Calls Try.prog 66 #[.int .i64 n] w fun e w' => e = .returned (.tuple #[.agg #[.int .i64 0, .int .i64 0], .bool false, .bool false]) ∧ Below w.heap.size w w' := by
  by_cases h0 : 0 ≤ n
  · have hm : mayB (n / 128) (n % 128 / 2) = false := mayB_no (by omega)
    have Hm := Lib.hid hm
    clear hm
    go_enter Try.func66, Try.ntmps66
    go_wp2_with fail
    refine (check_is Hm.out _).mono ?_
    rintro e w1 ⟨rfl, hb1⟩
    have hc1 := old_cell hb1
    have hf1 := old_mark hb1
    have q0 : w1.cell? ⟨w.heap.size, 0, none⟩ = some (.int .i64 0) := by rw [hc1 _ _ (by simp; omega)]; simp [go_sem]
    have q1 : w1.cell? ⟨w.heap.size, 1, none⟩ = some (.int .i64 0) := by rw [hc1 _ _ (by simp; omega)]; simp [go_sem]
    go_wp2
    refine bodyPost_ret (v := .tuple #[.agg #[.int .i64 0, .int .i64 0], .bool false, .bool false]) (by simp [results, Try.results66, go_sem, q0, q1]) rfl ⟨rfl, ?_⟩
    exact ((((Below.refl _ _).alloc (Nat.le_refl _) _).alloc (by simp) _).trans (hb1.mono (by simp; omega))).setCell (by simp) _ |>.setCell (by simp) _
  · have hm : ∀ r, mayB (n.tdiv 128) r = false := fun r => mayB_no (by have := tdiv_neg n (by omega); omega)
    have Hm := Lib.hid hm
    clear hm
    go_enter Try.func66, Try.ntmps66
    go_wp2_with fail
    refine (check_is (Hm.out _) _).mono ?_
    rintro e w1 ⟨rfl, hb1⟩
    have hc1 := old_cell hb1
    have hf1 := old_mark hb1
    have q0 : w1.cell? ⟨w.heap.size, 0, none⟩ = some (.int .i64 0) := by rw [hc1 _ _ (by simp; omega)]; simp [go_sem]
    have q1 : w1.cell? ⟨w.heap.size, 1, none⟩ = some (.int .i64 0) := by rw [hc1 _ _ (by simp; omega)]; simp [go_sem]
    go_wp2
    refine bodyPost_ret (v := .tuple #[.agg #[.int .i64 0, .int .i64 0], .bool false, .bool false]) (by simp [results, Try.results66, go_sem, q0, q1]) rfl ⟨rfl, ?_⟩
    exact ((((Below.refl _ _).alloc (Nat.le_refl _) _).alloc (by simp) _).trans (hb1.mono (by simp; omega))).setCell (by simp) _ |>.setCell (by simp) _
end Go.Proofs.Ytnndanpahcdmaaa
namespace Go.Proofs.Ytnndanpahcdmaaa
open Go.RowKit Go.Lib
set_option maxRecDepth 100000 in
set_option maxHeartbeats 1000000 in
theorem rof_yes {n : Int} {f : Bool} (hf : decide (n % 2 = 1) = f) (h1 : 128 ≤ n) (h2 : n < 134217856) (w : World) :
    Calls Try.prog 48 #[.int .i64 n] w fun e w' => e = .returned (.tuple #[.agg #[.int .i64 (n / 128), .int .i64 (n % 128 / 2)], .bool f, .bool true]) ∧ Below w.heap.size w w' := by
  have hq : (n % 2 == 1) = f := by rw [← hf]; rfl
  clear hf
  go_enter Try.func48, Try.ntmps48
  go_wp2
  refine bodyPost_ret (v := .tuple #[.agg #[.int .i64 (n / 128), .int .i64 (n % 128 / 2)], .bool f, .bool true]) (by simp [results, Try.results48, go_sem]) rfl ⟨rfl, ?_⟩
  exact (Below.refl _ _).alloc (Nat.le_refl _) _
set_option maxRecDepth 100000 in
set_option maxHeartbeats 1000000 in
theorem rof_no {n : Int} (h : n < 128 ∨ 134217856 ≤ n) (w : World) :
    Calls Try.prog 48 #[.int .i64 n] w fun e w' => e = .returned (.tuple #[.agg #[.int .i64 0, .int .i64 0], .bool false, .bool false]) ∧ Below w.heap.size w w' := by
  rcases h with h | h
  · go_enter Try.func48, Try.ntmps48
    go_wp2
    refine bodyPost_ret (v := .tuple #[.agg #[.int .i64 0, .int .i64 0], .bool false, .bool false]) (by simp [results, Try.results48, go_sem]) rfl ⟨rfl, ?_⟩
    exact (Below.refl _ _).alloc (Nat.le_refl _) _
  · go_enter Try.func48, Try.ntmps48
    go_wp2
    refine bodyPost_ret (v := .tuple #[.agg #[.int .i64 0, .int .i64 0], .bool false, .bool false]) (by simp [results, Try.results48, go_sem]) rfl ⟨rfl, ?_⟩
    exact (Below.refl _ _).alloc (Nat.le_refl _) _
def dirB (n : Int) : Bool := decide ((128 ≤ n ∧ n < 134217856 ∧ n % 2 ≠ 1) ∨ n = 0 ∨ n = 2)
theorem dirB_eq {n : Int} {b : Bool} (h : b = true ↔ ((128 ≤ n ∧ n < 134217856 ∧ n % 2 ≠ 1) ∨ n = 0 ∨ n = 2)) : b = dirB n := by
  unfold dirB
  rw [Bool.eq_iff_iff, decide_eq_true_eq]; exact h
set_option maxRecDepth 100000 in
set_option maxHeartbeats 1000000 in
theorem dir_is {n : Int} {b : Bool} (h : dirB n = b) (hl : -9223372036854775808 ≤ n) (hh : n ≤ 9223372036854775807) (w : World) :
    Calls Try.prog 107 #[.int .i64 n] w fun e w' => e = .returned (.bool b) ∧ Below w.heap.size w w' := by
  rw [← h]
  clear h b
  by_cases hr : 128 ≤ n ∧ n < 134217856
  · obtain ⟨h1, h2⟩ := hr
    have hn0 : (n == 0) = false := beq_eq_false_iff_ne.2 (by omega)
    have hn2 : (n == 2) = false := beq_eq_false_iff_ne.2 (by omega)
    cases hf : decide (n % 2 = 1)
    all_goals
      have Hf := Lib.hid hf
      clear hf
      go_enter Try.func107, Try.ntmps107
      go_wp2_with fail
      refine (of_yes Hf.out h1 h2 _).mono ?_
      rintro e w1 ⟨rfl, hb1⟩
      have hc1 := old_cell hb1
      have hf1 := old_mark hb1
      go_wp2
      go_ret
      have := Hf.out
      simp only [decide_eq_true_eq, decide_eq_false_iff_not] at this
      exact ⟨sret_bool (dirB_eq (by simp; omega)), hb1.alloc hb1.size _⟩
  · have hr' : n < 128 ∨ 134217856 ≤ n := by omega
    clear hr
    have Hr := Lib.hid hr'
    clear hr'
    go_enter Try.func107, Try.ntmps107
    go_wp2_with fail
    refine (of_no Hr.out hl hh _).mono ?_
    rintro e w1 ⟨rfl, hb1⟩
    have hc1 := old_cell hb1
    have hf1 := old_mark hb1
    go_wp2
    all_goals
      go_ret
      have := Hr.out
      exact ⟨sret_bool (dirB_eq (by simp; omega)), hb1.alloc hb1.size _⟩
set_option maxRecDepth 100000 in
set_option maxHeartbeats 1000000 in
theorem rdir_is {n : Int} {b : Bool} (h : dirB n = b) (w : World) :
    Calls Try.prog 50 #[.int .i64 n] w fun e w' => e = .returned (.bool b) ∧ Below w.heap.size w w' := by
  rw [← h]
  clear h b
  by_cases hr : 128 ≤ n ∧ n < 134217856
  · obtain ⟨h1, h2⟩ := hr
    have hn0 : (n == 0) = false := beq_eq_false_iff_ne.2 (by omega)
    have hn2 : (n == 2) = false := beq_eq_false_iff_ne.2 (by omega)
    cases hf : decide (n % 2 = 1)
    all_goals
      have Hf := Lib.hid hf
      clear hf
      go_enter Try.func50, Try.ntmps50
      go_wp2_with fail
      refine (rof_yes Hf.out h1 h2 _).mono ?_
      rintro e w1 ⟨rfl, hb1⟩
      have hc1 := old_cell hb1
      have hf1 := old_mark hb1
      go_wp2
      go_ret
      have := Hf.out
      simp only [decide_eq_true_eq, decide_eq_false_iff_not] at this
      exact ⟨sret_bool (dirB_eq (by simp; omega)), hb1.alloc hb1.size _⟩
  · have hr' : n < 128 ∨ 134217856 ≤ n := by omega
    clear hr
    have Hr := Lib.hid hr'
    clear hr'
    go_enter Try.func50, Try.ntmps50
    go_wp2_with fail
    refine (rof_no Hr.out _).mono ?_
    rintro e w1 ⟨rfl, hb1⟩
    have hc1 := old_cell hb1
    have hf1 := old_mark hb1
    go_wp2
    all_goals
      go_ret
      have := Hr.out
      exact ⟨sret_bool (dirB_eq (by simp; omega)), hb1.alloc hb1.size _⟩
end Go.Proofs.Ytnndanpahcdmaaa
