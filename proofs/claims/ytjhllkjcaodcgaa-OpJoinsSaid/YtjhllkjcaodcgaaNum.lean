/-
  PLAIN LEAN, NO RUN OF ANY PROGRAM: which stamps may be, their order, their numbers, and what was seen, on integers; what follows of them.
-/
import GoSem.Op.String
namespace Go.Proofs.Ytjhllkjcaodcgaa
/-- May a stamp be? -/
def mayB (c r : Int) : Bool := decide (1 ≤ c ∧ c ≤ 1048576 ∧ 0 ≤ r ∧ r ≤ 63)
def lessS (c r d s : Int) : Bool := decide (c < d ∨ (c = d ∧ r < s))
def idOf (c r : Int) (f : Bool) : Int := 128 * c + 2 * r + (if f then 1 else 0)
def idI (c r : Int) (f : Bool) : Int := if mayB c r then idOf c r f else -1
theorem mayB_true {c r : Int} (h : mayB c r = true) : 1 ≤ c ∧ c ≤ 1048576 ∧ 0 ≤ r ∧ r ≤ 63 := by simpa [mayB] using h
theorem mayB_mk {c r : Int} (h : 1 ≤ c ∧ c ≤ 1048576 ∧ 0 ≤ r ∧ r ≤ 63) : mayB c r = true := by simpa [mayB] using h
theorem mayB_false {c r : Int} (h : mayB c r = false) : ¬ (1 ≤ c ∧ c ≤ 1048576 ∧ 0 ≤ r ∧ r ≤ 63) := by simpa [mayB] using h
theorem mayB_no {c r : Int} (h : ¬ (1 ≤ c ∧ c ≤ 1048576 ∧ 0 ≤ r ∧ r ≤ 63)) : mayB c r = false := by simpa [mayB] using h
theorem lessS_true {c r d s : Int} (h : lessS c r d s = true) : c < d ∨ (c = d ∧ r < s) := by simpa [lessS] using h
theorem lessS_mk {c r d s : Int} (h : c < d ∨ (c = d ∧ r < s)) : lessS c r d s = true := by simpa [lessS] using h
theorem lessS_false {c r d s : Int} (h : lessS c r d s = false) : ¬ (c < d ∨ (c = d ∧ r < s)) := by unfold lessS at h; exact of_decide_eq_false h
theorem lessS_no {c r d s : Int} (h : ¬ (c < d ∨ (c = d ∧ r < s))) : lessS c r d s = false := by unfold lessS; exact decide_eq_false h
/-- What was seen. -/
def seenI : Int → List (Int × Int) → Int
  | n, [] => n
  | n, s :: l => seenI (if mayB s.1 s.2 then max n s.1 else n) l
theorem seenI_append (n : Int) (a b : List (Int × Int)) : seenI n (a ++ b) = seenI (seenI n a) b := by
  induction a generalizing n with
  | nil => rfl
  | cons s a ih => simp only [List.cons_append, seenI, ih]
theorem seenI_snoc (n : Int) (l : List (Int × Int)) (k : Nat) (s : Int × Int) (h : l[k]? = some s) :
    seenI n (l.take (k + 1)) = if mayB s.1 s.2 then max (seenI n (l.take k)) s.1 else seenI n (l.take k) := by
  rw [List.take_add_one, h, seenI_append]; rfl
theorem seenI_ge (n : Int) (l : List (Int × Int)) : n ≤ seenI n l := by
  induction l generalizing n with
  | nil => exact Int.le_refl _
  | cons s l ih =>
    simp only [seenI]
    split
    · have := ih (max n s.1)
      omega
    · exact ih n
theorem seenI_max (n m : Int) (l : List (Int × Int)) : seenI (max n m) l = max n (seenI m l) := by
  induction l generalizing n m with
  | nil => rfl
  | cons s l ih =>
    simp only [seenI]
    split
    · rw [← ih]; congr 1; omega
    · rw [ih]
theorem seenI_swap (n : Int) (a b : List (Int × Int)) : seenI n (a ++ b) = seenI (seenI n b) a := by
  rw [seenI_append]
  have h1 := seenI_ge n a
  have h2 := seenI_ge n b
  have e1 : seenI (seenI n a) b = max (seenI n a) (seenI n b) := by
    rw [← seenI_max]; congr 1; omega
  have e2 : seenI (seenI n b) a = max (seenI n b) (seenI n a) := by
    rw [← seenI_max]; congr 1; omega
  rw [e1, e2]; omega
theorem seenI_mem (n : Int) (l : List (Int × Int)) (k : Nat) (s : Int × Int) (h : l[k]? = some s) (hm : mayB s.1 s.2 = true) : s.1 ≤ seenI n l := by
  have e : l = l.take (k + 1) ++ l.drop (k + 1) := (List.take_append_drop _ _).symm
  rw [e, seenI_append]
  have h1 := seenI_ge (seenI n (l.take (k + 1))) (l.drop (k + 1))
  have h2 := seenI_snoc n l k s h
  rw [if_pos hm] at h2
  omega
theorem seenI_le (n : Int) (l : List (Int × Int)) (hn : n ≤ 1048576) : seenI n l ≤ 1048576 := by
  induction l generalizing n with
  | nil => exact hn
  | cons s l ih =>
    simp only [seenI]
    split
    · rename_i h
      have := mayB_true h
      exact ih _ (by omega)
    · exact ih _ hn
end Go.Proofs.Ytjhllkjcaodcgaa
