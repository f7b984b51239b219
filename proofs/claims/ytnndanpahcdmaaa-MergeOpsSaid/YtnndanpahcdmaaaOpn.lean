/-
  PLAIN LEAN, NO RUN OF ANY PROGRAM: operations, which may be, and their bytes.
-/
import Derived.Test.YtnndanpahcdmaaaDigits
import Derived.Test.YtnndanpahcdmaaaPkN
import Derived.Test.YtnndanpahcdmaaaPlain
namespace Go.Proofs.Ytnndanpahcdmaaa
/-- An operation. -/
structure Opn where
  c : Int
  r : Int
  k : Int
  n : Int
  p : Int
  s : ByteArray
  d : ByteArray
  deriving DecidableEq
/-- An operation, as a slot holds it. -/
abbrev OV (o : Opn) : Value := .agg #[.int .i64 o.c, .int .i64 o.r, .int .i64 o.k, .int .i64 o.n, .int .i64 o.p, .string o.s, .string o.d]
def isN (n : Int) : Bool := decide (128 ≤ n ∧ n < 134217856)
def ofC (n : Int) : Int := if isN n then n / 128 else 0
def ofR (n : Int) : Int := if isN n then n % 128 / 2 else 0
def ofF (n : Int) : Bool := isN n && decide (n % 2 = 1)
/-- What may not be, of the times. -/
def lateB (o : Opn) : Bool := !mayB o.c o.r || (!isN o.n || (lessS o.c o.r (ofC o.n) (ofR o.n) || (isN o.p && lessS o.c o.r (ofC o.p) (ofR o.p))))
def moveB (o : Opn) : Bool := dirB o.p && (chk o.s.data.toList && o.d.toList.isEmpty)
def writeB (o : Opn) : Bool := ofF o.n && (decide (o.d.size ≤ 64) && (decide (o.p = 0) && o.s.toList.isEmpty))
/-- Whether an operation may be. -/
def mayO (o : Opn) : Bool := !lateB o && (if o.k = 1 then moveB o else (decide (o.k = 2) && writeB o))
/-- The text of an operation. -/
def txt (o : Opn) : ByteArray := if o.k = 1 then o.s else o.d
/-- The bytes of an operation. -/
def opB (o : Opn) : List UInt8 :=
  Vlq.one o.c.toNat ++ (Vlq.one o.r.toNat ++ (Vlq.one o.k.toNat ++ (Vlq.one o.n.toNat ++ ((if o.k = 1 then Vlq.one o.p.toNat else []) ++ (Vlq.one (txt o).size ++ (txt o).data.toList)))))
theorem mayO_parts {o : Opn} (h : mayO o = true) : (1 ≤ o.c ∧ o.c ≤ 1048576 ∧ 0 ≤ o.r ∧ o.r ≤ 63) ∧ (128 ≤ o.n ∧ o.n < 134217856) ∧
    ((o.k = 1 ∧ (0 ≤ o.p ∧ o.p < 134217856) ∧ chk o.s.data.toList = true ∧ o.d = ⟨#[]⟩) ∨ (o.k = 2 ∧ o.d.size ≤ 64 ∧ o.p = 0 ∧ o.s = ⟨#[]⟩)) := by
  unfold mayO at h
  rw [Bool.and_eq_true, Bool.not_eq_true'] at h
  obtain ⟨h1, h2⟩ := h
  unfold lateB at h1
  simp only [Bool.or_eq_false_iff, Bool.not_eq_false'] at h1
  have hm := mayB_true h1.1
  have hn : 128 ≤ o.n ∧ o.n < 134217856 := of_decide_eq_true h1.2.1
  refine ⟨hm, hn, ?_⟩
  have emp : ∀ s : ByteArray, s.toList.isEmpty = true → s = ⟨#[]⟩ := fun s hs => by
    rw [List.isEmpty_iff, ByteArray.toList_eq] at hs
    apply ByteArray.ext
    apply Array.ext'
    rw [hs]
  by_cases hk : o.k = 1
  · rw [if_pos hk] at h2
    unfold moveB at h2
    simp only [Bool.and_eq_true] at h2
    have hd := h2.1
    unfold dirB at hd
    rw [decide_eq_true_eq] at hd
    exact .inl ⟨hk, by omega, h2.2.1, emp _ h2.2.2⟩
  · rw [if_neg hk] at h2
    unfold writeB at h2
    simp only [Bool.and_eq_true, decide_eq_true_eq] at h2
    exact .inr ⟨h2.1, h2.2.2.1, h2.2.2.2.1, emp _ h2.2.2.2.2⟩
theorem int_of_nat {a b : Int} (ha : 0 ≤ a) (hb : 0 ≤ b) (h : a.toNat = b.toNat) : a = b := by omega
/-- No operation's bytes begin with another one's. -/
theorem opB_inj {o q : Opn} (ho : mayO o = true) (hq : mayO q = true) {r t : List UInt8} (h : opB o ++ r = opB q ++ t) : o = q ∧ r = t := by
  obtain ⟨o1, o2, o3⟩ := mayO_parts ho
  obtain ⟨q1, q2, q3⟩ := mayO_parts hq
  unfold opB at h
  simp only [List.append_assoc] at h
  obtain ⟨hc, h⟩ := Vlq.one_inj h
  obtain ⟨hr, h⟩ := Vlq.one_inj h
  obtain ⟨hk, h⟩ := Vlq.one_inj h
  obtain ⟨hn, h⟩ := Vlq.one_inj h
  have ec := int_of_nat (by omega) (by omega) hc
  have er := int_of_nat (by omega) (by omega) hr
  have ek := int_of_nat (by omega) (by omega) hk
  have en := int_of_nat (by omega) (by omega) hn
  obtain ⟨c, r', k, n, p, s, d⟩ := o
  obtain ⟨c2, r2, k2, n2, p2, s2, d2⟩ := q
  simp only at ec er ek en o3 q3 h
  subst ec er ek en
  by_cases k1 : k = 1
  · subst k1
    simp only [if_true, txt] at h
    obtain ⟨hp, h⟩ := Vlq.one_inj h
    obtain ⟨hs, h⟩ := Vlq.one_inj h
    have hz : s.data.toList.length = s2.data.toList.length := by simpa using hs
    obtain ⟨h1, h2⟩ := List.append_inj h hz
    have es : s = s2 := ByteArray.ext (Array.ext' h1)
    rcases o3 with ⟨_, op, _, od⟩ | ⟨h3, _⟩
    · rcases q3 with ⟨_, qp, _, qd⟩ | ⟨h4, _⟩
      · have ep := int_of_nat (by omega) (by omega) hp
        subst es ep od qd
        exact ⟨rfl, h2⟩
      · omega
    · omega
  · simp only [if_neg k1, txt, List.nil_append] at h
    obtain ⟨hs, h⟩ := Vlq.one_inj h
    have hz : d.data.toList.length = d2.data.toList.length := by simpa using hs
    obtain ⟨h1, h2⟩ := List.append_inj h hz
    have es : d = d2 := ByteArray.ext (Array.ext' h1)
    rcases o3 with ⟨h3, _⟩ | ⟨_, _, op, os⟩
    · omega
    · rcases q3 with ⟨h4, _⟩ | ⟨_, _, qp, qs⟩
      · omega
      · subst es op qp os qs
        exact ⟨rfl, h2⟩
theorem opB_pos (o : Opn) : opB o ≠ [] := by
  have := Vlq.one_pos o.c.toNat
  unfold opB
  intro e
  have := congrArg List.length e
  simp only [List.length_append, List.length_nil] at this
  omega
def allO (l : List Opn) : Bool := l.all mayO
def opsB (l : List Opn) : List UInt8 := l.flatMap opB
theorem opsB_cons (o : Opn) (l : List Opn) : opsB (o :: l) = opB o ++ opsB l := by simp [opsB]
theorem opsB_append (a b : List Opn) : opsB (a ++ b) = opsB a ++ opsB b := by simp [opsB]
/-- Operations' bytes are of these operations alone. -/
theorem opsB_inj : ∀ {a b : List Opn}, allO a = true → allO b = true → opsB a = opsB b → a = b
  | [], [], _, _, _ => rfl
  | [], o :: b, _, _, h => by
    rw [opsB_cons] at h
    have := congrArg List.length h
    have hp := List.length_pos_iff.2 (opB_pos o)
    simp only [opsB, List.flatMap_nil, List.length_nil, List.length_append] at this
    omega
  | o :: a, [], _, _, h => by
    rw [opsB_cons] at h
    have := congrArg List.length h
    have hp := List.length_pos_iff.2 (opB_pos o)
    simp only [opsB, List.flatMap_nil, List.length_nil, List.length_append] at this
    omega
  | o :: a, q :: b, ha, hb, h => by
    rw [opsB_cons, opsB_cons] at h
    simp only [allO, List.all_cons, Bool.and_eq_true] at ha hb
    obtain ⟨rfl, h2⟩ := opB_inj ha.1 hb.1 h
    rw [opsB_inj (a := a) (b := b) ha.2 hb.2 h2]
/-- What b begins with is this operation's bytes, and r stands behind. -/
def TakesO (b : List UInt8) (o : Opn) (r : List UInt8) : Prop := mayO o = true ∧ b = opB o ++ r
def NoTakeO (b : List UInt8) : Prop := ∀ o r, ¬ TakesO b o r
end Go.Proofs.Ytnndanpahcdmaaa
