/-
  The document's Same.
-/
import Derived.Test.YtjhllkjcaodcgaaRList
namespace Go.Proofs.Ytjhllkjcaodcgaa
open Go.RowKit Go.Lib
theorem bytes_ne {a b : ByteArray} (h : a ≠ b) : (a.toList == b.toList) = false := by
  rw [beq_eq_false_iff_ne, ByteArray.toList_eq, ByteArray.toList_eq]
  exact fun e => h (ByteArray.ext (Array.ext' e))
theorem int_ne {a b : Int} (h : a ≠ b) : (a == b) = false := beq_eq_false_iff_ne.2 h
/-- The first part in which two operations differ. -/
theorem first_diff {x y : Opn} (h : x ≠ y) :
    (x.c == y.c) = false ∨ ((x.c == y.c) = true ∧ (x.r == y.r) = false) ∨ ((x.c == y.c) = true ∧ (x.r == y.r) = true ∧ (x.k == y.k) = false) ∨
    ((x.c == y.c) = true ∧ (x.r == y.r) = true ∧ (x.k == y.k) = true ∧ (x.n == y.n) = false) ∨
    ((x.c == y.c) = true ∧ (x.r == y.r) = true ∧ (x.k == y.k) = true ∧ (x.n == y.n) = true ∧ (x.p == y.p) = false) ∨
    ((x.c == y.c) = true ∧ (x.r == y.r) = true ∧ (x.k == y.k) = true ∧ (x.n == y.n) = true ∧ (x.p == y.p) = true ∧ (x.s.toList == y.s.toList) = false) ∨
    ((x.c == y.c) = true ∧ (x.r == y.r) = true ∧ (x.k == y.k) = true ∧ (x.n == y.n) = true ∧ (x.p == y.p) = true ∧ (x.s.toList == y.s.toList) = true ∧ (x.d.toList == y.d.toList) = false) := by
  obtain ⟨c, r, k, n, p, s, d⟩ := x
  obtain ⟨c2, r2, k2, n2, p2, s2, d2⟩ := y
  by_cases e1 : c = c2
  · subst e1
    by_cases e2 : r = r2
    · subst e2
      by_cases e3 : k = k2
      · subst e3
        by_cases e4 : n = n2
        · subst e4
          by_cases e5 : p = p2
          · subst e5
            by_cases e6 : s = s2
            · subst e6
              have e7 : d ≠ d2 := fun e => h (by rw [e])
              simp [bytes_ne e7]
            · simp [bytes_ne e6]
          · simp [int_ne e5]
        · simp [int_ne e4]
      · simp [int_ne e3]
    · simp [int_ne e2]
  · simp [int_ne e1]
def sameO (l m : List Opn) : Bool := decide (l = m)
theorem same_no_o {l m : List Opn} (k : Nat) {x y : Opn} (hx : l[k]? = some x) (hy : m[k]? = some y) (h : x ≠ y) : sameO l m = false := by
  unfold sameO
  rw [decide_eq_false]
  intro e
  rw [e, hy] at hx
  cases hx
  exact h rfl
set_option maxRecDepth 100000 in
set_option maxHeartbeats 4000000 in
theorem rsame_any (a b : Option Addr) (c d : Nat) (l m : List Opn) (w : World) (ha : IsO w a c l) (hb : IsO w b d m) (hl : l.length ≤ 1000000) :
    Calls Try.prog 23 #[.slice a l.length c, .slice b m.length d] w fun e w' => e = .returned (.bool (sameO l m)) ∧ Below w.heap.size w w' := by
  by_cases hlm : l.length = m.length
  · have hlm2 : ((l.length : Int) != (m.length : Int)) = false := by rw [bne_eq_false_iff_eq]; omega
    have HL := Lib.hid hlm
    clear hlm
    go_enter Try.func23, Try.ntmps23
    go_wp2
    go_loopw [5] (fun i w' => ∃ k : Nat, k ≤ l.length ∧ i = .int .i64 k ∧ l.take k = m.take k ∧ Below w.heap.size w w') (fun i _ => l.length - (RowKit.intOf i).toNat)
    case atStart => exact ⟨0, Nat.zero_le _, rfl, rfl, Below.refl _ _⟩
    case round =>
      obtain ⟨k, hk, rfl, he, ck⟩ := hrel
      have He := Lib.hid he
      clear he
      by_cases hkl : k < l.length
      · obtain ⟨g1, o1, rfl, hlt1, hc1⟩ := ha.2 (fun e => by rw [e] at hkl; simp at hkl)
        have hkm : k < m.length := by have := HL.out; omega
        obtain ⟨g2, o2, rfl, hlt2, hc2⟩ := hb.2 (fun e => by rw [e] at hkm; simp at hkm)
        obtain ⟨x, hx⟩ : ∃ x, l[k]? = some x := ⟨l[k], List.getElem?_eq_getElem hkl⟩
        obtain ⟨y, hy⟩ : ∃ y, m[k]? = some y := ⟨m[k], List.getElem?_eq_getElem hkm⟩
        have hX := (hc1 k x hx).below ck
        have hY := (hc2 k y hy).below ck
        have t1 : (k : Int) < (l.length : Int) := by omega
        have t2 : (k : Int) < (m.length : Int) := by omega
        have Hx := Lib.hid hx
        have Hy := Lib.hid hy
        clear hx hy hc1 hc2
        by_cases hxy : x = y
        · subst hxy
          obtain ⟨k0, k1, k2, k3, k4, k5, k6⟩ := hX
          obtain ⟨j0, j1, j2, j3, j4, j5, j6⟩ := hY
          go_wp2
          go_quiet (fail)
          go_wp2
          go_roundw
          case rel => exact ⟨k + 1, by omega, by go_num, by rw [List.take_add_one, List.take_add_one, He.out, Hx.out, Hy.out], below_drewN ck nq⟩
          case measure => simp [RowKit.intOf]; omega
        · have HN := Lib.hid (same_no_o k Hx.out Hy.out hxy)
          rcases first_diff hxy with f1 | ⟨f1, f2⟩ | ⟨f1, f2, f3⟩ | ⟨f1, f2, f3, f4⟩ | ⟨f1, f2, f3, f4, f5⟩ | ⟨f1, f2, f3, f4, f5, f6⟩ | ⟨f1, f2, f3, f4, f5, f6, f7⟩
          all_goals
            clear hxy
            obtain ⟨k0, k1, k2, k3, k4, k5, k6⟩ := hX
            obtain ⟨j0, j1, j2, j3, j4, j5, j6⟩ := hY
            go_wp2
            go_quiet (fail)
            go_wp2
            go_ret
            exact ⟨by rw [HN.out]; rfl, below_drewN ck nq⟩
      · have e : k = l.length := by omega
        subst e
        go_wp2
        go_ret
        have h1 := He.out
        rw [List.take_length, HL.out, List.take_length] at h1
        exact ⟨by unfold sameO; rw [decide_eq_true h1]; rfl, ck⟩
  · have hlm2 : ((l.length : Int) != (m.length : Int)) = true := by rw [bne_iff_ne]; omega
    have HN := Lib.hid (show sameO l m = false from decide_eq_false (fun e => hlm (by rw [e])))
    go_enter Try.func23, Try.ntmps23
    go_wp2
    go_ret
    exact ⟨by rw [HN.out]; rfl, Below.refl _ _⟩
end Go.Proofs.Ytjhllkjcaodcgaa
