/-
  The document's Same (nodes), and Numbers.
-/
import Derived.Test.YtnndanpahcdmaaaRBack
import Derived.Test.YtnndanpahcdmaaaRUp
namespace Go.Proofs.Ytnndanpahcdmaaa
open Go.RowKit Go.Lib
theorem bytes_ne {a b : ByteArray} (h : a ≠ b) : (a.toList == b.toList) = false := by
  rw [beq_eq_false_iff_ne, ByteArray.toList_eq, ByteArray.toList_eq]
  exact fun e => h (ByteArray.ext (Array.ext' e))
theorem int_ne {a b : Int} (h : a ≠ b) : (a == b) = false := beq_eq_false_iff_ne.2 h
/-- The first part in which two nodes differ. -/
theorem first_diffN {x y : Nod} (h : x ≠ y) :
    ((x.id == y.id) = false) ∨
    ((x.id == y.id) = true ∧ (x.p == y.p) = false) ∨
    ((x.id == y.id) = true ∧ (x.p == y.p) = true ∧ (x.s.toList == y.s.toList) = false) ∨
    ((x.id == y.id) = true ∧ (x.p == y.p) = true ∧ (x.s.toList == y.s.toList) = true ∧ (x.mc == y.mc) = false) ∨
    ((x.id == y.id) = true ∧ (x.p == y.p) = true ∧ (x.s.toList == y.s.toList) = true ∧ (x.mc == y.mc) = true ∧ (x.mr == y.mr) = false) ∨
    ((x.id == y.id) = true ∧ (x.p == y.p) = true ∧ (x.s.toList == y.s.toList) = true ∧ (x.mc == y.mc) = true ∧ (x.mr == y.mr) = true ∧ (x.d.toList == y.d.toList) = false) ∨
    ((x.id == y.id) = true ∧ (x.p == y.p) = true ∧ (x.s.toList == y.s.toList) = true ∧ (x.mc == y.mc) = true ∧ (x.mr == y.mr) = true ∧ (x.d.toList == y.d.toList) = true ∧ (x.wc == y.wc) = false) ∨
    ((x.id == y.id) = true ∧ (x.p == y.p) = true ∧ (x.s.toList == y.s.toList) = true ∧ (x.mc == y.mc) = true ∧ (x.mr == y.mr) = true ∧ (x.d.toList == y.d.toList) = true ∧ (x.wc == y.wc) = true ∧ (x.wr == y.wr) = false) := by
  obtain ⟨id, p, s, mc, mr, d, wc, wr⟩ := x
  obtain ⟨id2, p2, s2, mc2, mr2, d2, wc2, wr2⟩ := y
  by_cases e0 : id = id2
  · subst e0
    by_cases e1 : p = p2
    · subst e1
      by_cases e2 : s = s2
      · subst e2
        by_cases e3 : mc = mc2
        · subst e3
          by_cases e4 : mr = mr2
          · subst e4
            by_cases e5 : d = d2
            · subst e5
              by_cases e6 : wc = wc2
              · subst e6
                have e7 : wr ≠ wr2 := fun e => h (by rw [e])
                simp [int_ne e7]
              · simp [int_ne e6]
            · simp [bytes_ne e5]
          · simp [int_ne e4]
        · simp [int_ne e3]
      · simp [bytes_ne e2]
    · simp [int_ne e1]
  · simp [int_ne e0]
def sameN (l m : List Nod) : Bool := decide (l = m)
theorem same_no_n {α : Type} {l m : List α} (k : Nat) {x y : α} (hx : l[k]? = some x) (hy : m[k]? = some y) (h : x ≠ y) : l ≠ m := by
  intro e
  rw [e, hy] at hx
  cases hx
  exact h rfl
set_option maxRecDepth 100000 in
set_option maxHeartbeats 8000000 in
theorem rnsame_any (a b : Option Addr) (c d : Nat) (l m : List Nod) (w : World) (ha : IsNd w a c l) (hb : IsNd w b d m) (hl : l.length ≤ 1000000) :
    Calls Try.prog 24 #[.slice a l.length c, .slice b m.length d] w fun e w' => e = .returned (.bool (sameN l m)) ∧ Below w.heap.size w w' := by
  by_cases hlm : l.length = m.length
  · have hlm2 : ((l.length : Int) != (m.length : Int)) = false := by rw [bne_eq_false_iff_eq]; omega
    have HL := Lib.hid hlm
    clear hlm
    go_enter Try.func24, Try.ntmps24
    go_wp2_with fail
    go_loopw [5] (fun i w' => ∃ k : Nat, k ≤ l.length ∧ i = .int .i64 k ∧ l.take k = m.take k ∧ Below w.heap.size w w') (fun i _ => l.length - (RowKit.intOf i).toNat)
    case atStart => exact ⟨0, Nat.zero_le _, rfl, rfl, Below.refl _ _⟩
    case round =>
      obtain ⟨k, hk, rfl, he, ck⟩ := hrel
      have He := Lib.hid he
      clear he
      by_cases hkl : k < l.length
      · have hkm : k < m.length := by have := HL.out; omega
        obtain ⟨x, hx⟩ : ∃ x, l[k]? = some x := ⟨l[k], List.getElem?_eq_getElem hkl⟩
        obtain ⟨y, hy⟩ : ∃ y, m[k]? = some y := ⟨m[k], List.getElem?_eq_getElem hkm⟩
        obtain ⟨g1, o1, rfl, hlt1, hc1⟩ := (ha.below ck).nod hx
        obtain ⟨g2, o2, rfl, hlt2, hc2⟩ := (hb.below ck).nod hy
        obtain ⟨k0, k1, k2, k3, k4, k5, k6, k7⟩ := hc1 k x hx
        obtain ⟨j0, j1, j2, j3, j4, j5, j6, j7⟩ := hc2 k y hy
        have t1 : (k : Int) < (l.length : Int) := by omega
        have t2 : (k : Int) < (m.length : Int) := by omega
        have Hx := Lib.hid hx
        have Hy := Lib.hid hy
        clear hx hy hc1 hc2
        by_cases hxy : x = y
        · subst hxy
          go_wp2_with fail
          go_quiet (fail)
          go_wp2_with fail
          go_roundw
          case rel => exact ⟨k + 1, by omega, by go_num, by rw [List.take_add_one, List.take_add_one, He.out, Hx.out, Hy.out], below_drewN ck nq⟩
          case measure => simp [RowKit.intOf]; omega
        · have HN := Lib.hid (show sameN l m = false from decide_eq_false (same_no_n k Hx.out Hy.out hxy))
          rcases first_diffN hxy with f0 | ⟨f0, f1⟩ | ⟨f0, f1, f2⟩ | ⟨f0, f1, f2, f3⟩ | ⟨f0, f1, f2, f3, f4⟩ | ⟨f0, f1, f2, f3, f4, f5⟩ | ⟨f0, f1, f2, f3, f4, f5, f6⟩ | ⟨f0, f1, f2, f3, f4, f5, f6, f7⟩
          all_goals
            clear hxy
            go_wp2_with fail
            go_quiet (fail)
            go_wp2_with fail
            go_ret
            exact ⟨by rw [HN.out]; rfl, below_drewN ck nq⟩
      · have e : k = l.length := by omega
        have h1 := He.out
        rw [e, List.take_length, HL.out, List.take_length] at h1
        have H1 := Lib.hid h1
        clear h1
        subst e
        go_wp2_with fail
        go_ret
        exact ⟨by unfold sameN; rw [decide_eq_true H1.out]; rfl, ck⟩
  · have hlm2 : ((l.length : Int) != (m.length : Int)) = true := by rw [bne_iff_ne]; omega
    have HN := Lib.hid (show sameN l m = false from decide_eq_false (fun e => hlm (by rw [e])))
    go_enter Try.func24, Try.ntmps24
    go_wp2_with fail
    go_ret
    exact ⟨by rw [HN.out]; rfl, Below.refl _ _⟩
def sameI (l m : List Int) : Bool := decide (l = m)
end Go.Proofs.Ytnndanpahcdmaaa
