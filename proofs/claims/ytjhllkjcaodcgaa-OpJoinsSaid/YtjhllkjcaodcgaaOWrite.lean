/-
  The landed package op: Write.
-/
import Derived.Test.YtjhllkjcaodcgaaOPut
import Derived.Test.YtjhllkjcaodcgaaOBuild
import Derived.Test.YtjhllkjcaodcgaaRRead
namespace Go.Proofs.Ytjhllkjcaodcgaa
open Go.RowKit Go.Lib
/-- A builder that a later world keeps. -/
theorem builder_below {T e : TypeId} {B b : Nat} {bs : List Value} {w w' : World} (h : Lib.IsBuilder T e B b bs w) (hb : Below w.heap.size w w') : Lib.IsBuilder T e B b bs w' := by
  have one : ∀ p, Lib.BuilderAt T e B b p bs w → Lib.BuilderAt T e B b p bs w' := fun p h => by
    have hlt := Lib.BuilderAt.lt h
    obtain ⟨hB, v, hk, ho, hne⟩ := h
    exact ⟨hB, v, (hb.block b hlt).trans hk, own_below ho hb, hne⟩
  rcases h with h | h
  · exact .inl (one _ h)
  · exact .inr (one _ h)
set_option maxRecDepth 100000 in
set_option maxHeartbeats 4000000 in
theorem owrite_any (a : Option Addr) (c : Nat) (l : List Opn) (w : World) (h : IsO w a c l) (hl : l.length ≤ 1000) (hs : Small l)
    (hr : ∀ o ∈ l, (-9223372036854775808 ≤ o.n ∧ o.n ≤ 9223372036854775807) ∧ (-9223372036854775808 ≤ o.p ∧ o.p ≤ 9223372036854775807)) :
    Calls Try.prog 15 #[.slice a l.length c] w fun e w' => e = .returned (.tuple #[.string (wrS l), .int .i64 (wrE l)]) ∧ Below w.heap.size w w' := by
  have B0 := Lib.hid (Lib.fresh_isBuilder 64 5 w)
  have HR := Lib.hid hr
  clear hr
  go_enter Try.func15, Try.ntmps15
  go_wp2
  go_loopw [11] (fun i w' => ∃ k : Nat, k ≤ l.length ∧ i = .int .i64 k ∧ Lib.IsBuilder 64 5 w.heap.size w.heap.size (Lib.byteCells (opsB (l.take k))) w' ∧ allO (l.take k) = true ∧ Below w.heap.size w w') (fun i _ => l.length - (RowKit.intOf i).toNat)
  case atStart => exact ⟨0, Nat.zero_le _, rfl, by rw [List.take_zero]; exact B0.out, rfl, below_alloc _ _⟩
  case round =>
    obtain ⟨k, hk, rfl, hB, ha, ck⟩ := hrel
    have Ha := Lib.hid ha
    have HB := Lib.hid hB
    have hol := ops_len ha (small_take hs k)
    have htl : (l.take k).length ≤ l.length := List.length_take_le' _ _
    have hws := ck.size
    clear ha hB
    by_cases hkl : k < l.length
    · obtain ⟨g, o, rfl, hlt, hc⟩ := h.2 (fun e => by rw [e] at hkl; simp at hkl)
      obtain ⟨x, hx⟩ : ∃ x, l[k]? = some x := ⟨l[k], List.getElem?_eq_getElem hkl⟩
      have hxs := hs x (List.mem_of_getElem? hx)
      have hxr := HR.out x (List.mem_of_getElem? hx)
      have hat := (hc k x hx).below ck
      obtain ⟨k0, k1, k2, k3, k4, k5, k6⟩ := hat
      have Hx := Lib.hid hx
      have HOL := Lib.hid hol
      have HTL := Lib.hid htl
      clear hx hc hol htl
      cases hm : mayO x with
      | false =>
        have HN := Lib.hid (all_no Hx.out hm)
        have HW := Lib.hid (fun w => whole_no x w hm (by unfold maxLen; omega) hxr.1 hxr.2)
        clear hm hxr
        go_wp2_with fail
        refine (HW.out _).mono ?_
        rintro e w1 ⟨rfl, c1⟩
        have b1 := step_a ck c1
        go_wp2_with fail
        go_ret2
        exact ⟨by unfold wrS wrE; rw [HN.out]; rfl, b1⟩
      | true =>
        have HM := Lib.hid hm
        have HW := Lib.hid (fun w => whole_yes x hm w)
        have H1 := Lib.hid (ops_take Hx.out)
        have H2 := Lib.hid (all_take_o Hx.out)
        have hsh := txt_size hm
        obtain ⟨y, hy⟩ : ∃ y, ofL (opB x) = y := ⟨_, rfl⟩
        have hyl : y.size ≤ 150 := by rw [← hy, ofL_size]; exact hsh
        have hyc : Lib.strCells y = Lib.byteCells (opB x) := by rw [← hy, Lib.strCells_eq, data_ofL]
        have HY := Lib.hid hyc
        rw [hy] at HW
        clear hm hxr hsh hy hyc
        go_wp2_with fail
        refine (HW.out _).mono ?_
        rintro e w1 ⟨rfl, c1⟩
        have b1 := step_a ck c1
        have B1 := Lib.hid (builder_below (builder_below HB.out (below_alloc _ _)) c1)
        have hw1 := b1.size
        clear c1
        go_wp2_with fail
        refine (written _ _ _ y _ B1.out (by have := HOL.out; have := HTL.out; rw [Lib.byteCells_length]; omega) hw1).mono ?_
        rintro e w2 ⟨rfl, B2, c2⟩
        have b2 := b1.trans c2
        have HB2 := Lib.hid B2
        clear B2
        go_wp2_with fail
        go_roundw
        case rel => exact ⟨k + 1, by omega, by go_num, by rw [H1.out, Lib.byteCells_append, ← HY.out]; exact .inr HB2.out, by rw [H2.out, Ha.out, HM.out]; rfl, b2⟩
        case measure => simp [RowKit.intOf]; omega
    · have e : k = l.length := by omega
      subst e
      rw [List.take_length] at Ha HB
      have HT := Lib.hid (told _ _ _ _ HB.out hws)
      clear hol htl
      go_wp2_with fail
      refine HT.out.mono ?_
      rintro e w1 ⟨rfl, c1⟩
      have b1 := ck.trans c1
      go_wp2_with fail
      go_ret2
      exact ⟨by unfold wrS wrE; rw [Ha.out]; rfl, b1⟩
end Go.Proofs.Ytjhllkjcaodcgaa
