/-
  Lists of operations: the document's Write, Same, Few.
-/
import Derived.Test.YtjhllkjcaodcgaaRPut
import Derived.Deep.QuietTactic
import Derived.BigQuiet
namespace Go.Proofs.Ytjhllkjcaodcgaa
open Go.RowKit Go.Lib
/-- Cells off.. of block b hold this operation. -/
def AtO (w : World) (b off : Nat) (o : Opn) : Prop :=
  w.cell? ⟨b, off, none⟩ = some (.int .i64 o.c) ∧ w.cell? ⟨b, off + 1, none⟩ = some (.int .i64 o.r) ∧ w.cell? ⟨b, off + 2, none⟩ = some (.int .i64 o.k) ∧ w.cell? ⟨b, off + 3, none⟩ = some (.int .i64 o.n) ∧
  w.cell? ⟨b, off + 4, none⟩ = some (.int .i64 o.p) ∧ w.cell? ⟨b, off + 5, none⟩ = some (.string o.s) ∧ w.cell? ⟨b, off + 6, none⟩ = some (.string o.d)
theorem AtO.below {w w' : World} {b off : Nat} {o : Opn} (h : AtO w b off o) (hb : Below w.heap.size w w') : AtO w' b off o := by
  have hlt : b < w.heap.size := World.block_lt_of_cell? w ⟨b, off, none⟩ h.1
  obtain ⟨h0, h1, h2, h3, h4, h5, h6⟩ := h
  refine ⟨?_, ?_, ?_, ?_, ?_, ?_, ?_⟩ <;> (rw [hb.cell (p := ⟨b, _, none⟩) hlt]; assumption)
/-- What a slice of operations that is read holds. -/
def IsO (w : World) (a : Option Addr) (c : Nat) (l : List Opn) : Prop :=
  l.length ≤ c ∧ (l ≠ [] → ∃ b o, a = some ⟨b, o, none⟩ ∧ b < w.heap.size ∧ ∀ j x, l[j]? = some x → AtO w b (o + j * 7) x)
theorem IsO.below {w w' : World} {a : Option Addr} {c : Nat} {l : List Opn} (h : IsO w a c l) (hb : Below w.heap.size w w') : IsO w' a c l :=
  ⟨h.1, fun hne => by
    obtain ⟨b, o, e, hlt, hc⟩ := h.2 hne
    exact ⟨b, o, e, Nat.lt_of_lt_of_le hlt hb.size, fun j x hj => (hc j x hj).below hb⟩⟩
/-- Names and data of at most so many bytes. -/
def Small (l : List Opn) : Prop := ∀ o ∈ l, o.s.size ≤ 1000 ∧ o.d.size ≤ 1000
theorem ops_take {l : List Opn} {k : Nat} {x : Opn} (h : l[k]? = some x) : opsB (l.take (k + 1)) = opsB (l.take k) ++ opB x := by
  rw [List.take_add_one, h, opsB_append]; simp [opsB]
theorem all_take_o {l : List Opn} {k : Nat} {x : Opn} (h : l[k]? = some x) : allO (l.take (k + 1)) = (allO (l.take k) && mayO x) := by
  unfold allO
  rw [List.take_add_one, h]; simp
theorem all_no {l : List Opn} {k : Nat} {x : Opn} (h : l[k]? = some x) (hx : mayO x = false) : allO l = false := by
  unfold allO
  rw [List.all_eq_false]
  exact ⟨x, List.mem_of_getElem? h, by simp [hx]⟩
theorem opB_small {o : Opn} (ho : mayO o = true) (hs : o.s.size ≤ 1000) : (opB o).length ≤ 1054 := by
  obtain ⟨h1, h2, h3⟩ := mayO_parts ho
  have e1 := Vlq.one_nine (n := o.c.toNat) (by omega)
  have e2 := Vlq.one_nine (n := o.r.toNat) (by omega)
  have e3 := Vlq.one_nine (n := o.k.toNat) (by omega)
  have e4 := Vlq.one_nine (n := o.n.toNat) (by omega)
  have e5 := Vlq.one_nine (n := o.p.toNat) (by omega)
  have ht : (txt o).size ≤ 1000 := by
    unfold txt
    split
    · exact hs
    · omega
  have e6 := Vlq.one_nine (n := (txt o).size) (by omega)
  have e7 : (txt o).data.toList.length = (txt o).size := by simp
  unfold opB
  simp only [List.length_append, e7]
  split
  · omega
  · simp only [List.length_nil]; omega
theorem ops_len : ∀ {l : List Opn}, allO l = true → Small l → (opsB l).length ≤ 1054 * l.length
  | [], _, _ => by simp [opsB]
  | o :: l, h, hs => by
    simp only [allO, List.all_cons, Bool.and_eq_true] at h
    have h1 := opB_small h.1 (hs o (by simp)).1
    have h2 := ops_len (l := l) h.2 (fun x hx => hs x (by simp [hx]))
    rw [opsB_cons, List.length_append, List.length_cons]; omega
theorem small_take {l : List Opn} (h : Small l) (k : Nat) : Small (l.take k) := fun o ho => h o (List.mem_of_mem_take ho)
def wrS (l : List Opn) : ByteArray := if allO l then ofL (opsB l) else ⟨#[]⟩
def wrE (l : List Opn) : Int := if allO l then 0 else 50
set_option maxRecDepth 100000 in
set_option maxHeartbeats 4000000 in
theorem rwrite_any (a : Option Addr) (c : Nat) (l : List Opn) (w : World) (h : IsO w a c l) (hl : l.length ≤ 1000) (hs : Small l) :
    Calls Try.prog 16 #[.slice a l.length c] w fun e w' => e = .returned (.tuple #[.string (wrS l), .int .i64 (wrE l)]) ∧ Below w.heap.size w w' := by
  go_enter Try.func16, Try.ntmps16
  go_wp2
  go_loopw [4, 5] (fun s i w' => ∃ k : Nat, k ≤ l.length ∧ i = .int .i64 k ∧ s = .string (ofL (opsB (l.take k))) ∧ allO (l.take k) = true ∧ Below w.heap.size w w') (fun _ i _ => l.length - (RowKit.intOf i).toNat)
  case atStart => exact ⟨0, Nat.zero_le _, rfl, rfl, rfl, Below.refl _ _⟩
  case round =>
    obtain ⟨k, hk, rfl, rfl, ha, ck⟩ := hrel
    have Ha := Lib.hid ha
    have hol := ops_len ha (small_take hs k)
    have htl : (l.take k).length ≤ l.length := List.length_take_le' _ _
    clear ha
    by_cases hkl : k < l.length
    · obtain ⟨g, o, rfl, hlt, hc⟩ := h.2 (fun e => by rw [e] at hkl; simp at hkl)
      obtain ⟨x, hx⟩ : ∃ x, l[k]? = some x := ⟨l[k], List.getElem?_eq_getElem hkl⟩
      have hxs := hs x (List.mem_of_getElem? hx)
      have hat := (hc k x hx).below ck
      obtain ⟨k0, k1, k2, k3, k4, k5, k6⟩ := hat
      have Hx := Lib.hid hx
      obtain ⟨s, hss⟩ : ∃ s, ofL (opsB (l.take k)) = s := ⟨_, rfl⟩
      have hsz : s.size ≤ 10000000 := by rw [← hss, ofL_size]; omega
      have HS := Lib.hid hss
      rw [hss]
      clear hx hc hss hol
      cases hm : mayO x with
      | false =>
        have HM := Lib.hid hm
        have HN := Lib.hid (all_no Hx.out hm)
        clear hm
        go_wp2_with fail
        refine (rput_no s x _ HM.out (by omega)).mono ?_
        rintro e w1 ⟨rfl, c1⟩
        have b1 := step_b ck c1
        go_wp2
        go_ret2
        exact ⟨by unfold wrS wrE; rw [HN.out]; rfl, b1⟩
      | true =>
        have HM := Lib.hid hm
        have H1 := Lib.hid (ops_take Hx.out)
        have H2 := Lib.hid (all_take_o Hx.out)
        clear hm
        go_wp2_with fail
        refine (rput_yes s x _ (by omega) HM.out (by omega) (by omega)).mono ?_
        rintro e w1 ⟨rfl, c1⟩
        have b1 := step_b ck c1
        go_wp2_with fail
        go_roundw
        case rel => exact ⟨k + 1, by omega, by go_num, by rw [H1.out, ← ofL_append, HS.out], by rw [H2.out, Ha.out, HM.out]; rfl, b1⟩
        case measure => simp [RowKit.intOf]; omega
    · have e : k = l.length := by omega
      subst e
      rw [List.take_length] at Ha ⊢
      go_wp2
      go_ret2
      exact ⟨by unfold wrS wrE; rw [Ha.out]; rfl, ck⟩
def fewO (l : List Opn) (n : Int) : Bool := (l.all fun o => decide (o.s.size ≤ 1000) && decide (o.d.size ≤ 1000)) && decide ((l.length : Int) ≤ n)
theorem few_small {l : List Opn} {n : Int} (h : fewO l n = true) : Small l ∧ (l.length : Int) ≤ n := by
  unfold fewO at h
  rw [Bool.and_eq_true, List.all_eq_true] at h
  exact ⟨fun o ho => by simpa using h.1 o ho, of_decide_eq_true h.2⟩
set_option maxHeartbeats 2000000 in
theorem rfew_any (a : Option Addr) (c : Nat) (l : List Opn) (n : Int) (w : World) (h : IsO w a c l) (hl : l.length ≤ maxLen) :
    Calls Try.prog 10 #[.slice a l.length c, .int .i64 n] w fun e w' => e = .returned (.bool (fewO l n)) ∧ w' = w := by
  unfold maxLen at hl
  go_enter Try.func10, Try.ntmps10
  go_wp2
  go_loop [5] (fun i => ∃ k : Nat, k ≤ l.length ∧ i = .int .i64 k ∧ (l.take k).all (fun o => decide (o.s.size ≤ 1000) && decide (o.d.size ≤ 1000)) = true) (fun i => l.length - (RowKit.intOf i).toNat)
  case atStart => exact ⟨0, Nat.zero_le _, rfl, rfl⟩
  case round =>
    obtain ⟨k, hk, rfl, ha⟩ := hrel
    have Ha := Lib.hid ha
    clear ha
    by_cases hkl : k < l.length
    · obtain ⟨g, o, rfl, hlt, hc⟩ := h.2 (fun e => by rw [e] at hkl; simp at hkl)
      obtain ⟨x, hx⟩ : ∃ x, l[k]? = some x := ⟨l[k], List.getElem?_eq_getElem hkl⟩
      obtain ⟨k0, k1, k2, k3, k4, k5, k6⟩ := hc k x hx
      have Hx := Lib.hid hx
      have HA := Lib.hid (all_take_succ (fun o : Opn => decide (o.s.size ≤ 1000) && decide (o.d.size ≤ 1000)) l k x hx)
      have HF := Lib.hid (all_false (fun o : Opn => decide (o.s.size ≤ 1000) && decide (o.d.size ≤ 1000)) l k x hx)
      clear hx hc
      by_cases h1 : x.s.size ≤ 1000
      · have d1 : decide ((1000 : Int) < (x.s.size : Int)) = false := decide_eq_false (by omega)
        by_cases h2 : x.d.size ≤ 1000
        · have d2 : decide ((1000 : Int) < (x.d.size : Int)) = false := decide_eq_false (by omega)
          go_wp2_with fail
          go_round
          case rel => exact ⟨k + 1, by omega, by go_num, by rw [HA.out, Ha.out, decide_eq_true h1, decide_eq_true h2]; rfl⟩
          case measure => simp [RowKit.intOf]; omega
        · have d2 : decide ((1000 : Int) < (x.d.size : Int)) = true := decide_eq_true (by omega)
          have HN := Lib.hid (HF.out (by rw [decide_eq_false h2, Bool.and_false]))
          go_wp2_with fail
          go_ret
          exact ⟨by unfold fewO; rw [HN.out]; rfl, rfl⟩
      · have d1 : decide ((1000 : Int) < (x.s.size : Int)) = true := decide_eq_true (by omega)
        have HN := Lib.hid (HF.out (by rw [decide_eq_false h1, Bool.false_and]))
        go_wp2_with fail
        go_ret
        exact ⟨by unfold fewO; rw [HN.out]; rfl, rfl⟩
    · have e : k = l.length := by omega
      subst e
      rw [List.take_length] at Ha
      go_wp2
      go_ret
      exact ⟨by unfold fewO; rw [Ha.out, Bool.true_and]; rfl, rfl⟩
end Go.Proofs.Ytjhllkjcaodcgaa
