import Derived.Test.YtjilmnadcbamaaaDoorLess
import Derived.Deep.QuietTactic
import Derived.BigQuiet
namespace Go.Proofs.YtjilmnadcbamaaaDoor
open Go.RowKit Go.Lib
/-- What a slice of texts that is read holds: the texts l, and room for c. -/
def IsL (w : World) (a : Option Addr) (c : Nat) (l : List ByteArray) : Prop :=
  l.length ≤ c ∧ (l ≠ [] → ∃ b o, a = some ⟨b, o, none⟩ ∧ b < w.heap.size ∧ ∀ j x, l[j]? = some x → w.cell? ⟨b, o + j, none⟩ = some (.string x))
theorem IsL.below {w w' : World} {a : Option Addr} {c : Nat} {l : List ByteArray} (h : IsL w a c l) (hb : Below w.heap.size w w') : IsL w' a c l :=
  ⟨h.1, fun hne => by
    obtain ⟨b, o, e, hlt, hc⟩ := h.2 hne
    exact ⟨b, o, e, Nat.lt_of_lt_of_le hlt hb.size, fun j x hj => by rw [hb.cell (p := ⟨b, o + j, none⟩) hlt]; exact hc j x hj⟩⟩
def namesB (l : List ByteArray) : Bool := decide (l.length ≤ 16) && l.all fun s => chk s.data.toList
theorem all_take_succ {α : Type} (p : α → Bool) (l : List α) (k : Nat) (x : α) (h : l[k]? = some x) : (l.take (k + 1)).all p = ((l.take k).all p && p x) := by
  rw [List.take_add_one, h]; simp
theorem all_false {α : Type} (p : α → Bool) (l : List α) (k : Nat) (x : α) (h : l[k]? = some x) (hp : p x = false) : l.all p = false := by
  rw [List.all_eq_false]
  exact ⟨x, List.mem_of_getElem? h, by simp [hp]⟩
set_option maxHeartbeats 1000000 in
theorem allNames_any (a : Option Addr) (c : Nat) (l : List ByteArray) (w : World) (h : IsL w a c l) (hs : ∀ x ∈ l, x.size ≤ 1000000) :
    Calls Tryd.prog 26 #[.slice a l.length c] w fun e w' => e = .returned (.bool (namesB l)) ∧ Below w.heap.size w w' := by
  by_cases h16 : 16 < l.length
  · go_enter Tryd.func26, Tryd.ntmps26
    go_wp2
    go_ret
    exact ⟨ret_bool (by unfold namesB; rw [decide_eq_false (by omega)]; rfl), Below.refl _ _⟩
  go_enter Tryd.func26, Tryd.ntmps26
  go_wp2
  go_loopw [10] (fun i w' => ∃ k : Nat, k ≤ l.length ∧ i = .int .i64 k ∧ (l.take k).all (fun s => chk s.data.toList) = true ∧ Below w.heap.size w w') (fun i _ => l.length - (RowKit.intOf i).toNat)
  case atStart => exact ⟨0, Nat.zero_le _, rfl, rfl, Below.refl _ _⟩
  case round =>
    obtain ⟨k, hk, rfl, ha, hb⟩ := hrel
    have Ha := Lib.hid ha
    clear ha
    by_cases hkl : k < l.length
    · obtain ⟨b, o, rfl, hlt, hc⟩ := h.2 (fun e => by rw [e] at hkl; simp at hkl)
      obtain ⟨x, hx⟩ : ∃ x, l[k]? = some x := ⟨l[k], List.getElem?_eq_getElem hkl⟩
      have Hx := Lib.hid hx
      have hcell : wr.cell? ⟨b, o + k, none⟩ = some (.string x) := by rw [hb.cell (p := ⟨b, o + k, none⟩) hlt]; exact hc k x hx
      have hsx := hs x (List.mem_of_getElem? hx)
      clear hx hc
      cases hcx : chk x.data.toList with
      | false =>
        have Hc := Lib.hid hcx
        clear hcx
        go_wp2_with (go_at_call 17; refine (check_any _ _ hsx).mono ?_; rintro e w1 ⟨rfl, hb1⟩; rw [Hc.out])
        go_ret
        exact ⟨ret_bool (by unfold namesB; rw [all_false _ l k x Hx.out Hc.out, Bool.and_false]), hb.trans (hb1.mono hb.size)⟩
      | true =>
        have Hc := Lib.hid hcx
        clear hcx
        go_wp2_with (go_at_call 17; refine (check_any _ _ hsx).mono ?_; rintro e w1 ⟨rfl, hb1⟩; rw [Hc.out])
        go_roundw
        case rel => exact ⟨k + 1, by omega, by go_num, by rw [all_take_succ _ l k x Hx.out, Ha.out]; exact Hc.out, hb.trans (hb1.mono hb.size)⟩
        case measure => simp [RowKit.intOf]; omega
    · go_wp2
      go_ret
      have e : k = l.length := by omega
      exact ⟨ret_bool (by have := Ha.out; rw [e, List.take_length] at this; unfold namesB; rw [this, decide_eq_true (by omega)]; rfl), hb⟩
def sameB (l m : List ByteArray) : Bool := decide (l.map (·.data.toList) = m.map (·.data.toList))
theorem same_no {l m : List ByteArray} (k : Nat) (x y : ByteArray) (hx : l[k]? = some x) (hy : m[k]? = some y) (h : x.data.toList ≠ y.data.toList) : sameB l m = false := by
  unfold sameB
  rw [decide_eq_false]
  intro e
  have := congrArg (fun z => z[k]?) e
  simp [hx, hy] at this
  exact h (by rw [this])
set_option maxHeartbeats 1000000 in
theorem same_any (a b : Option Addr) (c d : Nat) (l m : List ByteArray) (w : World) (ha : IsL w a c l) (hb : IsL w b d m) (hll : l.length ≤ 1000000) :
    Calls Tryd.prog 21 #[.slice a l.length c, .slice b m.length d] w fun e w' => e = .returned (.bool (sameB l m)) ∧ Below w.heap.size w w' := by
  by_cases hlm : l.length = m.length
  · have hlm' : ((l.length : Int) == (m.length : Int)) = true := beq_iff_eq.2 (by omega)
    have hlm2 : ((l.length : Int) != (m.length : Int)) = false := by rw [bne_eq_false_iff_eq]; omega
    have HL := Lib.hid hlm
    clear hlm
    go_enter Tryd.func21, Tryd.ntmps21
    go_wp2
    go_loopw [5] (fun i w' => ∃ k : Nat, k ≤ l.length ∧ i = .int .i64 k ∧ (l.take k).map (·.data.toList) = (m.take k).map (·.data.toList) ∧ Below w.heap.size w w') (fun i _ => l.length - (RowKit.intOf i).toNat)
    case atStart => exact ⟨0, Nat.zero_le _, rfl, rfl, Below.refl _ _⟩
    case round =>
      obtain ⟨k, hk, rfl, he, hbl⟩ := hrel
      have He := Lib.hid he
      clear he
      by_cases hkl : k < l.length
      · obtain ⟨b1, o1, rfl, hlt1, hc1⟩ := ha.2 (fun e => by rw [e] at hkl; simp at hkl)
        have hkm : k < m.length := by have := HL.out; omega
        obtain ⟨b2, o2, rfl, hlt2, hc2⟩ := hb.2 (fun e => by rw [e] at hkm; simp at hkm)
        obtain ⟨x, hx⟩ : ∃ x, l[k]? = some x := ⟨l[k], List.getElem?_eq_getElem hkl⟩
        obtain ⟨y, hy⟩ : ∃ y, m[k]? = some y := ⟨m[k], List.getElem?_eq_getElem hkm⟩
        have Hx := Lib.hid hx
        have Hy := Lib.hid hy
        have hcx : wr.cell? ⟨b1, o1 + k, none⟩ = some (.string x) := by rw [hbl.cell (p := ⟨b1, o1 + k, none⟩) hlt1]; exact hc1 k x hx
        have hcy : wr.cell? ⟨b2, o2 + k, none⟩ = some (.string y) := by rw [hbl.cell (p := ⟨b2, o2 + k, none⟩) hlt2]; exact hc2 k y hy
        have g1 : (k : Int) < (l.length : Int) := by omega
        have g2 : (k : Int) < (m.length : Int) := by omega
        clear hx hy hc1 hc2
        by_cases hxy : x.toList = y.toList
        · have Hxy := Lib.hid hxy
          have hq : (x.toList == y.toList) = true := by rw [hxy]; exact beq_self_eq_true _
          clear hxy
          go_wp2
          go_quiet (fail)
          go_wp2
          go_roundw
          case rel => exact ⟨k + 1, by omega, by go_num, by rw [List.take_add_one, List.take_add_one, List.map_append, List.map_append, He.out, Hx.out, Hy.out]; simp [← ByteArray.toList_eq, Hxy.out], below_drewN hbl nq⟩
          case measure => simp [RowKit.intOf]; omega
        · have Hxy := Lib.hid hxy
          have hq : (x.toList == y.toList) = false := beq_eq_false_iff_ne.2 hxy
          clear hxy
          go_wp2
          go_quiet (fail)
          go_wp2
          go_ret
          exact ⟨ret_bool (same_no k x y Hx.out Hy.out (by rw [← ByteArray.toList_eq, ← ByteArray.toList_eq]; exact Hxy.out)).symm, below_drewN hbl nq⟩
      · go_wp2
        go_ret
        have e : k = l.length := by omega
        exact ⟨ret_bool (by have h1 := He.out; have h2 := HL.out; rw [e, List.take_length, h2, List.take_length] at h1; unfold sameB; rw [decide_eq_true h1]), hbl⟩
  · have hlm2 : ((l.length : Int) != (m.length : Int)) = true := by rw [bne_iff_ne]; omega
    go_enter Tryd.func21, Tryd.ntmps21
    go_wp2
    go_ret
    exact ⟨ret_bool (by unfold sameB; rw [decide_eq_false]; intro e; exact hlm (by simpa using congrArg List.length e)), Below.refl _ _⟩
def fewB (l : List ByteArray) : Bool := decide (l.length ≤ 100) && l.all fun s => decide (s.size ≤ 1000)
set_option maxHeartbeats 1000000 in
theorem few_any (a : Option Addr) (c : Nat) (l : List ByteArray) (w : World) (h : IsL w a c l) (hll : l.length ≤ maxLen) :
    Calls Tryd.prog 10 #[.slice a l.length c] w fun e w' => e = .returned (.bool (fewB l)) ∧ w = w' := by
  unfold maxLen at hll
  go_enter Tryd.func10, Tryd.ntmps10
  go_wp2
  go_loop [3] (fun i => ∃ k : Nat, k ≤ l.length ∧ i = .int .i64 k ∧ (l.take k).all (fun s => decide (s.size ≤ 1000)) = true) (fun i => l.length - (RowKit.intOf i).toNat)
  case atStart => exact ⟨0, Nat.zero_le _, rfl, rfl⟩
  case round =>
    obtain ⟨k, hk, rfl, ha⟩ := hrel
    have Ha := Lib.hid ha
    clear ha
    by_cases hkl : k < l.length
    · obtain ⟨b, o, rfl, hlt, hc⟩ := h.2 (fun e => by rw [e] at hkl; simp at hkl)
      obtain ⟨x, hx⟩ : ∃ x, l[k]? = some x := ⟨l[k], List.getElem?_eq_getElem hkl⟩
      have Hx := Lib.hid hx
      have hcell : w.cell? ⟨b, o + k, none⟩ = some (.string x) := hc k x hx
      clear hx hc
      by_cases hx1 : x.size ≤ 1000
      · go_wp2
        go_round
        case rel => exact ⟨k + 1, by omega, by go_num, by rw [all_take_succ _ l k x Hx.out, Ha.out, decide_eq_true hx1]; rfl⟩
        case measure => simp [RowKit.intOf]; omega
      · go_wp2
        go_ret
        exact ⟨ret_bool (by unfold fewB; rw [all_false _ l k x Hx.out (decide_eq_false hx1), Bool.and_false]), rfl⟩
    · go_wp2
      go_ret
      have e : k = l.length := by omega
      exact ⟨ret_bool (by have := Ha.out; rw [e, List.take_length] at this; unfold fewB; rw [this, Bool.and_true]; exact decide_eq_decide.2 (by omega)), rfl⟩
theorem clone_any (s : ByteArray) (w : World) (hs : s.size ≤ 1000000) :
    Calls Tryd.prog 27 #[.string s] w fun e w' => e = .returned (.string s) ∧ Below w.heap.size w w' := by
  go_enter Tryd.func27, Tryd.ntmps27
  go_wp2_with (go_at_call 34; refine (Tryd.stringslite_Clone _ _ (by omega)).mono ?_; rintro e w' ⟨rfl, hb⟩)
  go_ret
  exact ⟨rfl, hb⟩
def joinS (l : List ByteArray) : ByteArray := ⟨#[47]⟩ ++ ⟨(Lib.join (l.map (·.data.toList)) [47]).toArray⟩
theorem tail_len (r : List ByteArray) (hs : ∀ x ∈ r, x.size ≤ 1000000) : (Lib.joinTail [47] (r.map (·.data.toList))).length ≤ r.length * 1000001 := by
  induction r with
  | nil => simp [Lib.joinTail]
  | cons x r ih =>
    have h1 := ih (fun y hy => hs y (by simp [hy]))
    have h2 := hs x (by simp)
    have h3 : x.data.toList.length = x.size := by simp
    simp only [Lib.joinTail, List.map_cons, List.flatten_cons, List.length_append, List.length_cons, List.length_nil] at h1 ⊢
    omega
theorem join_len (l : List ByteArray) (hs : ∀ x ∈ l, x.size ≤ 1000000) : (Lib.join (l.map (·.data.toList)) [47]).length ≤ l.length * 1000001 := by
  cases l with
  | nil => simp [Lib.join_nil]
  | cons x r =>
    have h1 := tail_len r (fun y hy => hs y (by simp [hy]))
    have h2 := hs x (by simp)
    have h3 : x.data.toList.length = x.size := by simp
    rw [List.map_cons, Lib.join_cons, List.length_append, List.length_cons]
    omega
theorem namesB_len {l : List ByteArray} (h : namesB l = true) : l.length ≤ 16 := by
  unfold namesB at h; simp only [Bool.and_eq_true, decide_eq_true_eq] at h; exact h.1
set_option maxHeartbeats 1000000 in
theorem join_no (a : Option Addr) (c : Nat) (l : List ByteArray) (w : World) (h : IsL w a c l) (hs : ∀ x ∈ l, x.size ≤ 1000000) (hn : namesB l = false) :
    Calls Tryd.prog 15 #[.slice a l.length c] w fun e w' => e = .returned (.tuple #[.string ⟨#[]⟩, .int .i64 10]) ∧ Below w.heap.size w w' := by
  have Hn := Lib.hid hn
  clear hn
  go_enter Tryd.func15, Tryd.ntmps15
  go_wp2_with (go_at_call 26; refine (allNames_any _ _ _ _ h hs).mono ?_; rintro e w1 ⟨rfl, hb1⟩; rw [Hn.out])
  go_ret2
  exact ⟨rfl, hb1⟩
set_option maxHeartbeats 1000000 in
theorem join_yes (a : Option Addr) (c : Nat) (l : List ByteArray) (w : World) (h : IsL w a c l) (hs : ∀ x ∈ l, x.size ≤ 1000000) (hn : namesB l = true) :
    Calls Tryd.prog 15 #[.slice a l.length c] w fun e w' => e = .returned (.tuple #[.string (joinS l), .int .i64 0]) ∧ Below w.heap.size w w' := by
  have Hn := Lib.hid hn
  have h16 := namesB_len hn
  have hj := join_len l hs
  clear hn
  by_cases hne : l = []
  · subst hne
    go_enter Tryd.func15, Tryd.ntmps15
    go_wp2_with fail
    refine (allNames_any a c [] _ h hs).mono ?_
    rintro e w1 ⟨rfl, hb1⟩
    rw [Hn.out]
    go_wp2_with fail
    refine (Tryd.strings_Join_none _ _ _ _).mono ?_
    rintro e w2 ⟨rfl, rfl⟩
    go_wp2
    go_ret2
    exact ⟨rfl, hb1⟩
  · have h2 := h.2 hne
    obtain ⟨b, o, rfl, hlt, hc⟩ := h2
    have HC := Lib.hid hc
    clear hc
    go_enter Tryd.func15, Tryd.ntmps15
    go_wp2_with fail
    refine (allNames_any _ c l _ h hs).mono ?_
    rintro e w1 ⟨rfl, hb1⟩
    rw [Hn.out]
    go_wp2_with fail
    refine (Tryd.strings_Join b o c l _ w1 (fun j x hj => by rw [hb1.cell (p := ⟨b, o + j, none⟩) hlt]; exact HC.out j x hj) (Nat.lt_of_lt_of_le hlt hb1.size) (by omega) h.1 (by simpa using (by omega : (Lib.join (l.map (·.data.toList)) [47]).length ≤ 140737488355328))).mono ?_
    rintro e w2 ⟨rfl, hb2⟩
    go_wp2
    go_ret2
    exact ⟨rfl, hb1.trans (hb2.mono hb1.size)⟩
end Go.Proofs.YtjilmnadcbamaaaDoor
