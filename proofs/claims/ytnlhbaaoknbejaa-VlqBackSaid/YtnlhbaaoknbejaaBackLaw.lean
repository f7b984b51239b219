/-
  VlqBack: numbers, and texts, that were put are taken again, one by one, and leave what stands behind.
-/
import Derived.Test.YtnlhbaaoknbejaaJoinsLaw
namespace Go.Proofs.Ytnlhbaaoknbejaa
open Go.RowKit Go.Lib
/-- What is left when k numbers were taken. -/
def cur (l : List Int) (tail : ByteArray) (k : Nat) : ByteArray := ofL (Vlq.ones (l.drop k)) ++ tail
theorem cur_step {l : List Int} {tail : ByteArray} {k m : Nat} (hx : l[k]? = some (m : Int)) : cur l tail k = ofL (Vlq.one m) ++ cur l tail (k + 1) := by
  have hk : k < l.length := (List.getElem?_eq_some_iff.1 hx).1
  have e : l.drop k = (m : Int) :: l.drop (k + 1) := by
    rw [List.drop_eq_getElem_cons hk]
    congr 1
    exact (List.getElem?_eq_some_iff.1 hx).2
  unfold cur
  rw [e, Vlq.ones_cons, Int.toNat_natCast, ← ofL_append, ByteArray.append_assoc]
theorem cur_end (l : List Int) (tail : ByteArray) : cur l tail l.length = tail := by
  unfold cur
  rw [List.drop_length]
  exact empty_append tail
theorem cur_size {l : List Int} (h : ∀ x ∈ l, x ≤ 9223372036854775807) (tail : ByteArray) (k : Nat) : (cur l tail k).size ≤ 9 * l.length + tail.size := by
  have h1 := Vlq.ones_len (l := l.drop k) (fun x hx => h x (List.mem_of_mem_drop hx))
  have h2 : (l.drop k).length ≤ l.length := by rw [List.length_drop]; omega
  unfold cur
  rw [ByteArray.size_append, ofL_size]
  omega
set_option maxRecDepth 100000 in
set_option maxHeartbeats 4000000 in
theorem back_walk (a : Option Addr) (c : Nat) (l : List Int) (t : ByteArray) (behind : ByteArray) (w : World)
    (hl : IsI w a c l ∧ l.length ≤ maxLen ∧ (∀ x ∈ l, I64 x) ∧ (a = none → c = 0)) (_ht : t.size ≤ maxLen) (_hb : behind.size ≤ maxLen) :
    Calls Try.prog 4 #[.slice a l.length c, .string t, .string behind] w fun e w' => e = .returned (.bool true) ∧ Below w.heap.size w w' := by
  obtain ⟨hl, ml, il, _⟩ := hl
  unfold maxLen at ml
  have HL := Lib.hid hl
  have IL := Lib.hid il
  clear hl il _ht _hb
  by_cases h1 : l.length ≤ 100 ∧ t.size ≤ 1000 ∧ behind.size ≤ 1000
  · obtain ⟨h1, h2, h3⟩ := h1
    have d1 : decide ((100 : Int) < (l.length : Int)) = false := decide_eq_false (by omega)
    have d2 : decide ((1000 : Int) < (t.size : Int)) = false := decide_eq_false (by omega)
    have d3 : decide ((1000 : Int) < (behind.size : Int)) = false := decide_eq_false (by omega)
    cases hn : negB l with
    | true =>
      have hp := put_neg (b := ⟨#[]⟩) hn
      have P1 := Lib.hid hp.1
      have P2 := Lib.hid hp.2
      clear hp hn
      go_enter Try.func4, Try.ntmps4
      go_wp2_with fail
      refine (awake_any _).mono ?_
      rintro _ w1 ⟨rfl, b1⟩
      go_wp2_with fail
      refine (put_any ⟨#[]⟩ a c l _ (by decide) (HL.out.below b1) (by omega) IL.out).mono ?_
      rintro _ w2 ⟨rfl, c2⟩
      rw [P1.out, P2.out]
      have b2 := step_b b1 c2
      go_wp2
      go_ret
      exact ⟨rfl, b2⟩
    | false =>
      have hp := put_yes (b := ⟨#[]⟩) hn
      have P2 := Lib.hid hp.2
      obtain ⟨tail, htl⟩ : ∃ tail, ofL (Vlq.one t.size) ++ t ++ behind = tail := ⟨_, rfl⟩
      have h9 := Vlq.one_nine (n := t.size) (by omega)
      have htls : tail.size ≤ 2009 := by rw [← htl, ByteArray.size_append, ByteArray.size_append, ofL_size]; omega
      have hc0 : ofL (Vlq.ones l) ++ ofL (Vlq.one t.size) ++ t ++ behind = cur l tail 0 := by
        unfold cur
        rw [List.drop_zero, ← htl]
        simp only [ByteArray.append_assoc]
      have hil : ∀ x ∈ l, x ≤ 9223372036854775807 := fun x hx => (IL.out x hx).2
      have hon := Vlq.ones_len hil
      obtain ⟨b0, hb0⟩ : ∃ b0, ofL (Vlq.ones l) = b0 := ⟨_, rfl⟩
      have hb0s : b0.size ≤ 900 := by rw [← hb0, ofL_size]; omega
      have P1 := Lib.hid (show putS ⟨#[]⟩ l = b0 by rw [hp.1, empty_append, hb0])
      rw [hb0] at hc0
      obtain ⟨b1', hb1⟩ : ∃ s, b0 ++ ofL (Vlq.one t.size) ++ t = s := ⟨_, rfl⟩
      have hb1s : b1'.size ≤ 2000 := by rw [← hb1, ByteArray.size_append, ByteArray.size_append, ofL_size]; omega
      rw [hb1] at hc0
      have gz : b1'.size + behind.size ≤ 140737488355328 := by omega
      have HB1 := Lib.hid hb1
      have HN := Lib.hid hn
      have HTT := Lib.hid (show TakesT tail.data.toList t.data.toList behind.data.toList by
        unfold TakesT Vlq.Takes
        have : t.data.toList.length = t.size := by simp
        rw [← htl, this]
        exact ⟨by simp [ofL], by omega⟩)
      have HIL := Lib.hid hil
      clear hp hn hon hb0 hb1 htl hil
      go_enter Try.func4, Try.ntmps4
      go_wp2_with fail
      refine (awake_any _).mono ?_
      rintro _ w1 ⟨rfl, b1⟩
      go_wp2_with fail
      refine (put_any ⟨#[]⟩ a c l _ (by decide) (HL.out.below b1) (by omega) IL.out).mono ?_
      rintro _ w2 ⟨rfl, c2⟩
      rw [P1.out, P2.out]
      have b2 := step_b b1 c2
      clear c2 b1
      go_wp2_with fail
      refine (text_any b0 t _ (by omega) (by omega)).mono ?_
      rintro _ w3 ⟨rfl, c3⟩
      rw [HB1.out]
      have b3 := step_b b2 c3
      clear c3 b2
      go_wp2_with fail
      go_loopw [8, 10] (fun s i w' => ∃ k : Nat, k ≤ l.length ∧ i = .int .i64 k ∧ s = .string (cur l tail k) ∧ Below w.heap.size w w') (fun _ i _ => l.length - (RowKit.intOf i).toNat)
      case atStart => exact ⟨0, Nat.zero_le _, rfl, rfl, b3⟩
      case round =>
        obtain ⟨k, hk, rfl, rfl, ck⟩ := hrel
        have hs1 := cur_size HIL.out tail k
        by_cases hkl : k < l.length
        · obtain ⟨g, o, rfl, hlt, hc⟩ := HL.out.2 (fun e => by rw [e] at hkl; simp at hkl)
          obtain ⟨x, hx⟩ : ∃ x, l[k]? = some x := ⟨l[k], List.getElem?_eq_getElem hkl⟩
          have hcell : ∀ w', Below w.heap.size w w' → w'.cell? ⟨g, o + k, none⟩ = some (.int .i64 x) := fun w' hb => by rw [hb.cell (p := ⟨g, o + k, none⟩) hlt]; exact hc k x hx
          have hx0 := nat_of_neg HN.out hx
          have hxl := HIL.out x (List.mem_of_getElem? hx)
          obtain ⟨m, rfl⟩ : ∃ m : Nat, x = (m : Int) := ⟨x.toNat, by omega⟩
          have hst := cur_step (tail := tail) hx
          obtain ⟨q, hq⟩ : ∃ q, (Vlq.one m).length = q := ⟨_, rfl⟩
          have hsz := congrArg ByteArray.size hst
          rw [ByteArray.size_append, ofL_size, hq] at hsz
          have SM := Lib.hid (size_of m q (by omega) hq)
          have HTk := Lib.hid (show Vlq.Takes (cur l tail k).data.toList m (cur l tail (k + 1)).data.toList from ⟨by rw [hst]; simp [ofL], by omega⟩)
          have HD := Lib.hid (ofL_data (cur l tail (k + 1)))
          obtain ⟨s0, hs0⟩ : ∃ s, cur l tail k = s := ⟨_, rfl⟩
          obtain ⟨s1, hs11⟩ : ∃ s, cur l tail (k + 1) = s := ⟨_, rfl⟩
          rw [hs0, hs11] at hsz
          rw [hs0] at hs1 HTk ⊢
          rw [hs11] at HD HTk
          have hsub : (s0.size : Int) - (s1.size : Int) = (q : Int) := by omega
          have HS1 := Lib.hid hs11
          have HC := Lib.hid hcell
          clear hx hc hq hst hs0 hs11 hcell hsz
          go_wp2_with fail
          refine (take_yes s0 m _ _ (by omega) HTk.out).mono ?_
          rintro _ w4 ⟨rfl, c4⟩
          rw [HD.out]
          have b4 := step_b ck c4
          have hcell := HC.out w4 b4
          clear c4 ck
          go_wp2_with fail
          refine (SM.out _).mono ?_
          rintro _ w5 ⟨rfl, c5⟩
          have b5 := step_b b4 c5
          go_wp2_with fail
          go_roundw
          case rel => exact ⟨k + 1, by omega, by go_num, by rw [HS1.out], b5⟩
          case measure => simp [RowKit.intOf]; omega
        · have e : k = l.length := by omega
          subst e
          rw [cur_end] at hs1 ⊢
          have HD1 := Lib.hid (ofL_data t)
          have HD2 := Lib.hid (ofL_data behind)
          go_wp2_with fail
          refine (tt_yes tail _ _ _ (by omega) HTT.out).mono ?_
          rintro _ w4 ⟨rfl, c4⟩
          rw [HD1.out, HD2.out]
          have b4 := step_b ck c4
          go_wp2
          go_ret
          exact ⟨rfl, b4⟩
  · have H1 := Lib.hid h1
    clear h1
    go_enter Try.func4, Try.ntmps4
    go_wp2_with fail
    refine (awake_any _).mono ?_
    rintro _ w1 ⟨rfl, b1⟩
    go_wp2_with fail
    all_goals first
      | (go_ret; exact ⟨rfl, b1⟩)
      | (exfalso; have := H1.out; omega)
end Go.Proofs.Ytnlhbaaoknbejaa
