/-
  VlqCuts: a number's bytes that are cut are none, nor a text's.
-/
import Derived.Test.YtnlhbaaoknbejaaOwnLaw
namespace Go.Proofs.Ytnlhbaaoknbejaa
open Go.RowKit Go.Lib
theorem cut_no {n k : Nat} (hk : k < (Vlq.one n).length) : NoTake ((Vlq.one n).take k) := fun m r h => by
  have e : Vlq.one n ++ [] = Vlq.one m ++ (r ++ (Vlq.one n).drop k) := by
    rw [List.append_nil, ← List.append_assoc, ← h.1, List.take_append_drop]
  have h2 := (Vlq.one_inj e).2
  have h3 := congrArg List.length h2
  simp only [List.length_nil, List.length_append, List.length_drop] at h3
  omega
theorem cut_not {t : List UInt8} {k : Nat} (hk : k < (Vlq.one t.length ++ t).length) : NoTakeT ((Vlq.one t.length ++ t).take k) := fun s r h => by
  have e : Vlq.one t.length ++ t = Vlq.one s.length ++ (s ++ r ++ (Vlq.one t.length ++ t).drop k) := by
    rw [← List.append_assoc, ← h.1, List.take_append_drop]
  have h2 := Vlq.one_inj e
  have h3 := congrArg List.length h2.2
  rw [List.length_append, List.length_append, List.length_drop] at h3
  have := h2.1
  omega
theorem not_empty {o : ByteArray} (h : 0 < o.size) : (o.toList == []) = false := by
  rw [beq_eq_false_iff_ne, ByteArray.toList_eq]
  intro e
  have h1 := congrArg List.length e
  rw [Array.length_toList, List.length_nil] at h1
  have h2 : o.data.size = o.size := rfl
  omega
set_option maxRecDepth 100000 in
set_option maxHeartbeats 4000000 in
theorem cuts_walk (n : Int) (t : ByteArray) (cut : Int) (w : World) (hn : (Lit.int .i64 n).wf = true) (_ht : t.size ≤ maxLen) (hc : (Lit.int .u16 cut).wf = true) :
    Calls Try.prog 6 #[.int .i64 n, .string t, .int .u16 cut] w fun e w' => e = .returned (.bool true) ∧ Below w.heap.size w w' := by
  have hn2 := i64_wf hn
  have hc2 := u16_wf hc
  unfold I64 at hn2
  clear _ht hn hc
  by_cases h1 : t.size ≤ 1000 ∧ 0 ≤ n
  · obtain ⟨ht, h0⟩ := h1
    obtain ⟨m, rfl⟩ : ∃ m : Nat, n = (m : Int) := ⟨n.toNat, by omega⟩
    have hm : m < 9223372036854775808 := by omega
    have d1 : decide ((1000 : Int) < (t.size : Int)) = false := decide_eq_false (by omega)
    have d2 : decide ((m : Int) < 0) = false := decide_eq_false (by omega)
    have h9 := Vlq.one_nine hm
    have hp := Vlq.one_pos m
    have h92 := Vlq.one_nine (n := t.size) (by omega)
    have hp2 := Vlq.one_pos t.size
    obtain ⟨o, ho⟩ : ∃ o, ofL (Vlq.one m) = o := ⟨_, rfl⟩
    obtain ⟨y, hy⟩ : ∃ y, ofL (Vlq.one t.size) ++ t = y := ⟨_, rfl⟩
    have hos : o.size = (Vlq.one m).length := by rw [← ho]; rfl
    have hys : y.size = (Vlq.one t.size).length + t.size := by rw [← hy, ByteArray.size_append]; rfl
    obtain ⟨L, hL⟩ : ∃ L, o.size = L := ⟨_, rfl⟩
    obtain ⟨M, hM⟩ : ∃ M, y.size = M := ⟨_, rfl⟩
    have hwc : wrap64 cut = cut := by unfold wrap64; omega
    obtain ⟨k, hk, hkl⟩ : ∃ k : Nat, cut.tmod (L : Int) = (k : Int) ∧ k < L := by
      refine ⟨(cut % (L : Int)).toNat, ?_, ?_⟩
      · rw [Int.tmod_eq_emod_of_nonneg hc2.1, Int.toNat_of_nonneg (Int.emod_nonneg _ (by omega))]
      · have := Int.emod_lt_of_pos cut (show (0 : Int) < (L : Int) by omega)
        have := Int.emod_nonneg cut (show (L : Int) ≠ 0 by omega)
        omega
    obtain ⟨j, hj, hjl⟩ : ∃ j : Nat, cut.tmod (M : Int) = (j : Int) ∧ j < M := by
      refine ⟨(cut % (M : Int)).toNat, ?_, ?_⟩
      · rw [Int.tmod_eq_emod_of_nonneg hc2.1, Int.toNat_of_nonneg (Int.emod_nonneg _ (by omega))]
      · have := Int.emod_lt_of_pos cut (show (0 : Int) < (M : Int) by omega)
        have := Int.emod_nonneg cut (show (M : Int) ≠ 0 by omega)
        omega
    have hno : NoTake (o.extract 0 k).data.toList := by
      rw [extract_data, ← ho, data_ofL, List.drop_zero]
      exact cut_no (by omega)
    have hnt : NoTakeT (y.extract 0 j).data.toList := by
      have e : y.data.toList = Vlq.one t.data.toList.length ++ t.data.toList := by rw [← hy]; simp [ofL]
      rw [extract_data, List.drop_zero, e]
      refine cut_not ?_
      have : t.data.toList.length = t.size := by simp
      rw [List.length_append, this]; omega
    have hps : (o.extract 0 k).size ≤ 1000000 := by rw [ByteArray.size_extract]; omega
    have hpt : (y.extract 0 j).size ≤ 1000000 := by rw [ByteArray.size_extract]; omega
    obtain ⟨po, hpo⟩ : ∃ x, o.extract 0 k = x := ⟨_, rfl⟩
    obtain ⟨py, hpy⟩ : ∃ x, y.extract 0 j = x := ⟨_, rfl⟩
    rw [hpo] at hno hps
    rw [hpy] at hnt hpt
    have gk : (k : Int) ≤ (L : Int) := by omega
    have gj : (j : Int) ≤ (M : Int) := by omega
    have gL : ¬ (L : Int) = 0 := by omega
    have gM : ¬ (M : Int) = 0 := by omega
    have q1 : (o.toList == []) = false := not_empty (by omega)
    have q2 : (y.toList == []) = false := not_empty (by omega)
    have HP := Lib.hid (fun w a c h => @put_one m hm w a c h)
    have HX := Lib.hid (text_one t (by omega))
    rw [ho] at HP
    rw [hy] at HX
    have HNo := Lib.hid hno
    have HNt := Lib.hid hnt
    clear hno hnt ho hy hos hys hp hp2 h9 h92 h0 hn2
    go_enter Try.func6, Try.ntmps6
    go_wp2_with fail
    refine (awake_any _).mono ?_
    rintro e w1 ⟨rfl, b1⟩
    go_wp2_with fail
    refine (HP.out _ _ _ (isI_new _ [(m : Int)] 3)).mono ?_
    rintro e w2 ⟨rfl, c2⟩
    have b2 := step_a b1 c2
    clear c2 b1
    go_wp2_with fail
    refine (HX.out _).mono ?_
    rintro e w3 ⟨rfl, c3⟩
    have b3 := step_b b2 c3
    clear c3 b2
    go_wp2_with fail
    refine (take_no po _ hps HNo.out).mono ?_
    rintro e w4 ⟨rfl, c4⟩
    have b4 := step_b b3 c4
    clear c4 b3
    go_wp2_with fail
    refine (tt_no py _ hpt HNt.out).mono ?_
    rintro e w5 ⟨rfl, c5⟩
    have b5 := step_b b4 c5
    clear c5 b4
    go_wp2
    go_ret
    exact ⟨rfl, b5⟩
  · have H1 := Lib.hid h1
    clear h1
    go_enter Try.func6, Try.ntmps6
    go_wp2_with fail
    refine (awake_any _).mono ?_
    rintro e w1 ⟨rfl, b1⟩
    go_wp2_with fail
    all_goals first
      | (go_ret; exact ⟨rfl, b1⟩)
      | (exfalso; have := H1.out; omega)
end Go.Proofs.Ytnlhbaaoknbejaa
