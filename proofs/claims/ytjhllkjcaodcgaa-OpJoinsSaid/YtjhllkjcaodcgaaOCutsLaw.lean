/-
  OpCuts: no beginning of an operation's bytes, but the whole, is one.
-/
import Derived.Test.YtjhllkjcaodcgaaOOpen
namespace Go.Proofs.Ytjhllkjcaodcgaa
open Go.RowKit Go.Lib
theorem ocut_no {o : Opn} (ho : mayO o = true) {k : Nat} (hk : k < (opB o).length) : NoTakeO ((opB o).take k) := fun q r h => by
  have e : opB o ++ [] = opB q ++ (r ++ (opB o).drop k) := by
    rw [List.append_nil, ← List.append_assoc, ← h.2, List.take_append_drop]
  have h2 := (opB_inj ho h.1 e).2
  have h3 := congrArg List.length h2
  simp only [List.length_nil, List.length_append, List.length_drop] at h3
  omega
theorem not_empty {o : ByteArray} (h : 0 < o.size) : (o.toList == []) = false := by
  rw [beq_eq_false_iff_ne, ByteArray.toList_eq]
  intro e
  have h1 := congrArg List.length e
  rw [Array.length_toList, List.length_nil] at h1
  have h2 : o.data.size = o.size := rfl
  omega
set_option maxRecDepth 100000 in
set_option maxHeartbeats 4000000 in
theorem ocuts_walk (o : Opn) (cut : Int) (w : World) (hi : InO o) (hc : (Lit.int .u16 cut).wf = true) :
    Calls Try.prog 6 #[OV o, .int .u16 cut] w fun e w' => e = .returned (.bool true) ∧ Below w.heap.size w w' := by
  have hc2 := u16_wf hc
  have hs := hi.2.1
  have hrn := hi.1.2.2.2.1
  have hrp := hi.1.2.2.2.2
  have CA0 := Lib.hid (cells_at w _ rfl (cellsO o) 25)
  clear hi hc
  cases hm : mayO o with
  | true =>
    have h150 := txt_size hm
    have hpos := List.length_pos_iff.2 (opB_pos o)
    obtain ⟨x, hx⟩ : ∃ x, ofL (opB o) = x := ⟨_, rfl⟩
    have hxs : x.size = (opB o).length := by rw [← hx]; rfl
    obtain ⟨L, hL⟩ : ∃ L, x.size = L := ⟨_, rfl⟩
    have hwc : wrap64 cut = cut := by unfold wrap64; omega
    obtain ⟨k, hk, hkl⟩ : ∃ k : Nat, cut.tmod (L : Int) = (k : Int) ∧ k < L := by
      refine ⟨(cut % (L : Int)).toNat, ?_, ?_⟩
      · rw [Int.tmod_eq_emod_of_nonneg hc2.1, Int.toNat_of_nonneg (Int.emod_nonneg _ (by omega))]
      · have := Int.emod_lt_of_pos cut (show (0 : Int) < (L : Int) by omega)
        have := Int.emod_nonneg cut (show (L : Int) ≠ 0 by omega)
        omega
    have hno : NoTakeO (x.extract 0 k).data.toList := by
      rw [extract_data, ← hx, data_ofL, List.drop_zero]
      exact ocut_no hm (by omega)
    have hps : (x.extract 0 k).size ≤ 1000000 := by rw [ByteArray.size_extract]; omega
    obtain ⟨po, hpo⟩ : ∃ y, x.extract 0 k = y := ⟨_, rfl⟩
    rw [hpo] at hno hps
    have gk : (k : Int) ≤ (L : Int) := by omega
    have gL : ¬ (L : Int) = 0 := by omega
    have q1 : (x.toList == []) = false := not_empty (by omega)
    have HP := Lib.hid (fun w => oput_yes ⟨#[]⟩ o w (by decide) hm)
    have he : (⟨#[]⟩ : ByteArray) ++ ofL (opB o) = x := by rw [← hx]; exact ByteArray.empty_append
    rw [he] at HP
    have HNo := Lib.hid hno
    clear hno hx hxs hpos h150 hm he hs
    go_enter Try.func6, Try.ntmps6
    go_wp2_with fail
    refine (awake_any _).mono ?_
    rintro e w1 ⟨rfl, c1⟩
    have b1 := step_a (Below.refl _ _) c1
    have CA1 := Lib.hid (CA0.out.below c1)
    have a0 := CA1.out.cell 0 _ rfl
    have a1 := CA1.out.cell 1 _ rfl
    have a2 := CA1.out.cell 2 _ rfl
    have a3 := CA1.out.cell 3 _ rfl
    have a4 := CA1.out.cell 4 _ rfl
    have a5 := CA1.out.cell 5 _ rfl
    have a6 := CA1.out.cell 6 _ rfl
    clear CA0 c1
    go_wp2_with fail
    refine (HP.out _).mono ?_
    rintro e w2 ⟨rfl, c2⟩
    have b2 := step_b b1 c2
    clear a0 a1 a2 a3 a4 a5 a6 c2 b1 CA1
    go_wp2_with fail
    refine (otk_no po hps HNo.out _).mono ?_
    rintro e w3 ⟨rfl, c3⟩
    have b3 := step_b b2 c3
    clear c3 b2
    go_wp2
    go_ret
    exact ⟨rfl, b3.alloc b3.size _⟩
  | false =>
    have HP := Lib.hid (fun w => oput_no ⟨#[]⟩ o w hm hs hrn hrp)
    have HC := Lib.hid (fun w => ochk_any o w hs hrn hrp)
    rw [hm] at HC
    clear hm
    go_enter Try.func6, Try.ntmps6
    go_wp2_with fail
    refine (awake_any _).mono ?_
    rintro e w1 ⟨rfl, c1⟩
    have b1 := step_a (Below.refl _ _) c1
    have CA1 := Lib.hid (CA0.out.below c1)
    have a0 := CA1.out.cell 0 _ rfl
    have a1 := CA1.out.cell 1 _ rfl
    have a2 := CA1.out.cell 2 _ rfl
    have a3 := CA1.out.cell 3 _ rfl
    have a4 := CA1.out.cell 4 _ rfl
    have a5 := CA1.out.cell 5 _ rfl
    have a6 := CA1.out.cell 6 _ rfl
    clear CA0 c1
    go_wp2_with fail
    refine (HP.out _).mono ?_
    rintro e w2 ⟨rfl, c2⟩
    have b2 := step_b b1 c2
    have CA2 := Lib.hid (CA1.out.below c2)
    clear a0 a1 a2 a3 a4 a5 a6
    have a0 := CA2.out.cell 0 _ rfl
    have a1 := CA2.out.cell 1 _ rfl
    have a2 := CA2.out.cell 2 _ rfl
    have a3 := CA2.out.cell 3 _ rfl
    have a4 := CA2.out.cell 4 _ rfl
    have a5 := CA2.out.cell 5 _ rfl
    have a6 := CA2.out.cell 6 _ rfl
    clear CA1 c2 b1
    go_wp2_with fail
    refine (HC.out _).mono ?_
    rintro e w3 ⟨rfl, c3⟩
    have b3 := step_b b2 c3
    go_wp2
    go_ret
    exact ⟨rfl, b3⟩
end Go.Proofs.Ytjhllkjcaodcgaa
