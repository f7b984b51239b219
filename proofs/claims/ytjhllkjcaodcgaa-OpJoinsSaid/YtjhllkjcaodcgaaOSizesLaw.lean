/-
  OpSizes: an operation has the bytes of its numbers, and its text, and no other ones.
-/
import Derived.Test.YtjhllkjcaodcgaaOCutsLaw
namespace Go.Proofs.Ytjhllkjcaodcgaa
open Go.RowKit Go.Lib
theorem osize_nat (n : Nat) (hn : n < 9223372036854775808) (w : World) : Calls Try.prog 24 #[.int .i64 n] w fun e w' => e = .returned (.int .i64 ((Vlq.one n).length : Nat)) ∧ Below w.heap.size w w' := by
  have := size_any n (by omega) (by omega) w
  have e : sizeI n = ((Vlq.one n).length : Nat) := by unfold sizeI; rw [if_neg (by omega), Int.toNat_natCast]
  rw [e] at this
  exact this
set_option maxRecDepth 100000 in
set_option maxHeartbeats 4000000 in
theorem osizes_yes (c r k n p : Nat) (s d : ByteArray) (w : World) (hm : mayO ⟨c, r, k, n, p, s, d⟩ = true) :
    Calls Try.prog 7 #[OV ⟨c, r, k, n, p, s, d⟩] w fun e w' => e = .returned (.bool true) ∧ Below w.heap.size w w' := by
  have CA0 := Lib.hid (cells_at w _ rfl (cellsO ⟨c, r, k, n, p, s, d⟩) 25)
  obtain ⟨h1, h2, h3⟩ := mayO_parts hm
  simp only at h1 h2 h3
  have h150 := txt_size hm
  have hsd : s.size + d.size ≤ 150 ∧ txt ⟨c, r, k, n, p, s, d⟩ = s ++ d := by
    have ht : (txt ⟨c, r, k, n, p, s, d⟩).size ≤ 150 := by
      have := h150
      unfold opB at this
      simp only [List.length_append] at this
      have e7 : (txt ⟨c, r, k, n, p, s, d⟩).data.toList.length = (txt ⟨c, r, k, n, p, s, d⟩).size := by simp
      omega
    rcases h3 with ⟨hk, _, _, rfl⟩ | ⟨hk, _, _, rfl⟩
    · have e : txt ⟨c, r, k, n, p, s, ⟨#[]⟩⟩ = s := by unfold txt; rw [if_pos hk]
      rw [e] at ht ⊢
      exact ⟨ht, by exact (ByteArray.append_empty).symm⟩
    · have e : txt ⟨c, r, k, n, p, ⟨#[]⟩, d⟩ = d := by unfold txt; rw [if_neg (by show ¬ (k : Int) = 1; omega)]
      rw [e] at ht ⊢
      have h0 : (ByteArray.mk #[]).size = 0 := rfl
      exact ⟨by rw [h0, Nat.zero_add]; exact ht, by exact (ByteArray.empty_append).symm⟩
  obtain ⟨hsd1, hsd2⟩ := hsd
  obtain ⟨t, htt⟩ : ∃ t, s ++ d = t := ⟨_, rfl⟩
  have hts : t.size ≤ 150 := by rw [← htt, ByteArray.size_append]; exact hsd1
  have gsd : ¬ 9223372036854775807 < s.size + d.size := by omega
  obtain ⟨l1, q1⟩ : ∃ l, (Vlq.one c).length = l := ⟨_, rfl⟩
  obtain ⟨l2, q2⟩ : ∃ l, (Vlq.one r).length = l := ⟨_, rfl⟩
  obtain ⟨l3, q3⟩ : ∃ l, (Vlq.one k).length = l := ⟨_, rfl⟩
  obtain ⟨l4, q4⟩ : ∃ l, (Vlq.one n).length = l := ⟨_, rfl⟩
  obtain ⟨l5, q5⟩ : ∃ l, (Vlq.one p).length = l := ⟨_, rfl⟩
  obtain ⟨l6, q6⟩ : ∃ l, (Vlq.one t.size).length = l := ⟨_, rfl⟩
  obtain ⟨T, qT⟩ : ∃ l, t.size = l := ⟨_, rfl⟩
  have hk2 : k = 1 ∨ k = 2 := by rcases h3 with ⟨e, _⟩ | ⟨e, _⟩ <;> omega
  have hp2 : p < 9223372036854775808 := by rcases h3 with ⟨_, e, _⟩ | ⟨_, _, e, _⟩ <;> omega
  have b1 : l1 ≤ 9 := by rw [← q1]; exact Vlq.one_nine (by omega)
  have b2 : l2 ≤ 9 := by rw [← q2]; exact Vlq.one_nine (by omega)
  have b3 : l3 ≤ 9 := by rw [← q3]; exact Vlq.one_nine (by omega)
  have b4 : l4 ≤ 9 := by rw [← q4]; exact Vlq.one_nine (by omega)
  have b5 : l5 ≤ 9 := by rw [← q5]; exact Vlq.one_nine (by omega)
  have b6 : l6 ≤ 9 := by rw [← q6]; exact Vlq.one_nine (by omega)
  have S1 := Lib.hid (fun w => osize_nat c (by omega) w)
  have S2 := Lib.hid (fun w => osize_nat r (by omega) w)
  have S3 := Lib.hid (fun w => osize_nat k (by omega) w)
  have S4 := Lib.hid (fun w => osize_nat n (by omega) w)
  have S5 := Lib.hid (fun w => osize_nat p hp2 w)
  have S6 := Lib.hid (fun w => osize_nat t.size (by omega) w)
  have eT : ((T : Nat) : Int) = (s.size : Int) + (d.size : Int) := by rw [← qT, ← htt, ByteArray.size_append]; push_cast; rfl
  rw [q1] at S1; rw [q2] at S2; rw [q3] at S3; rw [q4] at S4; rw [q5] at S5; rw [q6] at S6
  rw [qT, eT] at S6
  obtain ⟨x, hx⟩ : ∃ x, ofL (opB ⟨c, r, k, n, p, s, d⟩) = x := ⟨_, rfl⟩
  have hxs : x.size = (opB ⟨c, r, k, n, p, s, d⟩).length := by rw [← hx]; rfl
  have hx1 : k = 1 → x.size = l1 + l2 + l3 + l4 + l5 + l6 + T := fun e => by
    rw [hxs]
    unfold opB
    simp only [List.length_append, hsd2, htt, Int.toNat_natCast]
    rw [if_pos (by omega), q1, q2, q3, q4, q5, q6]
    have : t.data.toList.length = T := by rw [← qT]; simp
    omega
  have hx2 : k ≠ 1 → x.size = l1 + l2 + l3 + l4 + l6 + T := fun e => by
    rw [hxs]
    unfold opB
    simp only [List.length_append, hsd2, htt, Int.toNat_natCast]
    rw [if_neg (by omega), q1, q2, q3, q4, q6]
    have : t.data.toList.length = T := by rw [← qT]; simp
    simp only [List.length_nil]
    omega
  have hx150 : x.size ≤ 150 := by omega
  have d150 : decide ((x.size : Int) ≤ 150) = true := decide_eq_true (by omega)
  have HT2 := Lib.hid eT
  have HX1 := Lib.hid hx1
  have HX2 := Lib.hid hx2
  have HP := Lib.hid (fun w => oput_yes ⟨#[]⟩ ⟨c, r, k, n, p, s, d⟩ w (by decide) hm)
  have he : (⟨#[]⟩ : ByteArray) ++ ofL (opB ⟨c, r, k, n, p, s, d⟩) = x := by rw [← hx]; exact ByteArray.empty_append
  rw [he] at HP
  have hmb : mayB c r = true := mayB_mk h1
  have HC := Lib.hid hmb
  have HT := Lib.hid htt
  have HQ := Lib.hid qT
  clear eT hx1 hx2 hx hxs he hmb htt qT hm h1 h2 h3 h150 hsd2 q1 q2 q3 q4 q5 q6 hp2
  go_enter Try.func7, Try.ntmps7
  go_wp2_with fail
  refine (awake_any _).mono ?_
  rintro e w1 ⟨rfl, c1⟩
  have b7 := step_a (Below.refl _ _) c1
  have CA1 := Lib.hid (CA0.out.below c1)
  have a0 := CA1.out.cell 0 _ rfl
  have a1 := CA1.out.cell 1 _ rfl
  have a2 := CA1.out.cell 2 _ rfl
  have a3 := CA1.out.cell 3 _ rfl
  have a4 := CA1.out.cell 4 _ rfl
  have a5 := CA1.out.cell 5 _ rfl
  have a6 := CA1.out.cell 6 _ rfl
  clear CA0 c1
  go_wp2_with fail
  refine (HP.out _).mono ?_
  rintro e w2 ⟨rfl, c2⟩
  have b8 := step_b b7 c2
  have CA2 := Lib.hid (CA1.out.below c2)
  clear a0 a1 a2 a3 a4 a5 a6 c2 b7 CA1
  have L0 : ∀ m : Later w2, m.w.cell? ⟨w.heap.size, 0, none⟩ = some (.int .i64 c) := fun m => (CA2.out.below m.below).cell 0 _ rfl
  have L1 : ∀ m : Later w2, m.w.cell? ⟨w.heap.size, 1, none⟩ = some (.int .i64 r) := fun m => (CA2.out.below m.below).cell 1 _ rfl
  have L2 : ∀ m : Later w2, m.w.cell? ⟨w.heap.size, 2, none⟩ = some (.int .i64 k) := fun m => (CA2.out.below m.below).cell 2 _ rfl
  have L3 : ∀ m : Later w2, m.w.cell? ⟨w.heap.size, 3, none⟩ = some (.int .i64 n) := fun m => (CA2.out.below m.below).cell 3 _ rfl
  go_wp2_with fail
  refine wp_region_r (by kernel_rfl) (by kernel_rfl) ?_
  repeat (refine wpR_pure (fun K hK => ?_); go_simp; (try go_ints); refine hK _ ?_; clear hK K)
  refine wpR_pure (fun K hK => ?_)
  go_simp
  apply Exists.intro
  refine ⟨fun m => ?_, hK _ ?_⟩
  · go_at_call 24
    exact S1.out _
  clear hK K
  repeat (refine wpR_pure (fun K hK => ?_); go_simp; (try go_ints); refine hK _ ?_; clear hK K)
  refine wpR_pure (fun K hK => ?_)
  go_simp
  apply Exists.intro
  refine ⟨fun m => ?_, hK _ ?_⟩
  · go_at_call 24
    exact S2.out _
  clear hK K
  repeat (refine wpR_pure (fun K hK => ?_); go_simp; (try go_ints); refine hK _ ?_; clear hK K)
  refine wpR_pure (fun K hK => ?_)
  go_simp
  apply Exists.intro
  refine ⟨fun m => ?_, hK _ ?_⟩
  · go_at_call 24
    exact S3.out _
  clear hK K
  repeat (refine wpR_pure (fun K hK => ?_); go_simp; (try go_ints); refine hK _ ?_; clear hK K)
  refine wpR_pure (fun K hK => ?_)
  go_simp
  apply Exists.intro
  refine ⟨fun m => ?_, hK _ ?_⟩
  · go_at_call 24
    exact S4.out _
  clear hK K
  repeat (refine wpR_pure (fun K hK => ?_); go_simp; (try go_ints); refine hK _ ?_; clear hK K)
  refine wpR_nil (fun xs m _ => ?_)
  have b9 := step_b b8 m.below
  have CA3 := Lib.hid (CA2.out.below m.below)
  generalize m.w = w3 at *
  clear L0 L1 L2 L3 CA2 b8
  have a0 := CA3.out.cell 0 _ rfl
  have a1 := CA3.out.cell 1 _ rfl
  have a2 := CA3.out.cell 2 _ rfl
  have a3 := CA3.out.cell 3 _ rfl
  have a4 := CA3.out.cell 4 _ rfl
  have a5 := CA3.out.cell 5 _ rfl
  have a6 := CA3.out.cell 6 _ rfl
  rcases hk2 with e | e
  · have HE := Lib.hid (HX1.out e)
    have ek : ((k : Int) == 1) = true := by rw [beq_iff_eq]; omega
    clear HX1 HX2 e
    go_wp2_with fail
    refine (S5.out _).mono ?_
    rintro e w4 ⟨rfl, c4⟩
    have b10 := step_b b9 c4
    have CA4 := Lib.hid (CA3.out.below c4)
    clear a0 a1 a2 a3 a4 a5 a6 c4 b9 CA3
    have a0 := CA4.out.cell 0 _ rfl
    have a1 := CA4.out.cell 1 _ rfl
    have a2 := CA4.out.cell 2 _ rfl
    have a3 := CA4.out.cell 3 _ rfl
    have a4 := CA4.out.cell 4 _ rfl
    have a5 := CA4.out.cell 5 _ rfl
    have a6 := CA4.out.cell 6 _ rfl
    go_wp2_with fail
    have hs1 : ((x.size : Nat) : Int) = ↑l1 + ↑l2 + ↑l3 + ↑l4 + ↑l5 + ↑l6 + (↑s.size + ↑d.size) := by have := HE.out; have := HT2.out; omega
    have hs2 : (↑l1 + ↑l2 + ↑l3 + ↑l4 + ↑l5 + ↑l6 + (↑s.size + ↑d.size) : Int) ≤ 150 := by omega
    clear d150 hx150
    refine (S6.out _).mono ?_
    rintro e w5 ⟨rfl, c5⟩
    have b11 := step_b b10 c5
    have CA5 := Lib.hid (CA4.out.below c5)
    clear a0 a1 a2 a3 a4 a5 a6 c5 b10 CA4
    have a0 := CA5.out.cell 0 _ rfl
    have a1 := CA5.out.cell 1 _ rfl
    have a2 := CA5.out.cell 2 _ rfl
    have a3 := CA5.out.cell 3 _ rfl
    have a4 := CA5.out.cell 4 _ rfl
    have a5 := CA5.out.cell 5 _ rfl
    have a6 := CA5.out.cell 6 _ rfl
    go_wp2_with fail
    refine (check_is HC.out _).mono ?_
    rintro e w6 ⟨rfl, c6⟩
    have b12 := step_b b11 c6
    go_wp2
    go_ret
    exact ⟨rfl, b12⟩
  · have HE := Lib.hid (HX2.out (by omega))
    have ek : ((k : Int) == 1) = false := by rw [beq_eq_false_iff_ne]; omega
    clear HX1 HX2 e
    go_wp2_with fail
    have hs1 : ((x.size : Nat) : Int) = ↑l1 + ↑l2 + ↑l3 + ↑l4 + ↑l6 + (↑s.size + ↑d.size) := by have := HE.out; have := HT2.out; omega
    have hs2 : (↑l1 + ↑l2 + ↑l3 + ↑l4 + ↑l6 + (↑s.size + ↑d.size) : Int) ≤ 150 := by omega
    clear d150 hx150
    refine (S6.out _).mono ?_
    rintro e w5 ⟨rfl, c5⟩
    have b11 := step_b b9 c5
    have CA5 := Lib.hid (CA3.out.below c5)
    clear a0 a1 a2 a3 a4 a5 a6 c5 b9 CA3
    have a0 := CA5.out.cell 0 _ rfl
    have a1 := CA5.out.cell 1 _ rfl
    have a2 := CA5.out.cell 2 _ rfl
    have a3 := CA5.out.cell 3 _ rfl
    have a4 := CA5.out.cell 4 _ rfl
    have a5 := CA5.out.cell 5 _ rfl
    have a6 := CA5.out.cell 6 _ rfl
    go_wp2_with fail
    refine (check_is HC.out _).mono ?_
    rintro e w6 ⟨rfl, c6⟩
    have b12 := step_b b11 c6
    go_wp2
    go_ret
    exact ⟨rfl, b12⟩
set_option maxRecDepth 100000 in
set_option maxHeartbeats 4000000 in
theorem osizes_walk (o : Opn) (w : World) (hi : InO o) : Calls Try.prog 7 #[OV o] w fun e w' => e = .returned (.bool true) ∧ Below w.heap.size w w' := by
  cases hm : mayO o with
  | true =>
    obtain ⟨h1, h2, h3⟩ := mayO_parts hm
    obtain ⟨c, r, k, n, p, s, d⟩ := o
    simp only at h1 h2 h3
    obtain ⟨c', rfl⟩ : ∃ x : Nat, c = (x : Int) := ⟨c.toNat, by omega⟩
    obtain ⟨r', rfl⟩ : ∃ x : Nat, r = (x : Int) := ⟨r.toNat, by omega⟩
    obtain ⟨k', rfl⟩ : ∃ x : Nat, k = (x : Int) := ⟨k.toNat, by omega⟩
    obtain ⟨n', rfl⟩ : ∃ x : Nat, n = (x : Int) := ⟨n.toNat, by omega⟩
    obtain ⟨p', rfl⟩ : ∃ x : Nat, p = (x : Int) := ⟨p.toNat, by omega⟩
    exact osizes_yes c' r' k' n' p' s d w hm
  | false =>
    have CA0 := Lib.hid (cells_at w _ rfl (cellsO o) 25)
    have HP := Lib.hid (fun w => oput_no ⟨#[]⟩ o w hm hi.2.1 hi.1.2.2.2.1 hi.1.2.2.2.2)
    clear hm hi
    go_enter Try.func7, Try.ntmps7
    go_wp2_with fail
    refine (awake_any _).mono ?_
    rintro e w1 ⟨rfl, c1⟩
    have b1 := step_a (Below.refl _ _) c1
    have CA1 := Lib.hid (CA0.out.below c1)
    have a0 := CA1.out.cell 0 _ rfl
    have a1 := CA1.out.cell 1 _ rfl
    have a2 := CA1.out.cell 2 _ rfl
    have a3 := CA1.out.cell 3 _ rfl
    have a4 := CA1.out.cell 4 _ rfl
    have a5 := CA1.out.cell 5 _ rfl
    have a6 := CA1.out.cell 6 _ rfl
    clear CA0 c1
    go_wp2_with fail
    refine (HP.out _).mono ?_
    rintro e w2 ⟨rfl, c2⟩
    have b2 := step_b b1 c2
    go_wp2
    go_ret
    exact ⟨rfl, b2⟩
end Go.Proofs.Ytjhllkjcaodcgaa
