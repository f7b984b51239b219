/-
  The document's bytes of an operation, and Put.
-/
import Derived.Test.YtjhllkjcaodcgaaRChk
import Derived.Test.YtjhllkjcaodcgaaRTake
namespace Go.Proofs.Ytjhllkjcaodcgaa
open Go.RowKit Go.Lib
set_option maxRecDepth 100000 in
set_option maxHeartbeats 4000000 in
theorem rbytes_nat (c r k n p : Nat) (s d : ByteArray) (w : World) (hc : c < 9223372036854775808) (hr : r < 9223372036854775808) (hk : k < 9223372036854775808) (hn : n < 9223372036854775808) (hp : p < 9223372036854775808)
    (hs : s.size ≤ 1000000) (hd : d.size ≤ 1000000) :
    Calls Try.prog 29 #[OV ⟨c, r, k, n, p, s, d⟩] w fun e w' => e = .returned (.string (ofL (opB ⟨c, r, k, n, p, s, d⟩))) ∧ Below w.heap.size w w' := by
  obtain ⟨x1, hx1⟩ : ∃ x, ofL (Vlq.one c) = x := ⟨_, rfl⟩
  obtain ⟨x2, hx2⟩ : ∃ x, ofL (Vlq.one r) = x := ⟨_, rfl⟩
  obtain ⟨x3, hx3⟩ : ∃ x, ofL (Vlq.one k) = x := ⟨_, rfl⟩
  obtain ⟨x4, hx4⟩ : ∃ x, ofL (Vlq.one n) = x := ⟨_, rfl⟩
  obtain ⟨x5, hx5⟩ : ∃ x, ofL (Vlq.one p) = x := ⟨_, rfl⟩
  have s1 : x1.size ≤ 9 := by rw [← hx1]; exact Vlq.one_nine hc
  have s2 : x2.size ≤ 9 := by rw [← hx2]; exact Vlq.one_nine hr
  have s3 : x3.size ≤ 9 := by rw [← hx3]; exact Vlq.one_nine hk
  have s4 : x4.size ≤ 9 := by rw [← hx4]; exact Vlq.one_nine hn
  have s5 : x5.size ≤ 9 := by rw [← hx5]; exact Vlq.one_nine hp
  obtain ⟨y2, hy2⟩ : ∃ y, x1 ++ x2 = y := ⟨_, rfl⟩
  obtain ⟨y3, hy3⟩ : ∃ y, y2 ++ x3 = y := ⟨_, rfl⟩
  obtain ⟨y4, hy4⟩ : ∃ y, y3 ++ x4 = y := ⟨_, rfl⟩
  obtain ⟨y5, hy5⟩ : ∃ y, y4 ++ x5 = y := ⟨_, rfl⟩
  have z2 : y2.size = x1.size + x2.size := by rw [← hy2, ByteArray.size_append]
  have z3 : y3.size = y2.size + x3.size := by rw [← hy3, ByteArray.size_append]
  have z4 : y4.size = y3.size + x4.size := by rw [← hy4, ByteArray.size_append]
  have z5 : y5.size = y4.size + x5.size := by rw [← hy5, ByteArray.size_append]
  have g2 : ¬ 9223372036854775807 < x1.size + x2.size := by omega
  have g3 : ¬ 9223372036854775807 < y2.size + x3.size := by omega
  have g4 : ¬ 9223372036854775807 < y3.size + x4.size := by omega
  have g5 : ¬ 9223372036854775807 < y4.size + x5.size := by omega
  have h5 : y5.size ≤ 1000 := by omega
  have h4 : y4.size ≤ 1000 := by omega
  clear z2 z3 z4 z5 s1 s2 s3 s4 s5
  have F1 := Lib.hid (show k = 1 → y5 ++ ofL (Vlq.one s.size) ++ s = ofL (opB ⟨c, r, k, n, p, s, d⟩) from fun e => by
    subst e
    rw [← hy5, ← hy4, ← hy3, ← hy2, ← hx1, ← hx2, ← hx3, ← hx4, ← hx5]
    exact text_eq (by simp [opB, txt, ofL, List.append_assoc]))
  have F2 := Lib.hid (show k ≠ 1 → y4 ++ ofL (Vlq.one d.size) ++ d = ofL (opB ⟨c, r, k, n, p, s, d⟩) from fun e => by
    have e2 : ¬ (k : Int) = 1 := by omega
    rw [← hy4, ← hy3, ← hy2, ← hx1, ← hx2, ← hx3, ← hx4]
    exact text_eq (by simp [opB, txt, ofL, e2, List.append_assoc]))
  go_enter Try.func29, Try.ntmps29
  go_wp2_with fail
  have Q0 := Lib.hid (hasO_new w ⟨c, r, k, n, p, s, d⟩ 25)
  have L0 : ∀ m : Later (w.alloc (.cells #[.int .i64 c, .int .i64 r, .int .i64 k, .int .i64 n, .int .i64 p, .string s, .string d] 25)), m.w.cell? ⟨w.heap.size, 0, none⟩ = some (.int .i64 c) := fun m => (Q0.out.below m.below).1
  have L1 : ∀ m : Later (w.alloc (.cells #[.int .i64 c, .int .i64 r, .int .i64 k, .int .i64 n, .int .i64 p, .string s, .string d] 25)), m.w.cell? ⟨w.heap.size, 1, none⟩ = some (.int .i64 r) := fun m => (Q0.out.below m.below).2.1
  have L2 : ∀ m : Later (w.alloc (.cells #[.int .i64 c, .int .i64 r, .int .i64 k, .int .i64 n, .int .i64 p, .string s, .string d] 25)), m.w.cell? ⟨w.heap.size, 2, none⟩ = some (.int .i64 k) := fun m => (Q0.out.below m.below).2.2.1
  have L3 : ∀ m : Later (w.alloc (.cells #[.int .i64 c, .int .i64 r, .int .i64 k, .int .i64 n, .int .i64 p, .string s, .string d] 25)), m.w.cell? ⟨w.heap.size, 3, none⟩ = some (.int .i64 n) := fun m => (Q0.out.below m.below).2.2.2.1
  refine wp_region_r (by kernel_rfl) (by kernel_rfl) ?_
  repeat (refine wpR_pure (fun K hK => ?_); go_simp; (try go_ints); refine hK _ ?_; clear hK K)
  refine wpR_pure (fun K hK => ?_)
  go_simp
  apply Exists.intro
  refine ⟨fun m => ?_, hK _ ?_⟩
  · go_at_call 46
    exact rone_any c (by omega) _
  clear hK K
  repeat (refine wpR_pure (fun K hK => ?_); go_simp; (try go_ints); refine hK _ ?_; clear hK K)
  refine wpR_pure (fun K hK => ?_)
  go_simp
  apply Exists.intro
  refine ⟨fun m => ?_, hK _ ?_⟩
  · go_at_call 46
    exact rone_any r (by omega) _
  clear hK K
  repeat (refine wpR_pure (fun K hK => ?_); go_simp; (try go_ints); refine hK _ ?_; clear hK K)
  refine wpR_pure (fun K hK => ?_)
  go_simp
  apply Exists.intro
  refine ⟨fun m => ?_, hK _ ?_⟩
  · go_at_call 46
    exact rone_any k (by omega) _
  clear hK K
  repeat (refine wpR_pure (fun K hK => ?_); go_simp; (try go_ints); refine hK _ ?_; clear hK K)
  refine wpR_pure (fun K hK => ?_)
  go_simp
  apply Exists.intro
  refine ⟨fun m => ?_, hK _ ?_⟩
  · go_at_call 46
    exact rone_any n (by omega) _
  clear hK K
  repeat (refine wpR_pure (fun K hK => ?_); go_simp; (try go_ints); refine hK _ ?_; clear hK K)
  refine wpR_nil (fun xs m _ => ?_)
  have b1 := (below_alloc _ _).trans (m.below.mono (by simp))
  have Q1 := Lib.hid (Q0.out.below m.below)
  have lo := Q1.out.lt
  obtain ⟨k0, k1, k2, k3, k4, k5, k6⟩ := Q1.out
  generalize m.w = w1 at *
  clear L0 L1 L2 L3
  clear g2 g3 g4
  by_cases hk1 : k = 1
  · have e1 : ((k : Int) == 1) = true := by rw [beq_iff_eq]; omega
    have HF := Lib.hid (F1.out hk1)
    clear F1 F2 hk1
    have L4 : ∀ m : Later w1, m.w.cell? ⟨w.heap.size, 4, none⟩ = some (.int .i64 p) := fun m => (Q1.out.below m.below).2.2.2.2.1
    have L5 : ∀ m : Later w1, m.w.cell? ⟨w.heap.size, 5, none⟩ = some (.string s) := fun m => (Q1.out.below m.below).2.2.2.2.2.1
    go_wp2_with fail
    refine wp_region_r (by kernel_rfl) (by kernel_rfl) ?_
    repeat (refine wpR_pure (fun K hK => ?_); go_simp; (try go_ints); refine hK _ ?_; clear hK K)
    refine wpR_pure (fun K hK => ?_)
    go_simp
    apply Exists.intro
    refine ⟨fun m => ?_, hK _ ?_⟩
    · go_at_call 46
      exact rone_any p (by omega) _
    clear hK K
    repeat (refine wpR_pure (fun K hK => ?_); go_simp; (try go_ints); refine hK _ ?_; clear hK K)
    refine wpR_pure (fun K hK => ?_)
    go_simp
    apply Exists.intro
    refine ⟨fun m => ?_, hK _ ?_⟩
    · go_at_call 47
      exact rtext_any y5 s _ (by omega) hs
    clear hK K
    repeat (refine wpR_pure (fun K hK => ?_); go_simp; (try go_ints); refine hK _ ?_; clear hK K)
    refine wpR_nil (fun xs m _ => ?_)
    have b2 := step_b b1 m.below
    generalize m.w = w2 at *
    go_wp2_with fail
    go_ret
    exact ⟨by rw [HF.out]; rfl, b2⟩
  · have e1 : ((k : Int) == 1) = false := by rw [beq_eq_false_iff_ne]; omega
    have HF := Lib.hid (F2.out hk1)
    clear F1 F2 hk1
    go_wp2_with fail
    refine (rtext_any y4 d _ (by omega) hd).mono ?_
    rintro e w2 ⟨rfl, c2⟩
    have b2 := step_b b1 c2
    go_wp2_with fail
    go_ret
    exact ⟨by rw [HF.out]; rfl, b2⟩
theorem rbytes_any (o : Opn) (ho : mayO o = true) (hs : o.s.size ≤ 1000000) (hd : o.d.size ≤ 1000000) (w : World) :
    Calls Try.prog 29 #[OV o] w fun e w' => e = .returned (.string (ofL (opB o))) ∧ Below w.heap.size w w' := by
  obtain ⟨h1, h2, h3⟩ := mayO_parts ho
  obtain ⟨c, r, k, n, p, s, d⟩ := o
  simp only at h1 h2 h3 hs hd
  obtain ⟨c', rfl⟩ : ∃ x : Nat, c = (x : Int) := ⟨c.toNat, by omega⟩
  obtain ⟨r', rfl⟩ : ∃ x : Nat, r = (x : Int) := ⟨r.toNat, by omega⟩
  obtain ⟨k', rfl⟩ : ∃ x : Nat, k = (x : Int) := ⟨k.toNat, by omega⟩
  obtain ⟨n', rfl⟩ : ∃ x : Nat, n = (x : Int) := ⟨n.toNat, by omega⟩
  obtain ⟨p', rfl⟩ : ∃ x : Nat, p = (x : Int) := ⟨p.toNat, by omega⟩
  exact rbytes_nat c' r' k' n' p' s d w (by omega) (by omega) (by omega) (by omega) (by omega) hs hd
/-- An operation that may be has few bytes. -/
theorem chk_size {l : List UInt8} (h : chk l = true) : ∃ rs, runes l = some rs ∧ rs.length ≤ 20 := by
  unfold chk at h
  cases hr : runes l with
  | none => rw [hr] at h; cases h
  | some rs =>
    rw [hr] at h
    simp only [Bool.and_eq_true, decide_eq_true_eq] at h
    exact ⟨rs, rfl, h.2.2.1⟩
theorem opB_len {o : Opn} (ho : mayO o = true) (hs : o.s.size ≤ 1000000) : (opB o).length ≤ 1000054 := by
  obtain ⟨h1, h2, h3⟩ := mayO_parts ho
  have e1 := Vlq.one_nine (n := o.c.toNat) (by omega)
  have e2 := Vlq.one_nine (n := o.r.toNat) (by omega)
  have e3 := Vlq.one_nine (n := o.k.toNat) (by omega)
  have e4 := Vlq.one_nine (n := o.n.toNat) (by omega)
  have e5 := Vlq.one_nine (n := o.p.toNat) (by omega)
  have ht : (txt o).size ≤ 1000000 := by
    unfold txt
    split
    · exact hs
    · omega
  have e6 := Vlq.one_nine (n := (txt o).size) (by omega)
  have e7 : (txt o).data.toList.length = (txt o).size := by simp
  unfold opB
  simp only [List.length_append, e7]
  split
  · omega
  · simp only [List.length_nil]; omega
set_option maxHeartbeats 2000000 in
theorem rput_yes (b : ByteArray) (o : Opn) (w : World) (hb : b.size ≤ 100000000) (ho : mayO o = true) (hs : o.s.size ≤ 1000000) (hd : o.d.size ≤ 1000000) :
    Calls Try.prog 12 #[.string b, OV o] w fun e w' => e = .returned (.tuple #[.string (b ++ ofL (opB o)), .int .i64 0]) ∧ Below w.heap.size w w' := by
  have hl := opB_len ho hs
  have C1 := Lib.hid (fun w => rchk_any o w hs)
  rw [ho] at C1
  have C2 := Lib.hid (fun w => rbytes_any o ho hs hd w)
  obtain ⟨y, hy⟩ : ∃ y, ofL (opB o) = y := ⟨_, rfl⟩
  have hys : y.size ≤ 1000054 := by rw [← hy, ofL_size]; exact hl
  rw [hy] at C2 ⊢
  have hz : b.size + y.size ≤ 140737488355328 := by omega
  clear hl hy ho
  go_enter Try.func12, Try.ntmps12
  go_wp2_with fail
  refine (C1.out _).mono ?_
  rintro e w1 ⟨rfl, c1⟩
  have b1 := step_a (Below.refl _ _) c1
  have q1 := (hasO_new w o 25).below c1
  obtain ⟨k0, k1, k2, k3, k4, k5, k6⟩ := q1
  go_wp2_with fail
  refine (C2.out _).mono ?_
  rintro e w2 ⟨rfl, c2⟩
  have b2 := step_b b1 c2
  go_wp2
  go_ret2
  exact ⟨rfl, b2⟩
set_option maxHeartbeats 2000000 in
theorem rput_no (b : ByteArray) (o : Opn) (w : World) (ho : mayO o = false) (hs : o.s.size ≤ 1000000) :
    Calls Try.prog 12 #[.string b, OV o] w fun e w' => e = .returned (.tuple #[.string ⟨#[]⟩, .int .i64 50]) ∧ Below w.heap.size w w' := by
  have C1 := Lib.hid (fun w => rchk_any o w hs)
  rw [ho] at C1
  clear ho
  go_enter Try.func12, Try.ntmps12
  go_wp2_with fail
  refine (C1.out _).mono ?_
  rintro e w1 ⟨rfl, c1⟩
  have b1 := step_a (Below.refl _ _) c1
  go_wp2
  go_ret2
  exact ⟨rfl, b1⟩
end Go.Proofs.Ytjhllkjcaodcgaa
