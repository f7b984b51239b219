/-
  The landed package op: the bytes of one operation, Put.
-/
import Derived.Test.YtjhllkjcaodcgaaOChk
import Derived.Test.YtjhllkjcaodcgaaOSize
import Derived.Test.YtjhllkjcaodcgaaCode
namespace Go.Proofs.Ytjhllkjcaodcgaa
open Go.RowKit Go.Lib
theorem ints_new (w : World) (l : List Int) (t : TypeId) : IsI (w.alloc (.cells (l.map (Value.int .i64)).toArray t)) (some ⟨w.heap.size, 0, none⟩) l.length l :=
  ⟨Nat.le_refl _, fun _ => ⟨w.heap.size, 0, rfl, by simp, fun j x hj => by
    rw [World.cell?_alloc_at _ _ _ _ rfl, Nat.zero_add, List.getElem?_toArray, List.getElem?_map, hj]; rfl⟩⟩
theorem ints_new2 (w : World) (o : Obj) (l : List Int) (t : TypeId) : IsI ((w.alloc o).alloc (.cells (l.map (Value.int .i64)).toArray t)) (some ⟨w.heap.size + 1, 0, none⟩) l.length l := by
  have h := ints_new (w.alloc o) l t
  rwa [show (w.alloc o).heap.size = w.heap.size + 1 by simp] at h
theorem neg_no {l : List Int} (h : ∀ x ∈ l, 0 ≤ x) : negB l = false := by
  unfold negB
  rw [List.any_eq_false]
  intro x hx
  have := h x hx
  simp; omega
theorem puts_any (b : ByteArray) (l : List Int) (y : ByteArray) (hb : b.size ≤ 1000000) (hl : l.length ≤ 1000000) (hi : ∀ x ∈ l, 0 ≤ x ∧ x ≤ 9223372036854775807) (hy : b ++ ofL (Vlq.ones l) = y) (w : World) (a : Option Addr) (c : Nat) (h : IsI w a c l) :
    Calls Try.prog 45 #[.string b, .slice a l.length c] w fun e w' => e = .returned (.tuple #[.string y, .int .i64 0]) ∧ Below w.heap.size w w' := by
  have := put_any b a c l w hb h hl (fun x hx => ⟨by have := (hi x hx).1; omega, (hi x hx).2⟩)
  unfold putS putE at this
  rw [neg_no (fun x hx => (hi x hx).1)] at this
  simp only [Bool.false_eq_true, if_false] at this
  rwa [hy] at this
set_option maxHeartbeats 1000000 in
theorem mput_any (o : Opn) (b y z : ByteArray) (hp : 0 ≤ o.p ∧ o.p ≤ 9223372036854775807) (hb : b.size ≤ 1000) (hs : o.s.size ≤ 1000) (hy : b ++ ofL (Vlq.ones [o.p]) = y) (hz : y ++ ofL (Vlq.one o.s.size) ++ o.s = z) (w : World) :
    Calls Try.prog 79 #[OV o, .string b] w fun e w' => e = .returned (.string z) ∧ Below w.heap.size w w' := by
  have hys : y.size ≤ 1009 := by
    have : (Vlq.ones [o.p]).length ≤ 9 := by
      have := Vlq.one_nine (n := o.p.toNat) (by omega)
      simpa [Vlq.ones] using this
    rw [← hy, ByteArray.size_append, ofL_size]; omega
  have HP := Lib.hid (show ∀ (w : World) (a : Option Addr) (c : Nat), IsI w a c [o.p] → Calls Try.prog 45 #[.string b, .slice a 1 c] w fun e w' => e = .returned (.tuple #[.string y, .int .i64 0]) ∧ Below w.heap.size w w' from fun w a c h =>
    puts_any b [o.p] y (by omega) (by simp) (fun x hx => by
      rw [List.mem_singleton] at hx; subst hx; exact hp) hy w a c h)
  have HT := Lib.hid (show ∀ w, Calls Try.prog 83 #[.string y, .string o.s] w fun e w' => e = .returned (.string z) ∧ Below w.heap.size w w' from fun w => by
    have := text_any y o.s w (by omega) (by omega)
    rwa [hz] at this)
  clear hp hb hs hy hz hys
  go_enter Try.func79, Try.ntmps79
  go_wp2_with fail
  refine (HP.out _ _ _ (ints_new2 _ _ [o.p] 3)).mono ?_
  rintro e w1 ⟨rfl, c1⟩
  have b1 := step_a (below_alloc _ _) c1
  have Q1 := Lib.hid (((hasO_new w o 75).below (below_alloc _ _)).below c1)
  obtain ⟨k0, k1, k2, k3, k4, k5, k6⟩ := Q1.out
  clear c1
  go_wp2_with fail
  refine (HT.out _).mono ?_
  rintro e w2 ⟨rfl, c2⟩
  have b2 := step_b b1 c2
  go_wp2_with fail
  go_ret
  exact ⟨rfl, b2⟩
theorem wput_any (o : Opn) (b z : ByteArray) (hb : b.size ≤ 1000) (hs : o.d.size ≤ 1000) (hz : b ++ ofL (Vlq.one o.d.size) ++ o.d = z) (w : World) :
    Calls Try.prog 89 #[OV o, .string b] w fun e w' => e = .returned (.string z) ∧ Below w.heap.size w w' := by
  have HT := Lib.hid (show ∀ w, Calls Try.prog 83 #[.string b, .string o.d] w fun e w' => e = .returned (.string z) ∧ Below w.heap.size w w' from fun w => by
    have := text_any b o.d w (by omega) (by omega)
    rwa [hz] at this)
  clear hb hs hz
  go_enter Try.func89, Try.ntmps89
  go_wp2_with fail
  refine (HT.out _).mono ?_
  rintro e w2 ⟨rfl, c2⟩
  have b2 := step_a (Below.refl _ _) c2
  go_wp2_with fail
  go_ret
  exact ⟨rfl, b2⟩
theorem bytes_move (o : Opn) (hk : o.k = 1) : (⟨#[]⟩ : ByteArray) ++ ofL (Vlq.ones [o.c, o.r, o.k, o.n]) ++ ofL (Vlq.ones [o.p]) ++ ofL (Vlq.one o.s.size) ++ o.s = ofL (opB o) := by
  have e : (⟨#[]⟩ : ByteArray) = ofL [] := rfl
  have e2 : o.s = ofL o.s.data.toList := (ofL_data o.s).symm
  rw [e]
  refine text_eq ?_
  simp [opB, txt, hk, ofL, Vlq.ones, List.append_assoc]
theorem bytes_write (o : Opn) (hk : o.k = 2) : (⟨#[]⟩ : ByteArray) ++ ofL (Vlq.ones [o.c, o.r, o.k, o.n]) ++ ofL (Vlq.one o.d.size) ++ o.d = ofL (opB o) := by
  have e : (⟨#[]⟩ : ByteArray) = ofL [] := rfl
  have h1 : ¬ (o.k = 1) := by omega
  rw [e]
  refine text_eq ?_
  simp [opB, txt, hk, ofL, Vlq.ones, List.append_assoc]
theorem head_size (o : Opn) (ho : mayO o = true) : ((⟨#[]⟩ : ByteArray) ++ ofL (Vlq.ones [o.c, o.r, o.k, o.n])).size ≤ 36 := by
  obtain ⟨h1, h2, h3⟩ := mayO_parts ho
  have e1 := Vlq.one_nine (n := o.c.toNat) (by omega)
  have e2 := Vlq.one_nine (n := o.r.toNat) (by omega)
  have e3 := Vlq.one_nine (n := o.k.toNat) (by omega)
  have e4 := Vlq.one_nine (n := o.n.toNat) (by omega)
  have hz : (⟨#[]⟩ : ByteArray).size = 0 := rfl
  rw [ByteArray.size_append, ofL_size, hz]
  simp only [Vlq.ones, List.flatMap_cons, List.flatMap_nil, List.length_append, List.length_nil]
  omega
theorem may_range {o : Opn} (ho : mayO o = true) : (-9223372036854775808 ≤ o.n ∧ o.n ≤ 9223372036854775807) ∧ (-9223372036854775808 ≤ o.p ∧ o.p ≤ 9223372036854775807) := by
  obtain ⟨h1, h2, h3⟩ := mayO_parts ho
  omega
set_option maxHeartbeats 2000000 in
theorem whole_yes (o : Opn) (ho : mayO o = true) (w : World) :
    Calls Try.prog 28 #[OV o] w fun e w' => e = .returned (.tuple #[.string (ofL (opB o)), .int .i64 0]) ∧ Below w.heap.size w w' := by
  have hz := may_size ho
  have hr := may_range ho
  have hp := mayO_parts ho
  have hh := head_size o ho
  obtain ⟨z, hzz⟩ : ∃ z, ofL (opB o) = z := ⟨_, rfl⟩
  obtain ⟨y, hy⟩ : ∃ y, (⟨#[]⟩ : ByteArray) ++ ofL (Vlq.ones [o.c, o.r, o.k, o.n]) = y := ⟨_, rfl⟩
  have HC := Lib.hid (show ∀ w, Calls Try.prog 19 #[OV o] w fun e w' => e = .returned (.bool true) ∧ Below w.heap.size w w' from fun w => by
    have := ochk_any o w (by unfold maxLen; omega) hr.1 hr.2
    rwa [ho] at this)
  have HP := Lib.hid (show ∀ (w : World) (a : Option Addr) (c : Nat), IsI w a c [o.c, o.r, o.k, o.n] → Calls Try.prog 45 #[.string ⟨#[]⟩, .slice a 4 c] w fun e w' => e = .returned (.tuple #[.string y, .int .i64 0]) ∧ Below w.heap.size w w' from fun w a c h =>
    puts_any ⟨#[]⟩ [o.c, o.r, o.k, o.n] y (by decide) (by simp) (fun x hx => by
      simp only [List.mem_cons, List.not_mem_nil, or_false] at hx
      rcases hx with rfl | rfl | rfl | rfl <;> omega) hy w a c h)
  have HK := Lib.hid (fun w => kind_any o w)
  have HA := Lib.hid (show ∃ t f, kindV o = .iface t (OV o) ∧ ((t = 75 ∧ f = 79) ∨ (t = 86 ∧ f = 89)) ∧
      ∀ w, Calls Try.prog f #[OV o, .string y] w fun e w' => e = .returned (.string z) ∧ Below w.heap.size w w' by
    rcases hp.2.2 with ⟨hk, hpp, _, _⟩ | ⟨hk, _⟩
    · refine ⟨75, 79, by unfold kindV; rw [if_pos hk], .inl ⟨rfl, rfl⟩, fun w => ?_⟩
      refine mput_any o y _ z (by omega) (by rw [← hy]; omega) (by omega) rfl ?_ w
      rw [← hy, ← hzz]
      exact bytes_move o hk
    · refine ⟨86, 89, by unfold kindV; rw [if_neg (by omega), if_pos hk], .inr ⟨rfl, rfl⟩, fun w => ?_⟩
      refine wput_any o y z (by rw [← hy]; omega) (by omega) ?_ w
      rw [← hy, ← hzz]
      exact bytes_write o hk)
  rw [hzz]
  clear hz hr hp hh hzz hy ho
  go_enter Try.func28, Try.ntmps28
  go_wp2_with fail
  refine (HC.out _).mono ?_
  rintro e w1 ⟨rfl, c1⟩
  have b1 := step_a (Below.refl _ _) c1
  have Q1 := Lib.hid ((hasO_new w o 25).below c1)
  obtain ⟨k0, k1, k2, k3, k4, k5, k6⟩ := Q1.out
  have lo := Q1.out.lt
  clear c1
  go_wp2_with fail
  refine (HP.out _ _ _ (ints_new _ [o.c, o.r, o.k, o.n] 3)).mono ?_
  rintro e w2 ⟨rfl, c2⟩
  have b2 := step_a b1 c2
  have Q2 := Lib.hid ((Q1.out.below (below_alloc _ _)).below c2)
  obtain ⟨k0, k1, k2, k3, k4, k5, k6⟩ := Q2.out
  have lo := Q2.out.lt
  clear c2 b1 Q1
  go_wp2_with fail
  refine (HK.out _).mono ?_
  rintro e w3 ⟨rfl, c3⟩
  have b3 := step_b b2 c3
  obtain ⟨t, f, hv, hc, HF⟩ := HA.out
  rw [hv]
  have HF := Lib.hid HF
  clear HA hv
  rcases hc with ⟨rfl, rfl⟩ | ⟨rfl, rfl⟩
  · go_wp2_with fail
    refine (HF.out _).mono ?_
    rintro e w4 ⟨rfl, c4⟩
    have b4 := step_b b3 c4
    go_wp2_with fail
    go_ret2
    exact ⟨rfl, b4⟩
  · go_wp2_with fail
    refine (HF.out _).mono ?_
    rintro e w4 ⟨rfl, c4⟩
    have b4 := step_b b3 c4
    go_wp2_with fail
    go_ret2
    exact ⟨rfl, b4⟩
theorem whole_no (o : Opn) (w : World) (ho : mayO o = false) (hs : o.s.size ≤ maxLen) (hn : -9223372036854775808 ≤ o.n ∧ o.n ≤ 9223372036854775807) (hp : -9223372036854775808 ≤ o.p ∧ o.p ≤ 9223372036854775807) :
    Calls Try.prog 28 #[OV o] w fun e w' => e = .returned (.tuple #[.string ⟨#[]⟩, .int .i64 50]) ∧ Below w.heap.size w w' := by
  have HC := Lib.hid (show ∀ w, Calls Try.prog 19 #[OV o] w fun e w' => e = .returned (.bool false) ∧ Below w.heap.size w w' from fun w => by
    have := ochk_any o w hs hn hp
    rwa [ho] at this)
  clear ho hs hn hp
  go_enter Try.func28, Try.ntmps28
  go_wp2_with fail
  refine (HC.out _).mono ?_
  rintro e w1 ⟨rfl, c1⟩
  have b1 := step_a (Below.refl _ _) c1
  go_wp2_with fail
  go_ret2
  exact ⟨rfl, b1⟩
theorem oput_yes (b : ByteArray) (o : Opn) (w : World) (hb : b.size ≤ 1000000) (ho : mayO o = true) :
    Calls Try.prog 11 #[.string b, OV o] w fun e w' => e = .returned (.tuple #[.string (b ++ ofL (opB o)), .int .i64 0]) ∧ Below w.heap.size w w' := by
  have hl := txt_size ho
  have C2 := Lib.hid (fun w => whole_yes o ho w)
  obtain ⟨y, hy⟩ : ∃ y, ofL (opB o) = y := ⟨_, rfl⟩
  have hys : y.size ≤ 150 := by rw [← hy, ofL_size]; exact hl
  rw [hy] at C2 ⊢
  have hz : b.size + y.size ≤ 140737488355328 := by omega
  clear hl hy ho
  go_enter Try.func11, Try.ntmps11
  go_wp2_with fail
  refine (C2.out _).mono ?_
  rintro e w1 ⟨rfl, c1⟩
  have b1 := step_a (Below.refl _ _) c1
  go_wp2_with fail
  go_ret2
  exact ⟨rfl, b1⟩
theorem oput_no (b : ByteArray) (o : Opn) (w : World) (ho : mayO o = false) (hs : o.s.size ≤ maxLen) (hn : -9223372036854775808 ≤ o.n ∧ o.n ≤ 9223372036854775807) (hp : -9223372036854775808 ≤ o.p ∧ o.p ≤ 9223372036854775807) :
    Calls Try.prog 11 #[.string b, OV o] w fun e w' => e = .returned (.tuple #[.string ⟨#[]⟩, .int .i64 50]) ∧ Below w.heap.size w w' := by
  have C2 := Lib.hid (fun w => whole_no o w ho hs hn hp)
  clear ho hs hn hp
  go_enter Try.func11, Try.ntmps11
  go_wp2_with fail
  refine (C2.out _).mono ?_
  rintro e w1 ⟨rfl, c1⟩
  have b1 := step_a (Below.refl _ _) c1
  go_wp2_with fail
  go_ret2
  exact ⟨rfl, b1⟩
end Go.Proofs.Ytjhllkjcaodcgaa
