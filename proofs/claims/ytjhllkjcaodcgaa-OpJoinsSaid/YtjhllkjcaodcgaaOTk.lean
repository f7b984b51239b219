/-
  The landed package op: Take.
-/
import Derived.Test.YtjhllkjcaodcgaaOLead
import Derived.Test.YtjhllkjcaodcgaaLin
namespace Go.Proofs.Ytjhllkjcaodcgaa
open Go.RowKit Go.Lib
theorem olead_yes (b : ByteArray) (hb : b.size ≤ 1000000) (q : Opn) (r : List UInt8) (h : TakesO b.data.toList q r) (w : World) :
    Calls Try.prog 30 #[.string b] w fun e w' => e = .returned (.tuple #[OV q, .int .i64 ((opB q).length : Nat), .int .i64 0]) ∧ Below w.heap.size w w' := by
  refine (olead_any b hb w).mono ?_
  rintro e w' ⟨h2, hb⟩
  refine ⟨?_, hb⟩
  rcases h2 with ⟨q2, r2, h2, rfl⟩ | ⟨h2, _⟩
  · obtain ⟨rfl, _⟩ := opB_inj h.1 h2.1 (h.2.symm.trans h2.2)
    rfl
  · exact absurd h (h2 q r)
theorem olead_no (b : ByteArray) (hb : b.size ≤ 1000000) (h : NoTakeO b.data.toList) (w : World) :
    Calls Try.prog 30 #[.string b] w fun e w' => e = .returned (.tuple #[OV zeroO, .int .i64 0, .int .i64 50]) ∧ Below w.heap.size w w' := by
  refine (olead_any b hb w).mono ?_
  rintro e w' ⟨h2, hb⟩
  refine ⟨?_, hb⟩
  rcases h2 with ⟨q2, r2, h2, _⟩ | ⟨_, rfl⟩
  · exact absurd h2 (h q2 r2)
  · rfl
set_option maxRecDepth 100000 in
set_option maxHeartbeats 2000000 in
theorem otk_yes (b : ByteArray) (hb : b.size ≤ 1000000) (q : Opn) (r : List UInt8) (h : TakesO b.data.toList q r) (w : World) :
    Calls Try.prog 13 #[.string b] w fun e w' => e = .returned (.tuple #[OV q, .string (ofL r), .int .i64 0]) ∧ Below w.heap.size w w' := by
  have HL := Lib.hid (fun w => olead_yes b hb q r h w)
  have hle : (opB q).length ≤ b.size := by
    have h1 := congrArg List.length h.2
    rw [List.length_append] at h1
    have h2 : b.data.toList.length = b.size := by simp
    omega
  have he : b.extract (opB q).length b.size = ofL r := text_eq (by
    rw [extract_data, data_ofL, h.2, List.take_of_length_le (by rw [← h.2]; simp), List.drop_append_of_le_length (Nat.le_refl _), List.drop_length, List.nil_append])
  obtain ⟨L, hL⟩ : ∃ L, (opB q).length = L := ⟨_, rfl⟩
  rw [hL] at HL hle he
  have HE := Lib.hid he
  have hrs : (ofL r).size ≤ 1000000 := by
    rw [← he]
    simp; omega
  have HC := Lib.hid (fun w => clone_any (ofL r) w hrs)
  have l1 : (L : Int) ≤ (b.size : Int) := by omega
  have l2 : (0 : Int) ≤ (L : Int) := by omega
  have R0 := Lib.hid (cells_new w [.int .i64 0, .int .i64 0, .int .i64 0, .int .i64 0, .int .i64 0, .string ⟨#[]⟩, .string ⟨#[]⟩] 25)
  clear h he hrs hL hle
  go_enter Try.func13, Try.ntmps13
  go_wp2_with fail
  refine (HL.out _).mono ?_
  rintro e w1 ⟨rfl, c1⟩
  have b1 := step_a (Below.refl _ _) c1
  have R1 := Lib.hid ((R0.out.below c1).below (below_alloc w1 (.cells #[.int .i64 q.c, .int .i64 q.r, .int .i64 q.k, .int .i64 q.n, .int .i64 q.p, .string q.s, .string q.d] 25)))
  have O1 := Lib.hid (cells_new w1 (cellsO q) 25)
  have b2 := b1.alloc b1.size (.cells #[.int .i64 q.c, .int .i64 q.r, .int .i64 q.k, .int .i64 q.n, .int .i64 q.p, .string q.s, .string q.d] 25)
  clear R0 c1
  go_wp2_with fail
  refine wp_region_t 5 (by kernel_rfl) (by kernel_rfl) ?_
  simp only [List.take_succ_cons, List.take_zero, List.drop_succ_cons, List.drop_zero]
  refine wpL_use (OV q) (fun xs n _ => ?_) (fun K hK => ?_)
  · have O2 := Lib.hid (O1.out.below n.below)
    have k0 := O2.out.cell 0 _ rfl
    have k1 := O2.out.cell 1 _ rfl
    have k2 := O2.out.cell 2 _ rfl
    have k3 := O2.out.cell 3 _ rfl
    have k4 := O2.out.cell 4 _ rfl
    have k5 := O2.out.cell 5 _ rfl
    have k6 := O2.out.cell 6 _ rfl
    go_simp
  go_simp; (try go_ints); refine hK _ ?_; clear hK K
  refine wpL_pure (fun K hK => ?_); go_simp; (try go_ints); refine hK _ ?_; clear hK K
  refine wpL_pure (fun K hK => ?_); go_simp; (try go_ints); refine hK _ ?_; clear hK K
  refine wpL_pure (fun K hK => ?_); go_simp; (try go_ints); refine hK _ ?_; clear hK K
  refine wpL_pure (fun K hK => ?_)
  go_simp
  apply Exists.intro
  refine ⟨fun m => ?_, hK _ ?_⟩
  · go_at_call 31
    rw [HE.out]
    exact HC.out _
  clear hK K
  refine wpL_nil (fun xs n _ => ?_)
  have b3 := b2.trans (n.below.mono b2.size)
  have R3 := Lib.hid (R1.out.below n.below)
  generalize n.w = w3 at b3 R3 ⊢
  clear R1 O1 b1 b2
  have r0 := R3.out.cell 0 _ rfl
  have r1 := R3.out.cell 1 _ rfl
  have r2 := R3.out.cell 2 _ rfl
  have r3 := R3.out.cell 3 _ rfl
  have r4 := R3.out.cell 4 _ rfl
  have r5 := R3.out.cell 5 _ rfl
  have r6 := R3.out.cell 6 _ rfl
  have g0 := R3.out.free 0 (by simp)
  have g1 := R3.out.free 1 (by simp)
  have g2 := R3.out.free 2 (by simp)
  have g3 := R3.out.free 3 (by simp)
  have g4 := R3.out.free 4 (by simp)
  have g5 := R3.out.free 5 (by simp)
  have g6 := R3.out.free 6 (by simp)
  go_wp2_with fail
  have RF := Lib.hid (Cells.fill (p := zeroO) R3.out q)
  have bF := filled b3 (Nat.le_refl _) q
  have z0 := RF.out.cell 0 _ rfl
  have z1 := RF.out.cell 1 _ rfl
  have z2 := RF.out.cell 2 _ rfl
  have z3 := RF.out.cell 3 _ rfl
  have z4 := RF.out.cell 4 _ rfl
  have z5 := RF.out.cell 5 _ rfl
  have z6 := RF.out.cell 6 _ rfl
  simp only [setO] at z0 z1 z2 z3 z4 z5 z6
  refine bodyPost_ret (v := .tuple #[OV q, .string (ofL r), .int .i64 0]) (by simp [results, Try.results13, go_sem, z0, z1, z2, z3, z4, z5, z6]) rfl ⟨rfl, bF⟩
theorem otk_no (b : ByteArray) (hb : b.size ≤ 1000000) (h : NoTakeO b.data.toList) (w : World) :
    Calls Try.prog 13 #[.string b] w fun e w' => e = .returned (.tuple #[OV ⟨0, 0, 0, 0, 0, ⟨#[]⟩, ⟨#[]⟩⟩, .string ⟨#[]⟩, .int .i64 50]) ∧ Below w.heap.size w w' := by
  have HL := Lib.hid (fun w => olead_no b hb h w)
  have R0 := Lib.hid (cells_new w [.int .i64 0, .int .i64 0, .int .i64 0, .int .i64 0, .int .i64 0, .string ⟨#[]⟩, .string ⟨#[]⟩] 25)
  clear h
  go_enter Try.func13, Try.ntmps13
  go_wp2_with fail
  refine (HL.out _).mono ?_
  rintro e w1 ⟨rfl, c1⟩
  have b1 := step_a (Below.refl _ _) c1
  have R1 := Lib.hid ((R0.out.below c1).below (below_alloc w1 (.cells #[.int .i64 zeroO.c, .int .i64 zeroO.r, .int .i64 zeroO.k, .int .i64 zeroO.n, .int .i64 zeroO.p, .string zeroO.s, .string zeroO.d] 25)))
  have b2 := b1.alloc b1.size (.cells #[.int .i64 zeroO.c, .int .i64 zeroO.r, .int .i64 zeroO.k, .int .i64 zeroO.n, .int .i64 zeroO.p, .string zeroO.s, .string zeroO.d] 25)
  clear R0 c1
  have r0 := R1.out.cell 0 _ rfl
  have r1 := R1.out.cell 1 _ rfl
  have r2 := R1.out.cell 2 _ rfl
  have r3 := R1.out.cell 3 _ rfl
  have r4 := R1.out.cell 4 _ rfl
  have r5 := R1.out.cell 5 _ rfl
  have r6 := R1.out.cell 6 _ rfl
  have g0 := R1.out.free 0 (by simp)
  have g1 := R1.out.free 1 (by simp)
  have g2 := R1.out.free 2 (by simp)
  have g3 := R1.out.free 3 (by simp)
  have g4 := R1.out.free 4 (by simp)
  have g5 := R1.out.free 5 (by simp)
  have g6 := R1.out.free 6 (by simp)
  go_wp2_with fail
  have RF := Lib.hid (Cells.fill (p := zeroO) R1.out zeroO)
  have bF := filled b2 (Nat.le_refl _) zeroO
  have z0 := RF.out.cell 0 _ rfl
  have z1 := RF.out.cell 1 _ rfl
  have z2 := RF.out.cell 2 _ rfl
  have z3 := RF.out.cell 3 _ rfl
  have z4 := RF.out.cell 4 _ rfl
  have z5 := RF.out.cell 5 _ rfl
  have z6 := RF.out.cell 6 _ rfl
  simp only [setO, zeroO] at z0 z1 z2 z3 z4 z5 z6
  refine bodyPost_ret (v := .tuple #[OV zeroO, .string ⟨#[]⟩, .int .i64 50]) (by simp [results, Try.results13, go_sem, zeroO, z0, z1, z2, z3, z4, z5, z6]) rfl ⟨rfl, bF⟩
end Go.Proofs.Ytjhllkjcaodcgaa
