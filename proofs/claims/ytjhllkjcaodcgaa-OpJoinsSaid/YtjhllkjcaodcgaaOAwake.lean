/-
  awake() answers true.
-/
import Derived.Test.YtjhllkjcaodcgaaOCode
import Derived.KernelRfl
namespace Go.Proofs.Ytjhllkjcaodcgaa
open Go.RowKit Go.Lib
theorem one_two {n a b : Nat} (hn : n / 128 = a) (ha : a ≠ 0) (ha2 : a < 128) (hb : n % 128 = b) : Vlq.one n = [UInt8.ofNat (a + 128), UInt8.ofNat b] := by
  have e1 : a / 128 = 0 := by omega
  have e2 : a % 128 = a := by omega
  unfold Vlq.one
  rw [hn, hb, Vlq.high_pos ha, e1, e2, Vlq.high_zero]; rfl
theorem one_129 : Vlq.one 129 = [129, 1] := one_two (a := 1) (b := 1) (by decide) (by decide) (by decide) (by decide)
theorem one_0 : Vlq.one 0 = [0] := Vlq.one_small (by decide)
theorem one_1 : Vlq.one 1 = [1] := Vlq.one_small (by decide)
theorem one_2 : Vlq.one 2 = [2] := Vlq.one_small (by decide)
def awW : Opn := ⟨2, 1, 2, 129, 0, ⟨#[]⟩, ⟨#[97, 98]⟩⟩
def awM : Opn := ⟨1, 0, 1, 129, 0, ⟨#[120]⟩, ⟨#[]⟩⟩
def awBad : Opn := ⟨2, 1, 2, 128, 0, ⟨#[]⟩, ⟨#[97, 98]⟩⟩
def aw0 : Opn := ⟨0, 0, 0, 0, 0, ⟨#[]⟩, ⟨#[]⟩⟩
def awB : ByteArray := ⟨#[2, 1, 2, 129, 1, 2, 97, 98, 1, 0, 1, 129, 1, 0, 1, 120]⟩
theorem may_w : mayO awW = true := by kernel_rfl
theorem may_m : mayO awM = true := by kernel_rfl
theorem may_bad : mayO awBad = false := by kernel_rfl
theorem may_0 : mayO aw0 = false := by kernel_rfl
theorem all_aw : allO [awW, awM] = true := by unfold allO; rw [List.all_cons, List.all_cons, may_w, may_m]; rfl
theorem opB_w : opB awW = [2, 1, 2, 129, 1, 2, 97, 98] := by
  show Vlq.one 2 ++ (Vlq.one 1 ++ (Vlq.one 2 ++ (Vlq.one 129 ++ ([] ++ (Vlq.one 2 ++ [97, 98]))))) = _
  rw [one_2, one_1, one_129]; rfl
theorem opB_m : opB awM = [1, 0, 1, 129, 1, 0, 1, 120] := by
  show Vlq.one 1 ++ (Vlq.one 0 ++ (Vlq.one 1 ++ (Vlq.one 129 ++ (Vlq.one 0 ++ (Vlq.one 1 ++ [120]))))) = _
  rw [one_1, one_0, one_129]; rfl
theorem opsB_aw : opsB [awW, awM] = awB.data.toList := by
  rw [opsB_cons, opsB_cons, opB_w, opB_m]; rfl
theorem small_aw : Small [awW, awM] := by
  intro o ho
  simp only [List.mem_cons, List.not_mem_nil, or_false] at ho
  rcases ho with rfl | rfl <;> exact ⟨by decide, by decide⟩
theorem isO_new (w : World) (l : List Opn) (t : TypeId) : IsO (w.alloc (.cells (opCells l).toArray t)) (some ⟨w.heap.size, 0, none⟩) l.length l :=
  ⟨Nat.le_refl _, fun _ => ⟨w.heap.size, 0, rfl, by simp, fun j x hj => by
    have at_ : ∀ i u, i < 7 → (cellsO x)[i]? = some u → (w.alloc (.cells (opCells l).toArray t)).cell? ⟨w.heap.size, 0 + j * 7 + i, none⟩ = some u := fun i u hi hu => by
      rw [World.cell?_alloc_at _ _ _ _ rfl, Nat.zero_add, List.getElem?_toArray]
      exact (flat_get cellsO 7 (fun _ => rfl) l j x hj i hi).trans hu
    exact ⟨at_ 0 _ (by omega) rfl, at_ 1 _ (by omega) rfl, at_ 2 _ (by omega) rfl, at_ 3 _ (by omega) rfl, at_ 4 _ (by omega) rfl, at_ 5 _ (by omega) rfl, at_ 6 _ (by omega) rfl⟩⟩⟩
theorem isO_aw (W : World) (n : Nat) (hn : W.heap.size = n) : IsO (W.alloc (.cells #[.int .i64 2, .int .i64 1, .int .i64 2, .int .i64 129, .int .i64 0, .string ⟨#[]⟩, .string ⟨#[97, 98]⟩, .int .i64 1, .int .i64 0, .int .i64 1, .int .i64 129, .int .i64 0, .string ⟨#[120]⟩, .string ⟨#[]⟩] 25)) (some ⟨n, 0, none⟩) 2 [awW, awM] := by
  subst hn
  exact isO_new W [awW, awM] 25
theorem aw_write (w : World) {a : Option Addr} {c : Nat} (h : IsO w a c [awW, awM]) :
    Calls Try.prog 15 #[.slice a 2 c] w fun e w' => e = .returned (.tuple #[.string awB, .int .i64 0]) ∧ Below w.heap.size w w' := by
  have := owrite_any a c [awW, awM] w h (by decide) small_aw (by decide)
  have e1 : wrS [awW, awM] = awB := by unfold wrS; rw [all_aw, if_pos rfl, opsB_aw, ofL_data]
  have e2 : wrE [awW, awM] = 0 := by unfold wrE; rw [all_aw]; rfl
  rw [e1, e2] at this
  exact this
theorem aw_read (w : World) : Calls Try.prog 17 #[.string awB] w fun e w' => (∃ a c, e = .returned (.tuple #[.slice a 2 c, .int .i64 0]) ∧ IsO w' a c [awW, awM]) ∧ Below w.heap.size w w' := by
  refine (oread_any awB w (by decide)).mono ?_
  rintro e w' ⟨h, hb⟩
  refine ⟨?_, hb⟩
  rcases h with ⟨l, hl, a, c, rfl, hi⟩ | ⟨hn, _⟩
  · have := opsB_inj all_aw hl.1 (opsB_aw.trans hl.2)
    subst this
    exact ⟨a, c, rfl, hi⟩
  · exact absurd ⟨all_aw, opsB_aw.symm⟩ (hn _)
theorem aw_put (w : World) : Calls Try.prog 11 #[.string ⟨#[]⟩, OV aw0] w fun e w' => e = .returned (.tuple #[.string ⟨#[]⟩, .int .i64 50]) ∧ Below w.heap.size w w' :=
  oput_no _ _ w may_0 (by decide) (by decide) (by decide)
theorem aw_take (w : World) : Calls Try.prog 13 #[.string ⟨#[]⟩] w fun e w' => e = .returned (.tuple #[OV aw0, .string ⟨#[]⟩, .int .i64 50]) ∧ Below w.heap.size w w' :=
  otk_no _ (by decide) (fun o r h => by
    have h1 := congrArg List.length h.2
    have h2 := List.length_pos_iff.2 (opB_pos o)
    simp only [List.length_append, List.length_nil] at h1
    omega) w
theorem aw_same (w : World) {a b : Option Addr} {c d : Nat} (ha : IsO w a c [awW, awM]) (hb : IsO w b d [awW, awM]) :
    Calls Try.prog 23 #[.slice a 2 c, .slice b 2 d] w fun e w' => e = .returned (.bool true) ∧ Below w.heap.size w w' := by
  have := rsame_any a b c d [awW, awM] [awW, awM] w ha hb (by decide)
  have e : sameO [awW, awM] [awW, awM] = true := decide_eq_true rfl
  rw [e] at this
  exact this
theorem aw_chk (w : World) : Calls Try.prog 19 #[OV awW] w fun e w' => e = .returned (.bool true) ∧ Below w.heap.size w w' := by
  have := ochk_any awW w (by decide) (by decide) (by decide)
  rw [may_w] at this
  exact this
theorem aw_chk2 (w : World) : Calls Try.prog 19 #[OV awBad] w fun e w' => e = .returned (.bool false) ∧ Below w.heap.size w w' := by
  have := ochk_any awBad w (by decide) (by decide) (by decide)
  rw [may_bad] at this
  exact this
theorem aw_less (w : World) : Calls Try.prog 21 #[OV awM, OV awW] w fun e w' => e = .returned (.bool true) ∧ Below w.heap.size w w' := by
  have := oless_any awM awW w
  have e : lessS awM.c awM.r awW.c awW.r = true := by kernel_rfl
  rw [e] at this
  exact this
theorem aw_less2 (w : World) : Calls Try.prog 21 #[OV awW, OV awW] w fun e w' => e = .returned (.bool false) ∧ Below w.heap.size w w' := by
  have := oless_any awW awW w
  have e : lessS awW.c awW.r awW.c awW.r = false := by kernel_rfl
  rw [e] at this
  exact this
theorem cells_at (W : World) (n : Nat) (hn : W.heap.size = n) (vs : List Value) (t : TypeId) : Cells (W.alloc (.cells vs.toArray t)) n vs := by
  subst hn
  exact cells_new W vs t
set_option maxRecDepth 100000 in
set_option maxHeartbeats 1600000 in
theorem awake_any (w : World) : Calls Try.prog 9 #[] w fun e w' => e = .returned (.bool true) ∧ Below w.heap.size w w' := by
  go_enter Try.func9, Try.ntmps9
  go_wp2_with fail
  refine (aw_write _ (isO_aw _ _ (by simp))).mono ?_
  rintro e w1 ⟨rfl, c1⟩
  have b1 := step_a ((below_alloc w _).alloc (by simp) _) c1
  have CA1 := Lib.hid (show Cells w1 w.heap.size (cellsO awW) from (((cells_at w _ rfl (cellsO awW) 25).below (below_alloc _ _)).below (below_alloc _ _)).below c1)
  have CB1 := Lib.hid (show Cells w1 (w.heap.size + 1) (cellsO awM) from ((cells_at (w.alloc _) (w.heap.size + 1) (by simp) (cellsO awM) 25).below (below_alloc _ _)).below c1)
  clear c1
  go_wp2_with fail
  refine (aw_read _).mono ?_
  rintro e w2 ⟨⟨a, c, rfl, hio⟩, c2⟩
  have b2 := step_b b1 c2
  have CA2 := Lib.hid (CA1.out.below c2)
  have CB2 := Lib.hid (CB1.out.below c2)
  have HI2 := Lib.hid hio
  clear c2 hio b1 CA1 CB1
  go_wp2_with fail
  refine (aw_put _).mono ?_
  rintro e w3 ⟨rfl, c3⟩
  have b3 := step_b b2 c3
  have CA3 := Lib.hid (CA2.out.below c3)
  have CB3 := Lib.hid (CB2.out.below c3)
  have HI3 := Lib.hid (HI2.out.below c3)
  clear c3 b2 CA2 CB2 HI2
  go_wp2_with fail
  refine (aw_take _).mono ?_
  rintro e w4 ⟨rfl, c4⟩
  have b4 := step_b b3 c4
  have CA4 := Lib.hid (CA3.out.below c4)
  have a0 := CA4.out.cell 0 _ rfl
  have a1 := CA4.out.cell 1 _ rfl
  have a2 := CA4.out.cell 2 _ rfl
  have a3 := CA4.out.cell 3 _ rfl
  have a4 := CA4.out.cell 4 _ rfl
  have a5 := CA4.out.cell 5 _ rfl
  have a6 := CA4.out.cell 6 _ rfl
  have CB4 := Lib.hid (CB3.out.below c4)
  have q0 := CB4.out.cell 0 _ rfl
  have q1 := CB4.out.cell 1 _ rfl
  have q2 := CB4.out.cell 2 _ rfl
  have q3 := CB4.out.cell 3 _ rfl
  have q4 := CB4.out.cell 4 _ rfl
  have q5 := CB4.out.cell 5 _ rfl
  have q6 := CB4.out.cell 6 _ rfl
  have HI4 := Lib.hid (HI3.out.below c4)
  clear c4 b3 CA3 CB3 HI3
  have a1_0 := fun X => (CA4.out.below (below_alloc w4 X)).cell 0 _ rfl
  have a1_1 := fun X => (CA4.out.below (below_alloc w4 X)).cell 1 _ rfl
  have a1_2 := fun X => (CA4.out.below (below_alloc w4 X)).cell 2 _ rfl
  have a1_3 := fun X => (CA4.out.below (below_alloc w4 X)).cell 3 _ rfl
  have a1_4 := fun X => (CA4.out.below (below_alloc w4 X)).cell 4 _ rfl
  have a1_5 := fun X => (CA4.out.below (below_alloc w4 X)).cell 5 _ rfl
  have a1_6 := fun X => (CA4.out.below (below_alloc w4 X)).cell 6 _ rfl
  have q1_0 := fun X => (CB4.out.below (below_alloc w4 X)).cell 0 _ rfl
  have q1_1 := fun X => (CB4.out.below (below_alloc w4 X)).cell 1 _ rfl
  have q1_2 := fun X => (CB4.out.below (below_alloc w4 X)).cell 2 _ rfl
  have q1_3 := fun X => (CB4.out.below (below_alloc w4 X)).cell 3 _ rfl
  have q1_4 := fun X => (CB4.out.below (below_alloc w4 X)).cell 4 _ rfl
  have q1_5 := fun X => (CB4.out.below (below_alloc w4 X)).cell 5 _ rfl
  have q1_6 := fun X => (CB4.out.below (below_alloc w4 X)).cell 6 _ rfl
  have a2_0 := fun X Y => ((CA4.out.below (below_alloc w4 X)).below (below_alloc (w4.alloc X) Y)).cell 0 _ rfl
  have a2_1 := fun X Y => ((CA4.out.below (below_alloc w4 X)).below (below_alloc (w4.alloc X) Y)).cell 1 _ rfl
  have a2_2 := fun X Y => ((CA4.out.below (below_alloc w4 X)).below (below_alloc (w4.alloc X) Y)).cell 2 _ rfl
  have a2_3 := fun X Y => ((CA4.out.below (below_alloc w4 X)).below (below_alloc (w4.alloc X) Y)).cell 3 _ rfl
  have a2_4 := fun X Y => ((CA4.out.below (below_alloc w4 X)).below (below_alloc (w4.alloc X) Y)).cell 4 _ rfl
  have a2_5 := fun X Y => ((CA4.out.below (below_alloc w4 X)).below (below_alloc (w4.alloc X) Y)).cell 5 _ rfl
  have a2_6 := fun X Y => ((CA4.out.below (below_alloc w4 X)).below (below_alloc (w4.alloc X) Y)).cell 6 _ rfl
  have q2_0 := fun X Y => ((CB4.out.below (below_alloc w4 X)).below (below_alloc (w4.alloc X) Y)).cell 0 _ rfl
  have q2_1 := fun X Y => ((CB4.out.below (below_alloc w4 X)).below (below_alloc (w4.alloc X) Y)).cell 1 _ rfl
  have q2_2 := fun X Y => ((CB4.out.below (below_alloc w4 X)).below (below_alloc (w4.alloc X) Y)).cell 2 _ rfl
  have q2_3 := fun X Y => ((CB4.out.below (below_alloc w4 X)).below (below_alloc (w4.alloc X) Y)).cell 3 _ rfl
  have q2_4 := fun X Y => ((CB4.out.below (below_alloc w4 X)).below (below_alloc (w4.alloc X) Y)).cell 4 _ rfl
  have q2_5 := fun X Y => ((CB4.out.below (below_alloc w4 X)).below (below_alloc (w4.alloc X) Y)).cell 5 _ rfl
  have q2_6 := fun X Y => ((CB4.out.below (below_alloc w4 X)).below (below_alloc (w4.alloc X) Y)).cell 6 _ rfl
  have hbt : (awB.toList == [2, 1, 2, 129, 1, 2, 97, 98, 1, 0, 1, 129, 1, 0, 1, 120]) = true := by kernel_rfl
  go_wp2_with fail
  refine (aw_same _ (((HI4.out.below (below_alloc _ _)).below (below_alloc _ _)).below (below_alloc _ _)) (isO_aw _ _ (by simp))).mono ?_
  rintro e w5 ⟨rfl, c5⟩
  have b5 := step_a ((b4.alloc b4.size _).alloc (b4.alloc b4.size _).size _) c5
  have CA5 := Lib.hid ((((CA4.out.below (below_alloc _ _)).below (below_alloc _ _)).below (below_alloc _ _)).below c5)
  have CB5 := Lib.hid ((((CB4.out.below (below_alloc _ _)).below (below_alloc _ _)).below (below_alloc _ _)).below c5)
  have CC5 := Lib.hid (show Cells w5 (w4.heap.size + 1) (cellsO awBad) from ((cells_at (w4.alloc _) (w4.heap.size + 1) (by simp) (cellsO awBad) 25).below (below_alloc _ _)).below c5)
  clear c5 b4 CA4 CB4 HI4 a1_0 a2_0 a1_1 a2_1 a1_2 a2_2 a1_3 a2_3 a1_4 a2_4 a1_5 a2_5 a1_6 a2_6 q1_0 q2_0 q1_1 q2_1 q1_2 q2_2 q1_3 q2_3 q1_4 q2_4 q1_5 q2_5 q1_6 q2_6 a0 a1 a2 a3 a4 a5 a6 q0 q1 q2 q3 q4 q5 q6
  have a0 := CA5.out.cell 0 _ rfl
  have a1 := CA5.out.cell 1 _ rfl
  have a2 := CA5.out.cell 2 _ rfl
  have a3 := CA5.out.cell 3 _ rfl
  have a4 := CA5.out.cell 4 _ rfl
  have a5 := CA5.out.cell 5 _ rfl
  have a6 := CA5.out.cell 6 _ rfl
  have q0 := CB5.out.cell 0 _ rfl
  have q1 := CB5.out.cell 1 _ rfl
  have q2 := CB5.out.cell 2 _ rfl
  have q3 := CB5.out.cell 3 _ rfl
  have q4 := CB5.out.cell 4 _ rfl
  have q5 := CB5.out.cell 5 _ rfl
  have q6 := CB5.out.cell 6 _ rfl
  have z0 := CC5.out.cell 0 _ rfl
  have z1 := CC5.out.cell 1 _ rfl
  have z2 := CC5.out.cell 2 _ rfl
  have z3 := CC5.out.cell 3 _ rfl
  have z4 := CC5.out.cell 4 _ rfl
  have z5 := CC5.out.cell 5 _ rfl
  have z6 := CC5.out.cell 6 _ rfl
  go_wp2_with fail
  refine (aw_chk _).mono ?_
  rintro e w6 ⟨rfl, c6⟩
  have b6 := step_b b5 c6
  have CA6 := Lib.hid (CA5.out.below c6)
  have CB6 := Lib.hid (CB5.out.below c6)
  have CC6 := Lib.hid (CC5.out.below c6)
  clear c6 b5 CA5 CB5 CC5 a0 a1 a2 a3 a4 a5 a6 q0 q1 q2 q3 q4 q5 q6 z0 z1 z2 z3 z4 z5 z6
  have a0 := CA6.out.cell 0 _ rfl
  have a1 := CA6.out.cell 1 _ rfl
  have a2 := CA6.out.cell 2 _ rfl
  have a3 := CA6.out.cell 3 _ rfl
  have a4 := CA6.out.cell 4 _ rfl
  have a5 := CA6.out.cell 5 _ rfl
  have a6 := CA6.out.cell 6 _ rfl
  have q0 := CB6.out.cell 0 _ rfl
  have q1 := CB6.out.cell 1 _ rfl
  have q2 := CB6.out.cell 2 _ rfl
  have q3 := CB6.out.cell 3 _ rfl
  have q4 := CB6.out.cell 4 _ rfl
  have q5 := CB6.out.cell 5 _ rfl
  have q6 := CB6.out.cell 6 _ rfl
  have z0 := CC6.out.cell 0 _ rfl
  have z1 := CC6.out.cell 1 _ rfl
  have z2 := CC6.out.cell 2 _ rfl
  have z3 := CC6.out.cell 3 _ rfl
  have z4 := CC6.out.cell 4 _ rfl
  have z5 := CC6.out.cell 5 _ rfl
  have z6 := CC6.out.cell 6 _ rfl
  go_wp2_with fail
  refine (aw_chk2 _).mono ?_
  rintro e w7 ⟨rfl, c7⟩
  have b7 := step_b b6 c7
  have CA7 := Lib.hid (CA6.out.below c7)
  have CB7 := Lib.hid (CB6.out.below c7)
  have CC7 := Lib.hid (CC6.out.below c7)
  clear c7 b6 CA6 CB6 CC6 a0 a1 a2 a3 a4 a5 a6 q0 q1 q2 q3 q4 q5 q6 z0 z1 z2 z3 z4 z5 z6
  have a0 := CA7.out.cell 0 _ rfl
  have a1 := CA7.out.cell 1 _ rfl
  have a2 := CA7.out.cell 2 _ rfl
  have a3 := CA7.out.cell 3 _ rfl
  have a4 := CA7.out.cell 4 _ rfl
  have a5 := CA7.out.cell 5 _ rfl
  have a6 := CA7.out.cell 6 _ rfl
  have q0 := CB7.out.cell 0 _ rfl
  have q1 := CB7.out.cell 1 _ rfl
  have q2 := CB7.out.cell 2 _ rfl
  have q3 := CB7.out.cell 3 _ rfl
  have q4 := CB7.out.cell 4 _ rfl
  have q5 := CB7.out.cell 5 _ rfl
  have q6 := CB7.out.cell 6 _ rfl
  have z0 := CC7.out.cell 0 _ rfl
  have z1 := CC7.out.cell 1 _ rfl
  have z2 := CC7.out.cell 2 _ rfl
  have z3 := CC7.out.cell 3 _ rfl
  have z4 := CC7.out.cell 4 _ rfl
  have z5 := CC7.out.cell 5 _ rfl
  have z6 := CC7.out.cell 6 _ rfl
  go_wp2_with fail
  refine (aw_less _).mono ?_
  rintro e w8 ⟨rfl, c8⟩
  have b8 := step_b b7 c8
  have CA8 := Lib.hid (CA7.out.below c8)
  have CB8 := Lib.hid (CB7.out.below c8)
  have CC8 := Lib.hid (CC7.out.below c8)
  clear c8 b7 CA7 CB7 CC7 a0 a1 a2 a3 a4 a5 a6 q0 q1 q2 q3 q4 q5 q6 z0 z1 z2 z3 z4 z5 z6
  have a0 := CA8.out.cell 0 _ rfl
  have a1 := CA8.out.cell 1 _ rfl
  have a2 := CA8.out.cell 2 _ rfl
  have a3 := CA8.out.cell 3 _ rfl
  have a4 := CA8.out.cell 4 _ rfl
  have a5 := CA8.out.cell 5 _ rfl
  have a6 := CA8.out.cell 6 _ rfl
  have q0 := CB8.out.cell 0 _ rfl
  have q1 := CB8.out.cell 1 _ rfl
  have q2 := CB8.out.cell 2 _ rfl
  have q3 := CB8.out.cell 3 _ rfl
  have q4 := CB8.out.cell 4 _ rfl
  have q5 := CB8.out.cell 5 _ rfl
  have q6 := CB8.out.cell 6 _ rfl
  have z0 := CC8.out.cell 0 _ rfl
  have z1 := CC8.out.cell 1 _ rfl
  have z2 := CC8.out.cell 2 _ rfl
  have z3 := CC8.out.cell 3 _ rfl
  have z4 := CC8.out.cell 4 _ rfl
  have z5 := CC8.out.cell 5 _ rfl
  have z6 := CC8.out.cell 6 _ rfl
  go_wp2_with fail
  refine (aw_less2 _).mono ?_
  rintro e w9 ⟨rfl, c9⟩
  have b9 := step_b b8 c9
  have CA9 := Lib.hid (CA8.out.below c9)
  have CB9 := Lib.hid (CB8.out.below c9)
  have CC9 := Lib.hid (CC8.out.below c9)
  clear c9 b8 CA8 CB8 CC8 a0 a1 a2 a3 a4 a5 a6 q0 q1 q2 q3 q4 q5 q6 z0 z1 z2 z3 z4 z5 z6
  clear CA9 CB9 CC9
  go_wp2
  go_ret
  exact ⟨rfl, b9⟩
end Go.Proofs.Ytjhllkjcaodcgaa
