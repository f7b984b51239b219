/-
  The document's Take of an operation.
-/
import Derived.Test.YtjhllkjcaodcgaaRSame
import Derived.Test.YtjhllkjcaodcgaaCells
import Derived.Handy
import Derived.Deep.RegionHeld3
namespace Go.Proofs.Ytjhllkjcaodcgaa
open Go.RowKit Go.Lib
/-- What the document's Take tells of any bytes. -/
theorem rtake_some (s : ByteArray) (hs : s.size ≤ 1000000) : ∃ (n : Nat) (r : ByteArray) (e : Int), n < 9223372036854775808 ∧ r.size ≤ s.size ∧ (∀ m t, Vlq.Takes s.data.toList m t → m = n ∧ ofL t = r ∧ e = 0) ∧
    ∀ w, Calls Try.prog 32 #[.string s] w fun x w' => x = .returned (.tuple #[.int .i64 n, .string r, .int .i64 e]) ∧ Below w.heap.size w w' := by
  by_cases h : ∃ n r, Vlq.Takes s.data.toList n r
  · obtain ⟨n, r, h⟩ := h
    refine ⟨n, ofL r, 0, h.2, ?_, fun m t ht => ?_, fun w => rtake_yes s n r w hs h⟩
    · have := congrArg List.length h.1
      simp only [List.length_append] at this
      have hsl : s.data.toList.length = s.size := by simp
      rw [ofL_size]; omega
    · obtain ⟨rfl, rfl⟩ := ht.inj h
      exact ⟨rfl, rfl, rfl⟩
  · have h2 : NoTake s.data.toList := fun n r hn => h ⟨n, r, hn⟩
    exact ⟨0, ⟨#[]⟩, 40, by decide, Nat.zero_le _, fun m t ht => absurd ht (h2 m t), fun w => rtake_no s w hs h2⟩
theorem TakesT.inj {b t r t2 r2 : List UInt8} (h : TakesT b t r) (k : TakesT b t2 r2) : t = t2 ∧ r = r2 := by
  obtain ⟨h1, h2⟩ := Vlq.Takes.inj h k
  exact List.append_inj h2 h1
theorem rtext_some (s : ByteArray) (hs : s.size ≤ 1000000) : ∃ (t r : ByteArray) (e : Int), t.size ≤ s.size ∧ (∀ u v, TakesT s.data.toList u v → ofL u = t ∧ ofL v = r ∧ e = 0) ∧
    ∀ w, Calls Try.prog 33 #[.string s] w fun x w' => x = .returned (.tuple #[.string t, .string r, .int .i64 e]) ∧ Below w.heap.size w w' := by
  by_cases h : ∃ t r, TakesT s.data.toList t r
  · obtain ⟨t, r, h⟩ := h
    refine ⟨ofL t, ofL r, 0, ?_, fun u v hu => ?_, fun w => rtext_yes s t r w hs h⟩
    · have := congrArg List.length h.1
      simp only [List.length_append] at this
      have hsl : s.data.toList.length = s.size := by simp
      rw [ofL_size]; omega
    · obtain ⟨rfl, rfl⟩ := hu.inj h
      exact ⟨rfl, rfl, rfl⟩
  · have h2 : NoTakeT s.data.toList := fun t r hn => h ⟨t, r, hn⟩
    exact ⟨⟨#[]⟩, ⟨#[]⟩, 40, Nat.zero_le _, fun u v hu => absurd hu (h2 u v), fun w => rtext_no s w hs h2⟩
theorem CellsDrew {w : World} {g : Nat} {vs : List Value} (h : Cells w g vs) : Cells w.drew g vs := ⟨h.lt, h.cell, h.free⟩
theorem BelowDrew {B : Nat} {w w' : World} (h : Below B w w') : Below B w w'.drew := ⟨h.os, h.tape, h.output, h.size, h.block⟩
/-- The bytes begin with this operation's. -/
def headO (b : ByteArray) (o : Opn) : Bool := mayO o && decide (b.data.toList.take (opB o).length = opB o)
def zeroO : Opn := ⟨0, 0, 0, 0, 0, ⟨#[]⟩, ⟨#[]⟩⟩
/-- What Take tells, once it has the operation that bytes may begin with. -/
def tkV (b : ByteArray) (o : Opn) : Value :=
  if headO b o then .tuple #[OV o, .string (b.extract (opB o).length b.size), .int .i64 0] else .tuple #[OV ⟨0, 0, 0, 0, 0, ⟨#[]⟩, ⟨#[]⟩⟩, .string ⟨#[]⟩, .int .i64 50]
theorem tkV_no {b : ByteArray} {o : Opn} (h : headO b o = false) : tkV b o = .tuple #[OV ⟨0, 0, 0, 0, 0, ⟨#[]⟩, ⟨#[]⟩⟩, .string ⟨#[]⟩, .int .i64 50] := by unfold tkV; rw [h]; rfl
theorem tkV_yes {b : ByteArray} {o : Opn} (h : headO b o = true) : tkV b o = .tuple #[OV o, .string (b.extract (opB o).length b.size), .int .i64 0] := by unfold tkV; rw [h]; rfl
def cellsO (o : Opn) : List Value := [.int .i64 o.c, .int .i64 o.r, .int .i64 o.k, .int .i64 o.n, .int .i64 o.p, .string o.s, .string o.d]
set_option maxRecDepth 100000 in
set_option maxHeartbeats 8000000 in
theorem rtko_any (b s1 s2 s3 s4 s5 s6 t s7 u : ByteArray) (x1 x2 x3 x4 x5 : Nat) (e1 e2 e3 e4 e5 e6 e7 : Int) (o : Opn) (w : World) (hos : o.s.size ≤ 10000) (hod : o.d.size ≤ 10000)
    (ho1 : x3 = 1 → o = ⟨x1, x2, x3, x4, x5, t, ⟨#[]⟩⟩) (ho2 : x3 ≠ 1 → o = ⟨x1, x2, x3, x4, 0, ⟨#[]⟩, u⟩)
    (h1 : ∀ w, Calls Try.prog 32 #[.string b] w fun x w' => x = .returned (.tuple #[.int .i64 x1, .string s1, .int .i64 e1]) ∧ Below w.heap.size w w')
    (h2 : ∀ w, Calls Try.prog 32 #[.string s1] w fun x w' => x = .returned (.tuple #[.int .i64 x2, .string s2, .int .i64 e2]) ∧ Below w.heap.size w w')
    (h3 : ∀ w, Calls Try.prog 32 #[.string s2] w fun x w' => x = .returned (.tuple #[.int .i64 x3, .string s3, .int .i64 e3]) ∧ Below w.heap.size w w')
    (h4 : ∀ w, Calls Try.prog 32 #[.string s3] w fun x w' => x = .returned (.tuple #[.int .i64 x4, .string s4, .int .i64 e4]) ∧ Below w.heap.size w w')
    (h5 : ∀ w, Calls Try.prog 32 #[.string s4] w fun x w' => x = .returned (.tuple #[.int .i64 x5, .string s5, .int .i64 e5]) ∧ Below w.heap.size w w')
    (h6 : ∀ w, Calls Try.prog 33 #[.string s5] w fun x w' => x = .returned (.tuple #[.string t, .string s6, .int .i64 e6]) ∧ Below w.heap.size w w')
    (h7 : ∀ w, Calls Try.prog 33 #[.string s4] w fun x w' => x = .returned (.tuple #[.string u, .string s7, .int .i64 e7]) ∧ Below w.heap.size w w') :
    Calls Try.prog 14 #[.string b] w fun e w' => e = .returned (tkV b o) ∧ Below w.heap.size w w' := by
  have H1 := Lib.hid h1
  have H2 := Lib.hid h2
  have H3 := Lib.hid h3
  have H4 := Lib.hid h4
  have H5 := Lib.hid h5
  have H6 := Lib.hid h6
  have H7 := Lib.hid h7
  have HO1 := Lib.hid ho1
  have HO2 := Lib.hid ho2
  clear h1 h2 h3 h4 h5 h6 h7 ho1 ho2
  have hsz : ∀ o : Obj, (w.alloc o).heap.size = w.heap.size + 1 := fun o => by simp
  have R0 := Lib.hid ((cells_new w [.int .i64 0, .int .i64 0, .int .i64 0, .int .i64 0, .int .i64 0, .string ⟨#[]⟩, .string ⟨#[]⟩] 25).below (below_alloc _ (.cells #[.int .i64 0, .int .i64 0, .int .i64 0, .int .i64 0, .int .i64 0] 56)))
  have A0 := cells_new (w.alloc (.cells #[.int .i64 0, .int .i64 0, .int .i64 0, .int .i64 0, .int .i64 0, .string ⟨#[]⟩, .string ⟨#[]⟩] 25)) [.int .i64 0, .int .i64 0, .int .i64 0, .int .i64 0, .int .i64 0] 56
  rw [hsz] at A0
  have hA0 := Lib.hid A0
  clear A0 hsz
  go_enter Try.func14, Try.ntmps14
  go_wp2_with fail
  refine wp_loop_rounds 5 ?_
  rw [rounds_succ]
  go_wp2_with fail
  refine (H1.out _).mono ?_
  rintro e w1 ⟨rfl, c1⟩
  have b1 := step_a (below_alloc _ _) c1
  have R1 := Lib.hid (R0.out.below c1)
  have A1 := Lib.hid (hA0.out.below c1)
  have q0 := A1.out.cell 0 _ rfl
  have f0 := A1.out.free 0 (by simp)
  clear R0 hA0 c1
  go_wp2_with fail
  rw [rounds_succ]
  go_wp2_with fail
  refine (H2.out _).mono ?_
  rintro e w2 ⟨rfl, c2⟩
  have b2 := step_b (b1.setCell (Nat.le_succ _) (.int .i64 x1)) c2
  have R2 := Lib.hid ((R1.out.other (g' := w.heap.size + 1) (by omega) 0 (.int .i64 x1)).below c2)
  have A2 := Lib.hid ((A1.out.set 0 (by simp) (.int .i64 x1)).below c2)
  have q1 := A2.out.cell 1 _ rfl
  have f1 := A2.out.free 1 (by simp)
  clear R1 A1 b1 c2 q0 f0
  go_wp2_with fail
  rw [rounds_succ]
  go_wp2_with fail
  refine (H3.out _).mono ?_
  rintro e w3 ⟨rfl, c3⟩
  have b3 := step_b (b2.setCell (Nat.le_succ _) (.int .i64 x2)) c3
  have R3 := Lib.hid ((R2.out.other (g' := w.heap.size + 1) (by omega) 1 (.int .i64 x2)).below c3)
  have A3 := Lib.hid ((A2.out.set 1 (by simp) (.int .i64 x2)).below c3)
  have q2 := A3.out.cell 2 _ rfl
  have f2 := A3.out.free 2 (by simp)
  clear R2 A2 b2 c3 q1 f1
  go_wp2_with fail
  rw [rounds_succ]
  go_wp2_with fail
  refine (H4.out _).mono ?_
  rintro e w4 ⟨rfl, c4⟩
  have b4 := step_b (b3.setCell (Nat.le_succ _) (.int .i64 x3)) c4
  have R4 := Lib.hid ((R3.out.other (g' := w.heap.size + 1) (by omega) 2 (.int .i64 x3)).below c4)
  have A4 := Lib.hid ((A3.out.set 2 (by simp) (.int .i64 x3)).below c4)
  have q3 := A4.out.cell 3 _ rfl
  have f3 := A4.out.free 3 (by simp)
  clear R3 A3 b3 c4 q2 f2
  have A5 := Lib.hid (A4.out.set 3 (by simp) (.int .i64 x4))
  have R5 := Lib.hid (R4.out.other (g' := w.heap.size + 1) (by omega) 3 (.int .i64 x4))
  have a0 := A5.out.cell 0 _ rfl
  have a1 := A5.out.cell 1 _ rfl
  have a2 := A5.out.cell 2 _ rfl
  have a3 := A5.out.cell 3 _ rfl
  have b5 := b4.setCell (p := ⟨w.heap.size + 1, 3, none⟩) (Nat.le_succ _) (.int .i64 x4)
  have lA := A4.out.lt
  have hw5 : ∀ v, (w4.setCell ⟨w.heap.size + 1, 3, none⟩ v).heap.size = w4.heap.size := fun v => by simp
  have O5 := cells_new (w4.setCell ⟨w.heap.size + 1, 3, none⟩ (.int .i64 x4)) [.int .i64 x1, .int .i64 x2, .int .i64 x3, .int .i64 x4, .int .i64 0, .string ⟨#[]⟩, .string ⟨#[]⟩] 25
  rw [hw5] at O5
  have HO5 := Lib.hid O5
  have lB := b4.size
  have hc0 := HO5.out.cell 2 _ rfl
  clear O5 hw5
  go_wp2_with fail
  rw [rounds_succ]
  go_upto_if 36 with fail
  go_cut [6] (fun _ wx => Cells wx w4.heap.size (cellsO o) ∧ Cells wx w.heap.size [.int .i64 0, .int .i64 0, .int .i64 0, .int .i64 0, .int .i64 0, .string ⟨#[]⟩, .string ⟨#[]⟩] ∧ Below w.heap.size w wx)
  case first =>
    by_cases hx3 : x3 = 1
    · have e31 : ((x3 : Int) == 1) = true := by rw [beq_iff_eq]; omega
      have HO := Lib.hid (HO1.out hx3)
      clear hx3 HO1 HO2
      go_wp2_with fail
      refine (H5.out _).mono ?_
      rintro e w5 ⟨rfl, c5⟩
      have b6 := step_a b5 c5
      have O6 := Lib.hid (HO5.out.below c5)
      have R6 := Lib.hid ((R5.out.below (below_alloc _ _)).below c5)
      have q4 := O6.out.cell 4 _ rfl
      have f4 := O6.out.free 4 (by simp)
      clear HO5 R5 A5 a0 a1 a2 a3 b4 b5 c5 A4 R4 q3 f3 hc0
      go_wp2_with fail
      refine (H6.out _).mono ?_
      rintro e w6 ⟨rfl, c6⟩
      have b7 := step_b (b6.setCell (by simpa using lB) (.int .i64 x5)) c6
      have O7 := Lib.hid ((O6.out.set 4 (by simp) (.int .i64 x5)).below c6)
      have R7 := Lib.hid ((R6.out.other (g' := w4.heap.size) (by omega) 4 (.int .i64 x5)).below c6)
      have q5 := O7.out.cell 5 _ rfl
      have f5 := O7.out.free 5 (by simp)
      have O8 := Lib.hid (O7.out.set 5 (by simp) (.string t))
      have R8 := Lib.hid (R7.out.other (g' := w4.heap.size) (by omega) 5 (.string t))
      have b8 := b7.setCell (p := ⟨w4.heap.size, 5, none⟩) (by simpa using lB) (.string t)
      clear O6 R6 b6 c6 q4 f4
      go_wp2_with fail
      go_meet
      exact ⟨by rw [HO.out]; exact O8.out, R8.out, b8⟩
    · have e31 : ((x3 : Int) == 1) = false := by rw [beq_eq_false_iff_ne]; omega
      have HO := Lib.hid (HO2.out hx3)
      clear hx3 HO1 HO2
      go_wp2_with fail
      refine (H7.out _).mono ?_
      rintro e w5 ⟨rfl, c5⟩
      have b6 := step_a b5 c5
      have O6 := Lib.hid (HO5.out.below c5)
      have R6 := Lib.hid ((R5.out.below (below_alloc _ _)).below c5)
      have q6 := O6.out.cell 6 _ rfl
      have f6 := O6.out.free 6 (by simp)
      have O8 := Lib.hid (O6.out.set 6 (by simp) (.string u))
      have R8 := Lib.hid (R6.out.other (g' := w4.heap.size) (by omega) 6 (.string u))
      have b8 := b6.setCell (p := ⟨w4.heap.size, 6, none⟩) (by simpa using lB) (.string u)
      clear HO5 R5 A5 a0 a1 a2 a3 b4 b5 c5 A4 R4 q3 f3 hc0
      go_wp2_with fail
      go_meet
      exact ⟨by rw [HO.out]; exact O8.out, R8.out, b8⟩
  case rest =>
    obtain ⟨hO, hR, bC⟩ := hcut
    have O8 := Lib.hid hO
    have R8 := Lib.hid hR
    clear hO hR HO5 R5 A5 a0 a1 a2 a3 b4 b5 A4 R4 q3 f3 hc0 HO1 HO2
    have k0 := O8.out.cell 0 _ rfl
    have k1 := O8.out.cell 1 _ rfl
    have k2 := O8.out.cell 2 _ rfl
    have k3 := O8.out.cell 3 _ rfl
    have k4 := O8.out.cell 4 _ rfl
    have k5 := O8.out.cell 5 _ rfl
    have k6 := O8.out.cell 6 _ rfl
    cases hm : mayO o with
    | false =>
      have HM := Lib.hid hm
      have HV := Lib.hid (tkV_no (b := b) (o := o) (by unfold headO; rw [hm]; rfl))
      clear hm
      go_wp2_with fail
      refine (rput_no ⟨#[]⟩ o _ HM.out (by omega)).mono ?_
      rintro e w7 ⟨rfl, c7⟩
      have b9 := step_b bC c7
      have R9 := Lib.hid (R8.out.below c7)
      have r0 := R9.out.cell 0 _ rfl
      have r1 := R9.out.cell 1 _ rfl
      have r2 := R9.out.cell 2 _ rfl
      have r3 := R9.out.cell 3 _ rfl
      have r4 := R9.out.cell 4 _ rfl
      have r5 := R9.out.cell 5 _ rfl
      have r6 := R9.out.cell 6 _ rfl
      have g0 := R9.out.free 0 (by simp)
      have g1 := R9.out.free 1 (by simp)
      have g2 := R9.out.free 2 (by simp)
      have g3 := R9.out.free 3 (by simp)
      have g4 := R9.out.free 4 (by simp)
      have g5 := R9.out.free 5 (by simp)
      have g6 := R9.out.free 6 (by simp)
      clear R8 O8 k0 k1 k2 k3 k4 k5 k6 c7
      go_wp2_with fail
      have RF := Lib.hid (((((((R9.out.set 0 (by simp) (.int .i64 0)).set 1 (by simp) (.int .i64 0)).set 2 (by simp) (.int .i64 0)).set 3 (by simp) (.int .i64 0)).set 4 (by simp) (.int .i64 0)).set 5 (by simp) (.string ⟨#[]⟩)).set 6 (by simp) (.string ⟨#[]⟩))
      have z0 := RF.out.cell 0 _ rfl
      have z1 := RF.out.cell 1 _ rfl
      have z2 := RF.out.cell 2 _ rfl
      have z3 := RF.out.cell 3 _ rfl
      have z4 := RF.out.cell 4 _ rfl
      have z5 := RF.out.cell 5 _ rfl
      have z6 := RF.out.cell 6 _ rfl
      have bF := (((((((b9.setCell (p := ⟨w.heap.size, 0, none⟩) (Nat.le_refl _) (.int .i64 0)).setCell (p := ⟨w.heap.size, 1, none⟩) (Nat.le_refl _) (.int .i64 0)).setCell (p := ⟨w.heap.size, 2, none⟩) (Nat.le_refl _) (.int .i64 0)).setCell (p := ⟨w.heap.size, 3, none⟩) (Nat.le_refl _) (.int .i64 0)).setCell (p := ⟨w.heap.size, 4, none⟩) (Nat.le_refl _) (.int .i64 0)).setCell (p := ⟨w.heap.size, 5, none⟩) (Nat.le_refl _) (.string ⟨#[]⟩)).setCell (p := ⟨w.heap.size, 6, none⟩) (Nat.le_refl _) (.string ⟨#[]⟩))
      go_wp2_with fail
      refine bodyPost_ret (v := .tuple #[OV ⟨0, 0, 0, 0, 0, ⟨#[]⟩, ⟨#[]⟩⟩, .string ⟨#[]⟩, .int .i64 50]) (by simp [results, Try.results14, go_sem, z0, z1, z2, z3, z4, z5, z6]) rfl ⟨by rw [HV.out], bF⟩
    | true =>
      have HM := Lib.hid hm
      have hol := opB_len hm (by omega)
      obtain ⟨y, hy⟩ : ∃ y, ofL (opB o) = y := ⟨_, rfl⟩
      have hyl : y.size = (opB o).length := by rw [← hy]; rfl
      have C := Lib.hid (fun w => rput_yes ⟨#[]⟩ o w (by decide) hm (by omega) (by omega))
      have hemp : (⟨#[]⟩ : ByteArray) ++ y = y := text_eq (by simp)
      rw [hy, hemp] at C
      clear hemp
      by_cases hlong : b.size < y.size
      · have HV := Lib.hid (tkV_no (b := b) (o := o) (by
          unfold headO
          rw [decide_eq_false, Bool.and_false]
          intro e
          have := congrArg List.length e
          rw [List.length_take, ← hyl] at this
          have hbl : b.data.toList.length = b.size := by simp
          omega))
        have d1 : decide ((b.size : Int) < (y.size : Int)) = true := decide_eq_true (by omega)
        clear hm hy
        go_wp2_with fail
        refine (C.out _).mono ?_
        rintro e w7 ⟨rfl, c7⟩
        have b9 := step_b bC c7
        have R9 := Lib.hid (R8.out.below c7)
        have r0 := R9.out.cell 0 _ rfl
        have r1 := R9.out.cell 1 _ rfl
        have r2 := R9.out.cell 2 _ rfl
        have r3 := R9.out.cell 3 _ rfl
        have r4 := R9.out.cell 4 _ rfl
        have r5 := R9.out.cell 5 _ rfl
        have r6 := R9.out.cell 6 _ rfl
        have g0 := R9.out.free 0 (by simp)
        have g1 := R9.out.free 1 (by simp)
        have g2 := R9.out.free 2 (by simp)
        have g3 := R9.out.free 3 (by simp)
        have g4 := R9.out.free 4 (by simp)
        have g5 := R9.out.free 5 (by simp)
        have g6 := R9.out.free 6 (by simp)
        clear R8 O8 k0 k1 k2 k3 k4 k5 k6 c7
        go_wp2_with fail
        have RF := Lib.hid (((((((R9.out.set 0 (by simp) (.int .i64 0)).set 1 (by simp) (.int .i64 0)).set 2 (by simp) (.int .i64 0)).set 3 (by simp) (.int .i64 0)).set 4 (by simp) (.int .i64 0)).set 5 (by simp) (.string ⟨#[]⟩)).set 6 (by simp) (.string ⟨#[]⟩))
        have z0 := RF.out.cell 0 _ rfl
        have z1 := RF.out.cell 1 _ rfl
        have z2 := RF.out.cell 2 _ rfl
        have z3 := RF.out.cell 3 _ rfl
        have z4 := RF.out.cell 4 _ rfl
        have z5 := RF.out.cell 5 _ rfl
        have z6 := RF.out.cell 6 _ rfl
        have bF := (((((((b9.setCell (p := ⟨w.heap.size, 0, none⟩) (Nat.le_refl _) (.int .i64 0)).setCell (p := ⟨w.heap.size, 1, none⟩) (Nat.le_refl _) (.int .i64 0)).setCell (p := ⟨w.heap.size, 2, none⟩) (Nat.le_refl _) (.int .i64 0)).setCell (p := ⟨w.heap.size, 3, none⟩) (Nat.le_refl _) (.int .i64 0)).setCell (p := ⟨w.heap.size, 4, none⟩) (Nat.le_refl _) (.int .i64 0)).setCell (p := ⟨w.heap.size, 5, none⟩) (Nat.le_refl _) (.string ⟨#[]⟩)).setCell (p := ⟨w.heap.size, 6, none⟩) (Nat.le_refl _) (.string ⟨#[]⟩))
        go_wp2_with fail
        refine bodyPost_ret (v := .tuple #[OV ⟨0, 0, 0, 0, 0, ⟨#[]⟩, ⟨#[]⟩⟩, .string ⟨#[]⟩, .int .i64 50]) (by simp [results, Try.results14, go_sem, z0, z1, z2, z3, z4, z5, z6]) rfl ⟨by rw [HV.out], bF⟩
      · have d1 : decide ((b.size : Int) < (y.size : Int)) = false := decide_eq_false (by omega)
        have gy : (y.size : Int) ≤ (b.size : Int) := by omega
        obtain ⟨pp, hpp⟩ : ∃ z, b.extract 0 y.size = z := ⟨_, rfl⟩
        have hpd : pp.data.toList = b.data.toList.take (opB o).length := by rw [← hpp, extract_data, List.drop_zero, hyl]
        have hyd : y.data.toList = opB o := by rw [← hy, data_ofL]
        by_cases hyp : y = pp
        · have HV := Lib.hid (tkV_yes (b := b) (o := o) (by
            unfold headO
            rw [hm, decide_eq_true, Bool.true_and]
            rw [← hpd, ← hyp, hyd]))
          have q1 : (y.toList == pp.toList) = true := by rw [hyp]; simp
          have HL := Lib.hid hyl
          clear hm hy hyp hpd hyd hyl
          go_wp2_with fail
          refine (C.out _).mono ?_
          rintro e w7 ⟨rfl, c7⟩
          have b9 := step_b bC c7
          have R9 := Lib.hid (R8.out.below c7)
          have r0 := R9.out.cell 0 _ rfl
          have r1 := R9.out.cell 1 _ rfl
          have r2 := R9.out.cell 2 _ rfl
          have r3 := R9.out.cell 3 _ rfl
          have r4 := R9.out.cell 4 _ rfl
          have r5 := R9.out.cell 5 _ rfl
          have r6 := R9.out.cell 6 _ rfl
          have g0 := R9.out.free 0 (by simp)
          have g1 := R9.out.free 1 (by simp)
          have g2 := R9.out.free 2 (by simp)
          have g3 := R9.out.free 3 (by simp)
          have g4 := R9.out.free 4 (by simp)
          have g5 := R9.out.free 5 (by simp)
          have g6 := R9.out.free 6 (by simp)
          have O9 := Lib.hid (O8.out.below c7)
          have k0 := O9.out.cell 0 _ rfl
          have k1 := O9.out.cell 1 _ rfl
          have k2 := O9.out.cell 2 _ rfl
          have k3 := O9.out.cell 3 _ rfl
          have k4 := O9.out.cell 4 _ rfl
          have k5 := O9.out.cell 5 _ rfl
          have k6 := O9.out.cell 6 _ rfl
          clear R8 O8 c7
          go_wp2_with fail
          have hne1 : ¬ (w.heap.size = w4.heap.size) := Nat.ne_of_lt (Nat.lt_trans (Nat.lt_succ_self _) lA)
          have hne2 : ¬ (w4.heap.size = w.heap.size) := fun e => hne1 e.symm
          go_region_held3 (fun w' => w'.cell? ⟨w4.heap.size, 0, none⟩ = some (.int .i64 o.c) ∧ w'.cell? ⟨w4.heap.size, 1, none⟩ = some (.int .i64 o.r) ∧ w'.cell? ⟨w4.heap.size, 2, none⟩ = some (.int .i64 o.k) ∧ w'.cell? ⟨w4.heap.size, 3, none⟩ = some (.int .i64 o.n) ∧ w'.cell? ⟨w4.heap.size, 4, none⟩ = some (.int .i64 o.p) ∧ w'.cell? ⟨w4.heap.size, 5, none⟩ = some (.string o.s) ∧ w'.cell? ⟨w4.heap.size, 6, none⟩ = some (.string o.d)) (go_keep) (fail)
          have RF := Lib.hid (CellsDrew (((((((R9.out.set 0 (by simp) (.int .i64 o.c)).set 1 (by simp) (.int .i64 o.r)).set 2 (by simp) (.int .i64 o.k)).set 3 (by simp) (.int .i64 o.n)).set 4 (by simp) (.int .i64 o.p)).set 5 (by simp) (.string o.s)).set 6 (by simp) (.string o.d)))
          have z0 := RF.out.cell 0 _ rfl
          have z1 := RF.out.cell 1 _ rfl
          have z2 := RF.out.cell 2 _ rfl
          have z3 := RF.out.cell 3 _ rfl
          have z4 := RF.out.cell 4 _ rfl
          have z5 := RF.out.cell 5 _ rfl
          have z6 := RF.out.cell 6 _ rfl
          have bF := BelowDrew (((((((b9.setCell (p := ⟨w.heap.size, 0, none⟩) (Nat.le_refl _) (.int .i64 o.c)).setCell (p := ⟨w.heap.size, 1, none⟩) (Nat.le_refl _) (.int .i64 o.r)).setCell (p := ⟨w.heap.size, 2, none⟩) (Nat.le_refl _) (.int .i64 o.k)).setCell (p := ⟨w.heap.size, 3, none⟩) (Nat.le_refl _) (.int .i64 o.n)).setCell (p := ⟨w.heap.size, 4, none⟩) (Nat.le_refl _) (.int .i64 o.p)).setCell (p := ⟨w.heap.size, 5, none⟩) (Nat.le_refl _) (.string o.s)).setCell (p := ⟨w.heap.size, 6, none⟩) (Nat.le_refl _) (.string o.d))
          go_wp2_with fail
          refine bodyPost_ret (v := .tuple #[OV o, .string (b.extract y.size b.size), .int .i64 0]) (by simp [results, Try.results14, go_sem, z0, z1, z2, z3, z4, z5, z6]) rfl ⟨by rw [HV.out, HL.out], bF⟩
        · have HV := Lib.hid (tkV_no (b := b) (o := o) (by
            unfold headO
            rw [decide_eq_false, Bool.and_false]
            rw [← hpd, ← hyd]
            exact fun e => hyp (text_eq e.symm)))
          have q1 : (y.toList == pp.toList) = false := bytes_ne hyp
          clear hm hy hyp hpd hyd hyl
          go_wp2_with fail
          refine (C.out _).mono ?_
          rintro e w7 ⟨rfl, c7⟩
          have b9 := step_b bC c7
          have R9 := Lib.hid (R8.out.below c7)
          have r0 := R9.out.cell 0 _ rfl
          have r1 := R9.out.cell 1 _ rfl
          have r2 := R9.out.cell 2 _ rfl
          have r3 := R9.out.cell 3 _ rfl
          have r4 := R9.out.cell 4 _ rfl
          have r5 := R9.out.cell 5 _ rfl
          have r6 := R9.out.cell 6 _ rfl
          have g0 := R9.out.free 0 (by simp)
          have g1 := R9.out.free 1 (by simp)
          have g2 := R9.out.free 2 (by simp)
          have g3 := R9.out.free 3 (by simp)
          have g4 := R9.out.free 4 (by simp)
          have g5 := R9.out.free 5 (by simp)
          have g6 := R9.out.free 6 (by simp)
          clear R8 O8 k0 k1 k2 k3 k4 k5 k6 c7
          go_wp2_with fail
          have RF := Lib.hid (((((((R9.out.set 0 (by simp) (.int .i64 0)).set 1 (by simp) (.int .i64 0)).set 2 (by simp) (.int .i64 0)).set 3 (by simp) (.int .i64 0)).set 4 (by simp) (.int .i64 0)).set 5 (by simp) (.string ⟨#[]⟩)).set 6 (by simp) (.string ⟨#[]⟩))
          have z0 := RF.out.cell 0 _ rfl
          have z1 := RF.out.cell 1 _ rfl
          have z2 := RF.out.cell 2 _ rfl
          have z3 := RF.out.cell 3 _ rfl
          have z4 := RF.out.cell 4 _ rfl
          have z5 := RF.out.cell 5 _ rfl
          have z6 := RF.out.cell 6 _ rfl
          have bF := (((((((b9.setCell (p := ⟨w.heap.size, 0, none⟩) (Nat.le_refl _) (.int .i64 0)).setCell (p := ⟨w.heap.size, 1, none⟩) (Nat.le_refl _) (.int .i64 0)).setCell (p := ⟨w.heap.size, 2, none⟩) (Nat.le_refl _) (.int .i64 0)).setCell (p := ⟨w.heap.size, 3, none⟩) (Nat.le_refl _) (.int .i64 0)).setCell (p := ⟨w.heap.size, 4, none⟩) (Nat.le_refl _) (.int .i64 0)).setCell (p := ⟨w.heap.size, 5, none⟩) (Nat.le_refl _) (.string ⟨#[]⟩)).setCell (p := ⟨w.heap.size, 6, none⟩) (Nat.le_refl _) (.string ⟨#[]⟩))
          go_wp2_with fail
          refine bodyPost_ret (v := .tuple #[OV ⟨0, 0, 0, 0, 0, ⟨#[]⟩, ⟨#[]⟩⟩, .string ⟨#[]⟩, .int .i64 50]) (by simp [results, Try.results14, go_sem, z0, z1, z2, z3, z4, z5, z6]) rfl ⟨by rw [HV.out], bF⟩
end Go.Proofs.Ytjhllkjcaodcgaa
