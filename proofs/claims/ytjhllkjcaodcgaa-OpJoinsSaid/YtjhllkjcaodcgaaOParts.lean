/-
  The landed package op: the parts that one kind has, taken.
-/
import Derived.Test.YtjhllkjcaodcgaaOHead
namespace Go.Proofs.Ytjhllkjcaodcgaa
open Go.RowKit Go.Lib
/-- Bytes begin with a number, and a text, and r is behind. -/
def Mv (b : List UInt8) (n : Nat) (t r : List UInt8) : Prop := ∃ m, Vlq.Takes b n m ∧ TakesT m t r
theorem takes_size {s : ByteArray} {n : Nat} {r : List UInt8} (h : Vlq.Takes s.data.toList n r) : (ofL r).size ≤ s.size := by
  have := congrArg List.length h.1
  rw [List.length_append] at this
  have h2 : s.data.toList.length = s.size := by simp
  rw [ofL_size]; omega
def MtPost (o : Opn) (b : List UInt8) (w : World) (e : Ending) (w' : World) : Prop :=
  ((∃ n t r, Mv b n t r ∧ e = .returned (.tuple #[OV { o with p := (n : Int), s := ofL t }, .string (ofL r), .int .i64 0])) ∨
    ((∀ n t r, ¬ Mv b n t r) ∧ ∃ q x, e = .returned (.tuple #[OV q, .string x, .int .i64 40]))) ∧ Below w.heap.size w w'
def WtPost (o : Opn) (b : List UInt8) (w : World) (e : Ending) (w' : World) : Prop :=
  ((∃ t r, TakesT b t r ∧ e = .returned (.tuple #[OV { o with d := ofL t }, .string (ofL r), .int .i64 0])) ∨
    (NoTakeT b ∧ ∃ q x, e = .returned (.tuple #[OV q, .string x, .int .i64 40]))) ∧ Below w.heap.size w w'
set_option maxRecDepth 100000 in
set_option maxHeartbeats 4000000 in
theorem mtake_any (o : Opn) (s : ByteArray) (w : World) (hs : s.size ≤ 1000000) : Calls Try.prog 80 #[OV o, .string s] w fun e w' => MtPost o s.data.toList w e w' := by
  have hsz : ∀ o : Obj, (w.alloc o).heap.size = w.heap.size + 1 := fun o => by simp
  have M0 := Lib.hid ((cells_new w [.int .i64 o.c, .int .i64 o.r, .int .i64 o.k, .int .i64 o.n, .int .i64 o.p, .string o.s, .string o.d] 75).below (below_alloc _ (.cells #[.int .i64 0, .int .i64 0, .int .i64 0, .int .i64 0, .int .i64 0, .string ⟨#[]⟩, .string ⟨#[]⟩] 25)))
  have R0 := cells_new (w.alloc (.cells #[.int .i64 o.c, .int .i64 o.r, .int .i64 o.k, .int .i64 o.n, .int .i64 o.p, .string o.s, .string o.d] 75)) [.int .i64 0, .int .i64 0, .int .i64 0, .int .i64 0, .int .i64 0, .string ⟨#[]⟩, .string ⟨#[]⟩] 25
  rw [hsz] at R0
  have hR0 := Lib.hid R0
  clear R0 hsz
  by_cases ht : ∃ n t, Vlq.Takes s.data.toList n t
  · obtain ⟨n, m, ht⟩ := ht
    have HT := Lib.hid (fun w => take_yes s n m w hs ht)
    have HN := Lib.hid ht
    have hm := takes_size ht
    by_cases hu : ∃ t r, TakesT m t r
    · obtain ⟨t, r, hu⟩ := hu
      have HU := Lib.hid (fun w => tt_yes (ofL m) t r w (by omega) (by rw [data_ofL]; exact hu))
      have HM := Lib.hid (show Mv s.data.toList n t r from ⟨m, ht, hu⟩)
      clear ht hu hm
      go_enter Try.func80, Try.ntmps80
      go_wp2_with fail
      refine (HT.out _).mono ?_
      rintro e w1 ⟨rfl, c1⟩
      have b1 := step_a (below_alloc _ _) c1
      have M1 := Lib.hid (M0.out.below c1)
      have R1 := Lib.hid (hR0.out.below c1)
      have q4 := M1.out.cell 4 _ rfl
      have f4 := M1.out.free 4 (by simp)
      clear M0 hR0 c1
      go_wp2_with fail
      refine (HU.out _).mono ?_
      rintro e w2 ⟨rfl, c2⟩
      have b2 := step_b (b1.setCell (Nat.le_refl _) (.int .i64 n)) c2
      have M2 := Lib.hid ((M1.out.set 4 (by simp) (.int .i64 n)).below c2)
      have R2 := Lib.hid ((R1.out.other (g' := w.heap.size) (by omega) 4 (.int .i64 n)).below c2)
      have q5 := M2.out.cell 5 _ rfl
      have f5 := M2.out.free 5 (by simp)
      have M3 := Lib.hid (M2.out.set 5 (by simp) (.string (ofL t)))
      have R3 := Lib.hid (R2.out.other (g' := w.heap.size) (by omega) 5 (.string (ofL t)))
      have b3 := b2.setCell (p := ⟨w.heap.size, 5, none⟩) (Nat.le_refl _) (.string (ofL t))
      clear M1 R1 b1 c2 q4 f4
      have m0 := M3.out.cell 0 _ rfl
      have m1 := M3.out.cell 1 _ rfl
      have m2 := M3.out.cell 2 _ rfl
      have m3 := M3.out.cell 3 _ rfl
      have m4 := M3.out.cell 4 _ rfl
      have m5 := M3.out.cell 5 _ rfl
      have m6 := M3.out.cell 6 _ rfl
      have r0 := R3.out.cell 0 _ rfl
      have r1 := R3.out.cell 1 _ rfl
      have r2 := R3.out.cell 2 _ rfl
      have r3 := R3.out.cell 3 _ rfl
      have r4 := R3.out.cell 4 _ rfl
      have r5 := R3.out.cell 5 _ rfl
      have r6 := R3.out.cell 6 _ rfl
      have g0 := R3.out.free 0 (by simp)
      have g1 := R3.out.free 1 (by simp)
      have g2 := R3.out.free 2 (by simp)
      have g3 := R3.out.free 3 (by simp)
      have g4 := R3.out.free 4 (by simp)
      have g5 := R3.out.free 5 (by simp)
      have g6 := R3.out.free 6 (by simp)
      go_wp2_with fail
      have RF := Lib.hid (Cells.fill (p := zeroO) R3.out ⟨o.c, o.r, o.k, o.n, n, ofL t, o.d⟩)
      have bF := filled b3 (Nat.le_succ _) ⟨o.c, o.r, o.k, o.n, n, ofL t, o.d⟩
      have z0 := RF.out.cell 0 _ rfl
      have z1 := RF.out.cell 1 _ rfl
      have z2 := RF.out.cell 2 _ rfl
      have z3 := RF.out.cell 3 _ rfl
      have z4 := RF.out.cell 4 _ rfl
      have z5 := RF.out.cell 5 _ rfl
      have z6 := RF.out.cell 6 _ rfl
      simp only [setO] at z0 z1 z2 z3 z4 z5 z6
      refine bodyPost_ret (v := .tuple #[OV ⟨o.c, o.r, o.k, o.n, n, ofL t, o.d⟩, .string (ofL r), .int .i64 0]) (by simp [results, Try.results80, go_sem, z0, z1, z2, z3, z4, z5, z6]) rfl ⟨.inl ⟨n, t, r, HM.out, rfl⟩, bF⟩
    · have hu : NoTakeT m := fun t r h => hu ⟨t, r, h⟩
      have HU := Lib.hid (fun w => tt_no (ofL m) w (by omega) (by rw [data_ofL]; exact hu))
      have HM := Lib.hid (show ∀ n t r, ¬ Mv s.data.toList n t r from fun n' t r h => by
        obtain ⟨m', h1, h2⟩ := h
        obtain ⟨_, rfl⟩ := h1.inj ht
        exact hu _ _ h2)
      clear ht hu hm
      go_enter Try.func80, Try.ntmps80
      go_wp2_with fail
      refine (HT.out _).mono ?_
      rintro e w1 ⟨rfl, c1⟩
      have b1 := step_a (below_alloc _ _) c1
      have M1 := Lib.hid (M0.out.below c1)
      have R1 := Lib.hid (hR0.out.below c1)
      have q4 := M1.out.cell 4 _ rfl
      have f4 := M1.out.free 4 (by simp)
      clear M0 hR0 c1
      go_wp2_with fail
      refine (HU.out _).mono ?_
      rintro e w2 ⟨rfl, c2⟩
      have b2 := step_b (b1.setCell (Nat.le_refl _) (.int .i64 n)) c2
      have M2 := Lib.hid ((M1.out.set 4 (by simp) (.int .i64 n)).below c2)
      have R2 := Lib.hid ((R1.out.other (g' := w.heap.size) (by omega) 4 (.int .i64 n)).below c2)
      have q5 := M2.out.cell 5 _ rfl
      have f5 := M2.out.free 5 (by simp)
      have M3 := Lib.hid (M2.out.set 5 (by simp) (.string ⟨#[]⟩))
      have R3 := Lib.hid (R2.out.other (g' := w.heap.size) (by omega) 5 (.string ⟨#[]⟩))
      have b3 := b2.setCell (p := ⟨w.heap.size, 5, none⟩) (Nat.le_refl _) (.string ⟨#[]⟩)
      clear M1 R1 b1 c2 q4 f4
      have m0 := M3.out.cell 0 _ rfl
      have m1 := M3.out.cell 1 _ rfl
      have m2 := M3.out.cell 2 _ rfl
      have m3 := M3.out.cell 3 _ rfl
      have m4 := M3.out.cell 4 _ rfl
      have m5 := M3.out.cell 5 _ rfl
      have m6 := M3.out.cell 6 _ rfl
      have r0 := R3.out.cell 0 _ rfl
      have r1 := R3.out.cell 1 _ rfl
      have r2 := R3.out.cell 2 _ rfl
      have r3 := R3.out.cell 3 _ rfl
      have r4 := R3.out.cell 4 _ rfl
      have r5 := R3.out.cell 5 _ rfl
      have r6 := R3.out.cell 6 _ rfl
      have g0 := R3.out.free 0 (by simp)
      have g1 := R3.out.free 1 (by simp)
      have g2 := R3.out.free 2 (by simp)
      have g3 := R3.out.free 3 (by simp)
      have g4 := R3.out.free 4 (by simp)
      have g5 := R3.out.free 5 (by simp)
      have g6 := R3.out.free 6 (by simp)
      go_wp2_with fail
      have RF := Lib.hid (Cells.fill (p := zeroO) R3.out ⟨o.c, o.r, o.k, o.n, n, ⟨#[]⟩, o.d⟩)
      have bF := filled b3 (Nat.le_succ _) ⟨o.c, o.r, o.k, o.n, n, ⟨#[]⟩, o.d⟩
      have z0 := RF.out.cell 0 _ rfl
      have z1 := RF.out.cell 1 _ rfl
      have z2 := RF.out.cell 2 _ rfl
      have z3 := RF.out.cell 3 _ rfl
      have z4 := RF.out.cell 4 _ rfl
      have z5 := RF.out.cell 5 _ rfl
      have z6 := RF.out.cell 6 _ rfl
      simp only [setO] at z0 z1 z2 z3 z4 z5 z6
      refine bodyPost_ret (v := .tuple #[OV ⟨o.c, o.r, o.k, o.n, n, ⟨#[]⟩, o.d⟩, .string ⟨#[]⟩, .int .i64 40]) (by simp [results, Try.results80, go_sem, z0, z1, z2, z3, z4, z5, z6]) rfl ⟨.inr ⟨HM.out, _, _, rfl⟩, bF⟩
  · have ht : NoTake s.data.toList := fun n t h => ht ⟨n, t, h⟩
    have HT := Lib.hid (fun w => take_no s w hs ht)
    have HM := Lib.hid (show ∀ n t r, ¬ Mv s.data.toList n t r from fun n t r h => by
      obtain ⟨m', h1, _⟩ := h
      exact ht _ _ h1)
    clear ht
    go_enter Try.func80, Try.ntmps80
    go_wp2_with fail
    refine (HT.out _).mono ?_
    rintro e w1 ⟨rfl, c1⟩
    have b1 := step_a (below_alloc _ _) c1
    have M1 := Lib.hid (M0.out.below c1)
    have R1 := Lib.hid (hR0.out.below c1)
    have q4 := M1.out.cell 4 _ rfl
    have f4 := M1.out.free 4 (by simp)
    have R2 := Lib.hid (R1.out.other (g' := w.heap.size) (by omega) 4 (.int .i64 0))
    have b2 := b1.setCell (p := ⟨w.heap.size, 4, none⟩) (Nat.le_refl _) (.int .i64 0)
    clear M0 hR0 c1 R1
    have r0 := R2.out.cell 0 _ rfl
    have r1 := R2.out.cell 1 _ rfl
    have r2 := R2.out.cell 2 _ rfl
    have r3 := R2.out.cell 3 _ rfl
    have r4 := R2.out.cell 4 _ rfl
    have r5 := R2.out.cell 5 _ rfl
    have r6 := R2.out.cell 6 _ rfl
    have g0 := R2.out.free 0 (by simp)
    have g1 := R2.out.free 1 (by simp)
    have g2 := R2.out.free 2 (by simp)
    have g3 := R2.out.free 3 (by simp)
    have g4 := R2.out.free 4 (by simp)
    have g5 := R2.out.free 5 (by simp)
    have g6 := R2.out.free 6 (by simp)
    go_wp2_with fail
    have RF := Lib.hid (Cells.fill (p := zeroO) R2.out zeroO)
    have bF := filled b2 (Nat.le_succ _) zeroO
    have z0 := RF.out.cell 0 _ rfl
    have z1 := RF.out.cell 1 _ rfl
    have z2 := RF.out.cell 2 _ rfl
    have z3 := RF.out.cell 3 _ rfl
    have z4 := RF.out.cell 4 _ rfl
    have z5 := RF.out.cell 5 _ rfl
    have z6 := RF.out.cell 6 _ rfl
    simp only [setO, zeroO] at z0 z1 z2 z3 z4 z5 z6
    refine bodyPost_ret (v := .tuple #[OV zeroO, .string ⟨#[]⟩, .int .i64 40]) (by simp [results, Try.results80, go_sem, zeroO, z0, z1, z2, z3, z4, z5, z6]) rfl ⟨.inr ⟨HM.out, _, _, rfl⟩, bF⟩
set_option maxRecDepth 100000 in
set_option maxHeartbeats 4000000 in
theorem wtake_any (o : Opn) (s : ByteArray) (w : World) (hs : s.size ≤ 1000000) : Calls Try.prog 90 #[OV o, .string s] w fun e w' => WtPost o s.data.toList w e w' := by
  have hsz : ∀ o : Obj, (w.alloc o).heap.size = w.heap.size + 1 := fun o => by simp
  have M0 := Lib.hid ((cells_new w [.int .i64 o.c, .int .i64 o.r, .int .i64 o.k, .int .i64 o.n, .int .i64 o.p, .string o.s, .string o.d] 86).below (below_alloc _ (.cells #[.int .i64 0, .int .i64 0, .int .i64 0, .int .i64 0, .int .i64 0, .string ⟨#[]⟩, .string ⟨#[]⟩] 25)))
  have R0 := cells_new (w.alloc (.cells #[.int .i64 o.c, .int .i64 o.r, .int .i64 o.k, .int .i64 o.n, .int .i64 o.p, .string o.s, .string o.d] 86)) [.int .i64 0, .int .i64 0, .int .i64 0, .int .i64 0, .int .i64 0, .string ⟨#[]⟩, .string ⟨#[]⟩] 25
  rw [hsz] at R0
  have hR0 := Lib.hid R0
  clear R0 hsz
  by_cases hu : ∃ t r, TakesT s.data.toList t r
  · obtain ⟨t, r, hu⟩ := hu
    have HU := Lib.hid (fun w => tt_yes s t r w hs hu)
    have HM := Lib.hid hu
    clear hu
    go_enter Try.func90, Try.ntmps90
    go_wp2_with fail
    refine (HU.out _).mono ?_
    rintro e w1 ⟨rfl, c1⟩
    have b1 := step_a (below_alloc _ _) c1
    have M1 := Lib.hid (M0.out.below c1)
    have R1 := Lib.hid (hR0.out.below c1)
    have q6 := M1.out.cell 6 _ rfl
    have f6 := M1.out.free 6 (by simp)
    have M3 := Lib.hid (M1.out.set 6 (by simp) (.string (ofL t)))
    have R3 := Lib.hid (R1.out.other (g' := w.heap.size) (by omega) 6 (.string (ofL t)))
    have b3 := b1.setCell (p := ⟨w.heap.size, 6, none⟩) (Nat.le_refl _) (.string (ofL t))
    clear M0 hR0 c1
    have m0 := M3.out.cell 0 _ rfl
    have m1 := M3.out.cell 1 _ rfl
    have m2 := M3.out.cell 2 _ rfl
    have m3 := M3.out.cell 3 _ rfl
    have m4 := M3.out.cell 4 _ rfl
    have m5 := M3.out.cell 5 _ rfl
    have m6 := M3.out.cell 6 _ rfl
    have r0 := R3.out.cell 0 _ rfl
    have r1 := R3.out.cell 1 _ rfl
    have r2 := R3.out.cell 2 _ rfl
    have r3 := R3.out.cell 3 _ rfl
    have r4 := R3.out.cell 4 _ rfl
    have r5 := R3.out.cell 5 _ rfl
    have r6 := R3.out.cell 6 _ rfl
    have g0 := R3.out.free 0 (by simp)
    have g1 := R3.out.free 1 (by simp)
    have g2 := R3.out.free 2 (by simp)
    have g3 := R3.out.free 3 (by simp)
    have g4 := R3.out.free 4 (by simp)
    have g5 := R3.out.free 5 (by simp)
    have g6 := R3.out.free 6 (by simp)
    go_wp2_with fail
    have RF := Lib.hid (Cells.fill (p := zeroO) R3.out ⟨o.c, o.r, o.k, o.n, o.p, o.s, ofL t⟩)
    have bF := filled b3 (Nat.le_succ _) ⟨o.c, o.r, o.k, o.n, o.p, o.s, ofL t⟩
    have z0 := RF.out.cell 0 _ rfl
    have z1 := RF.out.cell 1 _ rfl
    have z2 := RF.out.cell 2 _ rfl
    have z3 := RF.out.cell 3 _ rfl
    have z4 := RF.out.cell 4 _ rfl
    have z5 := RF.out.cell 5 _ rfl
    have z6 := RF.out.cell 6 _ rfl
    simp only [setO] at z0 z1 z2 z3 z4 z5 z6
    refine bodyPost_ret (v := .tuple #[OV ⟨o.c, o.r, o.k, o.n, o.p, o.s, ofL t⟩, .string (ofL r), .int .i64 0]) (by simp [results, Try.results90, go_sem, z0, z1, z2, z3, z4, z5, z6]) rfl ⟨.inl ⟨t, r, HM.out, rfl⟩, bF⟩
  · have hu : NoTakeT s.data.toList := fun t r h => hu ⟨t, r, h⟩
    have HU := Lib.hid (fun w => tt_no s w hs hu)
    have HM := Lib.hid hu
    clear hu
    go_enter Try.func90, Try.ntmps90
    go_wp2_with fail
    refine (HU.out _).mono ?_
    rintro e w1 ⟨rfl, c1⟩
    have b1 := step_a (below_alloc _ _) c1
    have M1 := Lib.hid (M0.out.below c1)
    have R1 := Lib.hid (hR0.out.below c1)
    have q6 := M1.out.cell 6 _ rfl
    have f6 := M1.out.free 6 (by simp)
    have M3 := Lib.hid (M1.out.set 6 (by simp) (.string ⟨#[]⟩))
    have R3 := Lib.hid (R1.out.other (g' := w.heap.size) (by omega) 6 (.string ⟨#[]⟩))
    have b3 := b1.setCell (p := ⟨w.heap.size, 6, none⟩) (Nat.le_refl _) (.string ⟨#[]⟩)
    clear M0 hR0 c1
    have m0 := M3.out.cell 0 _ rfl
    have m1 := M3.out.cell 1 _ rfl
    have m2 := M3.out.cell 2 _ rfl
    have m3 := M3.out.cell 3 _ rfl
    have m4 := M3.out.cell 4 _ rfl
    have m5 := M3.out.cell 5 _ rfl
    have m6 := M3.out.cell 6 _ rfl
    have r0 := R3.out.cell 0 _ rfl
    have r1 := R3.out.cell 1 _ rfl
    have r2 := R3.out.cell 2 _ rfl
    have r3 := R3.out.cell 3 _ rfl
    have r4 := R3.out.cell 4 _ rfl
    have r5 := R3.out.cell 5 _ rfl
    have r6 := R3.out.cell 6 _ rfl
    have g0 := R3.out.free 0 (by simp)
    have g1 := R3.out.free 1 (by simp)
    have g2 := R3.out.free 2 (by simp)
    have g3 := R3.out.free 3 (by simp)
    have g4 := R3.out.free 4 (by simp)
    have g5 := R3.out.free 5 (by simp)
    have g6 := R3.out.free 6 (by simp)
    go_wp2_with fail
    have RF := Lib.hid (Cells.fill (p := zeroO) R3.out ⟨o.c, o.r, o.k, o.n, o.p, o.s, ⟨#[]⟩⟩)
    have bF := filled b3 (Nat.le_succ _) ⟨o.c, o.r, o.k, o.n, o.p, o.s, ⟨#[]⟩⟩
    have z0 := RF.out.cell 0 _ rfl
    have z1 := RF.out.cell 1 _ rfl
    have z2 := RF.out.cell 2 _ rfl
    have z3 := RF.out.cell 3 _ rfl
    have z4 := RF.out.cell 4 _ rfl
    have z5 := RF.out.cell 5 _ rfl
    have z6 := RF.out.cell 6 _ rfl
    simp only [setO] at z0 z1 z2 z3 z4 z5 z6
    refine bodyPost_ret (v := .tuple #[OV ⟨o.c, o.r, o.k, o.n, o.p, o.s, ⟨#[]⟩⟩, .string ⟨#[]⟩, .int .i64 40]) (by simp [results, Try.results90, go_sem, z0, z1, z2, z3, z4, z5, z6]) rfl ⟨.inr ⟨HM.out, _, _, rfl⟩, bF⟩
end Go.Proofs.Ytjhllkjcaodcgaa
