/-
  The landed package op: the numbers that bytes of an operation begin with.
-/
import Derived.Test.YtjhllkjcaodcgaaOPut
import Derived.Test.YtjhllkjcaodcgaaRTkO
namespace Go.Proofs.Ytjhllkjcaodcgaa
open Go.RowKit Go.Lib
/-- A struct of an operation, written whole. -/
def setO (w : World) (g : Nat) (o : Opn) : World :=
  ((((((w.setCell ⟨g, 0, none⟩ (.int .i64 o.c)).setCell ⟨g, 1, none⟩ (.int .i64 o.r)).setCell ⟨g, 2, none⟩ (.int .i64 o.k)).setCell ⟨g, 3, none⟩ (.int .i64 o.n)).setCell ⟨g, 4, none⟩ (.int .i64 o.p)).setCell ⟨g, 5, none⟩ (.string o.s)).setCell ⟨g, 6, none⟩ (.string o.d)
theorem Cells.fill {w : World} {g : Nat} {p : Opn} (h : Cells w g (cellsO p)) (o : Opn) : Cells (setO w g o) g (cellsO o) :=
  ((((((h.set 0 (by simp [cellsO]) (.int .i64 o.c)).set 1 (by simp [cellsO]) (.int .i64 o.r)).set 2 (by simp [cellsO]) (.int .i64 o.k)).set 3 (by simp [cellsO]) (.int .i64 o.n)).set 4 (by simp [cellsO]) (.int .i64 o.p)).set 5 (by simp [cellsO]) (.string o.s)).set 6 (by simp [cellsO]) (.string o.d)
theorem Cells.fillOther {w : World} {g g' : Nat} {vs : List Value} (h : Cells w g vs) (hne : g' ≠ g) (o : Opn) : Cells (setO w g' o) g vs :=
  ((((((h.other hne 0 (.int .i64 o.c)).other hne 1 (.int .i64 o.r)).other hne 2 (.int .i64 o.k)).other hne 3 (.int .i64 o.n)).other hne 4 (.int .i64 o.p)).other hne 5 (.string o.s)).other hne 6 (.string o.d)
theorem filled {B : Nat} {w w' : World} (h : Below B w w') {g : Nat} (hg : B ≤ g) (o : Opn) : Below B w (setO w' g o) :=
  ((((((h.setCell (p := ⟨g, 0, none⟩) hg (.int .i64 o.c)).setCell (p := ⟨g, 1, none⟩) hg (.int .i64 o.r)).setCell (p := ⟨g, 2, none⟩) hg (.int .i64 o.k)).setCell (p := ⟨g, 3, none⟩) hg (.int .i64 o.n)).setCell (p := ⟨g, 4, none⟩) hg (.int .i64 o.p)).setCell (p := ⟨g, 5, none⟩) hg (.string o.s)).setCell (p := ⟨g, 6, none⟩) hg (.string o.d)
/-- Bytes begin with the numbers ns, and r is behind. -/
def Hd (b : List UInt8) (ns : List Nat) (r : List UInt8) : Prop := b = ns.flatMap Vlq.one ++ r ∧ ∀ n ∈ ns, n < 9223372036854775808
theorem Hd.inj : ∀ {ns ms : List Nat} {b r t : List UInt8}, ns.length = ms.length → Hd b ns r → Hd b ms t → ns = ms ∧ r = t
  | [], [], b, r, t, _, h, k => ⟨rfl, by have := h.1.symm.trans k.1; simpa using this⟩
  | n :: ns, m :: ms, b, r, t, hl, h, k => by
    have e := h.1.symm.trans k.1
    rw [List.flatMap_cons, List.flatMap_cons, List.append_assoc, List.append_assoc] at e
    obtain ⟨rfl, e2⟩ := Vlq.one_inj e
    obtain ⟨rfl, e3⟩ := Hd.inj (ns := ns) (ms := ms) (by simpa using hl) ⟨rfl, fun x hx => h.2 x (by simp [hx])⟩ (t := t) ⟨e2, fun x hx => k.2 x (by simp [hx])⟩
    exact ⟨rfl, e3⟩
theorem Hd.snoc {b r t : List UInt8} {ns : List Nat} {n : Nat} (h : Hd b ns r) (k : Vlq.Takes r n t) : Hd b (ns ++ [n]) t := by
  refine ⟨?_, fun x hx => ?_⟩
  · rw [h.1, k.1]; simp
  · rcases List.mem_append.1 hx with hx | hx
    · exact h.2 x hx
    · rw [List.mem_singleton] at hx; rw [hx]; exact k.2
theorem Hd.no {b r : List UInt8} {ns : List Nat} (h : Hd b ns r) (hn : NoTake r) : ∀ ms t, ns.length < ms.length → ¬ Hd b ms t := fun ms t hl k => by
  obtain ⟨x, hx⟩ : ∃ x, ms[ns.length]? = some x := ⟨ms[ns.length], List.getElem?_eq_getElem hl⟩
  have hd : ms.drop ns.length = x :: ms.drop (ns.length + 1) := by
    rw [List.getElem?_eq_getElem hl] at hx
    cases hx
    exact List.drop_eq_getElem_cons hl
  have hs : ms = ms.take ns.length ++ (x :: ms.drop (ns.length + 1)) := by rw [← hd, List.take_append_drop]
  have h2 : Hd b (ms.take ns.length) (Vlq.one x ++ ((ms.drop (ns.length + 1)).flatMap Vlq.one ++ t)) := by
    refine ⟨?_, fun y hy => k.2 y (List.mem_of_mem_take hy)⟩
    have := k.1
    rw [hs, List.flatMap_append, List.flatMap_cons] at this
    rw [this]
    simp [List.append_assoc]
  obtain ⟨_, e⟩ := Hd.inj (by rw [List.length_take]; omega) h h2
  exact hn x _ ⟨e, k.2 x (List.mem_of_getElem? hx)⟩
def hdL (ns : List Nat) : List Value := ns.map (fun (n : Nat) => Value.int .i64 (n : Int)) ++ List.replicate (4 - ns.length) (.int .i64 0)
theorem hdL_set (ns : List Nat) (n : Nat) (h : ns.length < 4) : (hdL ns).set ns.length (.int .i64 (n : Int)) = hdL (ns ++ [n]) := by
  match ns, h with
  | [], _ => simp [hdL]
  | [_], _ => simp [hdL]
  | [_, _], _ => simp [hdL]
  | [_, _, _], _ => simp [hdL]
  | _ :: _ :: _ :: _ :: _, h => simp at h; omega
theorem hdL_at (ns : List Nat) (h : ns.length < 4) : (hdL ns)[ns.length]? = some (.int .i64 0) ∧ ns.length < (hdL ns).length := by
  match ns, h with
  | [], _ => simp [hdL]
  | [_], _ => simp [hdL]
  | [_, _], _ => simp [hdL]
  | [_, _, _], _ => simp [hdL]
  | _ :: _ :: _ :: _ :: _, h => simp at h; omega
theorem four (ns : List Nat) (h : ns.length = 4) : ∃ a b c d, ns = [a, b, c, d] := by
  match ns, h with
  | [a, b, c, d], _ => exact ⟨a, b, c, d, rfl⟩
def HdPost (b : List UInt8) (w : World) (e : Ending) (w' : World) : Prop :=
  ((∃ n0 n1 n2 n3 r, Hd b [n0, n1, n2, n3] r ∧ e = .returned (.tuple #[OV ⟨n0, n1, n2, n3, 0, ⟨#[]⟩, ⟨#[]⟩⟩, .string (ofL r), .int .i64 0])) ∨ ((∀ ns r, ns.length = 4 → ¬ Hd b ns r) ∧ e = .returned (.tuple #[OV zeroO, .string ⟨#[]⟩, .int .i64 40]))) ∧ Below w.heap.size w w'
set_option maxRecDepth 100000 in
set_option maxHeartbeats 4000000 in
theorem ohead_any (s : ByteArray) (w : World) (hs : s.size ≤ 1000000) : Calls Try.prog 48 #[.string s] w fun e w' => HdPost s.data.toList w e w' := by
  have hsz : ∀ o : Obj, (w.alloc o).heap.size = w.heap.size + 1 := fun o => by simp
  have R0 := Lib.hid ((cells_new w [.int .i64 0, .int .i64 0, .int .i64 0, .int .i64 0, .int .i64 0, .string ⟨#[]⟩, .string ⟨#[]⟩] 25).below (below_alloc _ (.cells #[.int .i64 0, .int .i64 0, .int .i64 0, .int .i64 0] 95)))
  have A0 := cells_new (w.alloc (.cells #[.int .i64 0, .int .i64 0, .int .i64 0, .int .i64 0, .int .i64 0, .string ⟨#[]⟩, .string ⟨#[]⟩] 25)) [.int .i64 0, .int .i64 0, .int .i64 0, .int .i64 0] 95
  rw [hsz] at A0
  have hA0 := Lib.hid A0
  clear A0 hsz
  go_enter Try.func48, Try.ntmps48
  go_wp2
  go_loopw [0, 6, 7, 9] (fun b e i j w' => ∃ (ns : List Nat) (r : List UInt8), Hd s.data.toList ns r ∧ ns.length ≤ 4 ∧ b = .string (ofL r) ∧ e = .int .i64 0 ∧ j = .int .i64 ns.length ∧ (∃ z, i = z) ∧ Cells w' (w.heap.size + 1) (hdL ns) ∧ Cells w' w.heap.size (cellsO zeroO) ∧ Below w.heap.size w w') (fun _ _ _ j _ => 4 - (RowKit.intOf j).toNat)
  case atStart => exact ⟨[], s.data.toList, ⟨by simp, by simp⟩, by simp, by rw [ofL_data], rfl, rfl, ⟨_, rfl⟩, hA0.out, R0.out, (below_alloc _ _).trans ((below_alloc _ _).mono (by simp))⟩
  case round =>
    obtain ⟨ns, r, hh, hl, rfl, rfl, rfl, ⟨z, rfl⟩, hA, hR, ck⟩ := hrel
    have HH := Lib.hid hh
    have hsz : (ofL r).size ≤ 1000000 := by
      have := congrArg List.length hh.1
      rw [List.length_append] at this
      have h2 : s.data.toList.length = s.size := by simp
      rw [ofL_size]; omega
    clear hh
    by_cases hk : ns.length < 4
    · obtain ⟨x1, x2⟩ := hdL_at ns hk
      have q1 := hA.cell _ _ x1
      have f1 := hA.free _ x2
      have HS := Lib.hid (hdL_set ns · hk)
      have HA := Lib.hid hA
      have HR := Lib.hid hR
      have X2 := Lib.hid x2
      clear hA hR x1 x2
      by_cases ht : ∃ n t, Vlq.Takes r n t
      · obtain ⟨n, t, ht⟩ := ht
        have HT := Lib.hid (fun w => take_yes (ofL r) n t w hsz (by rw [data_ofL]; exact ht))
        have HN := Lib.hid (HH.out.snoc ht)
        clear ht hsz
        go_wp2_with fail
        refine (HT.out _).mono ?_
        rintro e w1 ⟨rfl, c1⟩
        have b1 := step_b ck c1
        have A1 := Lib.hid (HA.out.below c1)
        have R1 := Lib.hid (HR.out.below c1)
        have q2 := A1.out.cell ns.length _ (hdL_at ns hk).1
        have f2 := A1.out.free ns.length X2.out
        clear q1 f1
        go_wp2_with fail
        go_roundw
        case rel => exact ⟨ns ++ [n], t, HN.out, by simp only [List.length_append, List.length_singleton]; omega, rfl, rfl, by simp, ⟨_, rfl⟩, by rw [← HS.out]; exact A1.out.set _ X2.out _, R1.out.other (by omega) _ _, b1.setCell (p := ⟨w.heap.size + 1, ns.length, none⟩) (Nat.le_succ _) _⟩
        case measure => simp [RowKit.intOf]; omega
      · have hno : NoTake r := fun n t h => ht ⟨n, t, h⟩
        have HT := Lib.hid (fun w => take_no (ofL r) w hsz (by rw [data_ofL]; exact hno))
        have HN := Lib.hid (show ∀ ms t, ms.length = 4 → ¬ Hd s.data.toList ms t from fun ms t h => HH.out.no hno ms t (by omega))
        clear ht hsz hno
        go_wp2_with fail
        refine (HT.out _).mono ?_
        rintro e w1 ⟨rfl, c1⟩
        have b1 := step_b ck c1
        have A1 := Lib.hid (HA.out.below c1)
        have R1 := Lib.hid (HR.out.below c1)
        have q2 := A1.out.cell ns.length _ (hdL_at ns hk).1
        have f2 := A1.out.free ns.length X2.out
        have R2 := Lib.hid (R1.out.other (g' := w.heap.size + 1) (by omega) ns.length (.int .i64 0))
        have b2 := b1.setCell (p := ⟨w.heap.size + 1, ns.length, none⟩) (Nat.le_succ _) (.int .i64 0)
        have r0 := R2.out.cell 0 _ rfl
        have r1 := R2.out.cell 1 _ rfl
        have r2 := R2.out.cell 2 _ rfl
        have r3 := R2.out.cell 3 _ rfl
        have r4 := R2.out.cell 4 _ rfl
        have r5 := R2.out.cell 5 _ rfl
        have r6 := R2.out.cell 6 _ rfl
        have g0 := R2.out.free 0 (by simp [cellsO])
        have g1 := R2.out.free 1 (by simp [cellsO])
        have g2 := R2.out.free 2 (by simp [cellsO])
        have g3 := R2.out.free 3 (by simp [cellsO])
        have g4 := R2.out.free 4 (by simp [cellsO])
        have g5 := R2.out.free 5 (by simp [cellsO])
        have g6 := R2.out.free 6 (by simp [cellsO])
        clear q1 f1
        go_wp2_with fail
        have RF := Lib.hid (R2.out.fill zeroO)
        have bF := filled b2 (Nat.le_refl _) zeroO
        have z0 := RF.out.cell 0 _ rfl
        have z1 := RF.out.cell 1 _ rfl
        have z2 := RF.out.cell 2 _ rfl
        have z3 := RF.out.cell 3 _ rfl
        have z4 := RF.out.cell 4 _ rfl
        have z5 := RF.out.cell 5 _ rfl
        have z6 := RF.out.cell 6 _ rfl
        simp only [setO, zeroO] at z0 z1 z2 z3 z4 z5 z6
        refine bodyPost_ret (v := .tuple #[OV zeroO, .string ⟨#[]⟩, .int .i64 40]) (by simp [results, Try.results48, go_sem, zeroO, z0, z1, z2, z3, z4, z5, z6]) rfl ⟨.inr ⟨HN.out, rfl⟩, bF⟩
    · have h4 : ns.length = 4 := by omega
      obtain ⟨n0, n1, n2, n3, rfl⟩ := four ns h4
      have HA := Lib.hid hA
      have HR := Lib.hid hR
      have q0 := HA.out.cell 0 _ rfl
      have q1 := HA.out.cell 1 _ rfl
      have q2 := HA.out.cell 2 _ rfl
      have q3 := HA.out.cell 3 _ rfl
      have p0 := fun X => (HA.out.below (below_alloc wr X)).cell 0 _ rfl
      have p1 := fun X => (HA.out.below (below_alloc wr X)).cell 1 _ rfl
      have p2 := fun X => (HA.out.below (below_alloc wr X)).cell 2 _ rfl
      have p3 := fun X => (HA.out.below (below_alloc wr X)).cell 3 _ rfl
      have r0 := fun X => (HR.out.below (below_alloc wr X)).cell 0 _ rfl
      have r1 := fun X => (HR.out.below (below_alloc wr X)).cell 1 _ rfl
      have r2 := fun X => (HR.out.below (below_alloc wr X)).cell 2 _ rfl
      have r3 := fun X => (HR.out.below (below_alloc wr X)).cell 3 _ rfl
      have r4 := fun X => (HR.out.below (below_alloc wr X)).cell 4 _ rfl
      have r5 := fun X => (HR.out.below (below_alloc wr X)).cell 5 _ rfl
      have r6 := fun X => (HR.out.below (below_alloc wr X)).cell 6 _ rfl
      have g0 := fun X => (HR.out.below (below_alloc wr X)).free 0 (by simp [cellsO])
      have g1 := fun X => (HR.out.below (below_alloc wr X)).free 1 (by simp [cellsO])
      have g2 := fun X => (HR.out.below (below_alloc wr X)).free 2 (by simp [cellsO])
      have g3 := fun X => (HR.out.below (below_alloc wr X)).free 3 (by simp [cellsO])
      have g4 := fun X => (HR.out.below (below_alloc wr X)).free 4 (by simp [cellsO])
      have g5 := fun X => (HR.out.below (below_alloc wr X)).free 5 (by simp [cellsO])
      have g6 := fun X => (HR.out.below (below_alloc wr X)).free 6 (by simp [cellsO])
      clear hA hR h4
      go_wp2_with fail
      have RF := Lib.hid ((HR.out.below (below_alloc wr (.cells #[.int .i64 (n0 : Int), .int .i64 (n1 : Int)] 23))).fill ⟨n0, n1, n2, n3, 0, ⟨#[]⟩, ⟨#[]⟩⟩)
      have bF := filled (ck.alloc ck.size (.cells #[.int .i64 (n0 : Int), .int .i64 (n1 : Int)] 23)) (Nat.le_refl _) ⟨n0, n1, n2, n3, 0, ⟨#[]⟩, ⟨#[]⟩⟩
      have z0 := RF.out.cell 0 _ rfl
      have z1 := RF.out.cell 1 _ rfl
      have z2 := RF.out.cell 2 _ rfl
      have z3 := RF.out.cell 3 _ rfl
      have z4 := RF.out.cell 4 _ rfl
      have z5 := RF.out.cell 5 _ rfl
      have z6 := RF.out.cell 6 _ rfl
      simp only [setO] at z0 z1 z2 z3 z4 z5 z6
      refine bodyPost_ret (v := .tuple #[OV ⟨n0, n1, n2, n3, 0, ⟨#[]⟩, ⟨#[]⟩⟩, .string (ofL r), .int .i64 0]) (by simp [results, Try.results48, go_sem, z0, z1, z2, z3, z4, z5, z6]) rfl ⟨.inl ⟨n0, n1, n2, n3, r, HH.out, rfl⟩, bF⟩
end Go.Proofs.Ytjhllkjcaodcgaa
