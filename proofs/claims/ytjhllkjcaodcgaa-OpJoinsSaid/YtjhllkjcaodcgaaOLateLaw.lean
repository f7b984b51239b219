/-
  OpLate: an operation is of what was made ahead of it, or at its time.
-/
import Derived.Test.YtjhllkjcaodcgaaOSizesLaw
namespace Go.Proofs.Ytjhllkjcaodcgaa
open Go.RowKit Go.Lib
theorem of_is (n : Int) (hn : I64 n) (w : World) :
    Calls Try.prog 26 #[.int .i64 n] w fun e w' => e = .returned (.tuple #[.agg #[.int .i64 (ofC n), .int .i64 (ofR n)], .bool (ofF n), .bool (isN n)]) ∧ Below w.heap.size w w' := by
  unfold I64 at hn
  by_cases h : 128 ≤ n ∧ n < 134217856
  · have hi : isN n = true := decide_eq_true h
    have hf : ofF n = decide (n % 2 = 1) := by unfold ofF; rw [hi]; rfl
    unfold ofC ofR
    rw [hf, hi]
    exact of_yes rfl h.1 h.2 w
  · have hi : isN n = false := decide_eq_false h
    have hf : ofF n = false := by unfold ofF; rw [hi]; rfl
    unfold ofC ofR
    rw [hf, hi]
    exact of_no (by omega) hn.1 hn.2 w
theorem late_no {o : Opn} {z : Int} (h : z < ofC o.n ∨ (isN o.p = true ∧ z < ofC o.p)) : mayO { o with c := z } = false := by
  unfold mayO
  have : lateB { o with c := z } = true := by
    unfold lateB
    rcases h with h | ⟨hp, h⟩
    · have : lessS z o.r (ofC o.n) (ofR o.n) = true := lessS_mk (.inl h)
      simp [this]
    · have : lessS z o.r (ofC o.p) (ofR o.p) = true := lessS_mk (.inl h)
      simp [this, hp]
  rw [this]; rfl
theorem isO_one (W : World) (o : Opn) (n : Nat) (hn : W.heap.size = n) : IsO (W.alloc (.cells #[.int .i64 o.c, .int .i64 o.r, .int .i64 o.k, .int .i64 o.n, .int .i64 o.p, .string o.s, .string o.d] 25)) (some ⟨n, 0, none⟩) 1 [o] := by
  subst hn
  exact isO_new W [o] 25
set_option maxRecDepth 100000 in
set_option maxHeartbeats 8000000 in
theorem olate_walk (o : Opn) (z : Int) (w : World) (hi : InO o) (_hz : (Lit.int .i64 z).wf = true) :
    Calls Try.prog 8 #[OV o, .int .i64 z] w fun e w' => e = .returned (.bool true) ∧ Below w.heap.size w w' := by
  clear _hz
  have CA0 := Lib.hid (cells_at w _ rfl (cellsO o) 25)
  obtain ⟨fb, hfb⟩ : ∃ b, fewO [o] 1 = b := ⟨_, rfl⟩
  have HF := Lib.hid (fun (W : World) a c (h : IsO W a c [o]) => rfew_any a c [o] 1 W h (by show 1 ≤ _; unfold maxLen; decide))
  rw [hfb] at HF
  have HC := Lib.hid (fun w => ochk_any o w hi.2.1 hi.1.2.2.2.1 hi.1.2.2.2.2)
  obtain ⟨mb, hmb⟩ : ∃ b, mayO o = b := ⟨_, rfl⟩
  rw [hmb] at HC
  have H1 := Lib.hid (fun w => of_is o.n hi.1.2.2.2.1 w)
  have H2 := Lib.hid (fun w => of_is o.p hi.1.2.2.2.2 w)
  obtain ⟨C, hC⟩ : ∃ x, ofC o.n = x := ⟨_, rfl⟩
  obtain ⟨R, hR⟩ : ∃ x, ofR o.n = x := ⟨_, rfl⟩
  obtain ⟨F, hF⟩ : ∃ x, ofF o.n = x := ⟨_, rfl⟩
  obtain ⟨D, hD⟩ : ∃ x, ofC o.p = x := ⟨_, rfl⟩
  obtain ⟨S, hS⟩ : ∃ x, ofR o.p = x := ⟨_, rfl⟩
  obtain ⟨G, hG⟩ : ∃ x, ofF o.p = x := ⟨_, rfl⟩
  obtain ⟨ib, hib⟩ : ∃ x, isN o.p = x := ⟨_, rfl⟩
  rw [hC, hR, hF] at H1
  rw [hD, hS, hG, hib] at H2
  have HL1 := Lib.hid (fun w => sless_any o.c o.r C R w)
  have HL2 := Lib.hid (fun w => sless_any o.c o.r D S w)
  have HCL := Lib.hid (fun w => ochk_any { o with c := z } w hi.2.1 hi.1.2.2.2.1 hi.1.2.2.2.2)
  have HE := Lib.hid (show (z < C ∨ (ib = true ∧ z < D)) → mayO { o with c := z } = false from fun h => late_no (by rw [hC, hib, hD]; exact h))
  have HM := Lib.hid (show mb = true → isN o.n = true ∧ lessS o.c o.r C R = false ∧ (ib = true → lessS o.c o.r D S = false) from fun e => by
    have h := hmb.trans e
    unfold mayO at h
    rw [Bool.and_eq_true, Bool.not_eq_true'] at h
    have h1 := h.1
    unfold lateB at h1
    simp only [Bool.or_eq_false_iff, Bool.not_eq_false'] at h1
    rw [← hC, ← hR, ← hD, ← hS]
    refine ⟨h1.2.1, h1.2.2.1, fun h2 => ?_⟩
    have h3 := h1.2.2.2
    rw [hib, h2, Bool.true_and] at h3
    exact h3)
  clear hfb hmb hC hR hF hD hS hG hib hi
  go_enter Try.func8, Try.ntmps8
  go_wp2_with fail
  refine (awake_any _).mono ?_
  rintro e w1 ⟨rfl, c1⟩
  have b1 := step_a (Below.refl _ _) c1
  have CA1 := Lib.hid (CA0.out.below c1)
  have a0 := CA1.out.cell 0 _ rfl
  have a1 := CA1.out.cell 1 _ rfl
  have a2 := CA1.out.cell 2 _ rfl
  have a3 := CA1.out.cell 3 _ rfl
  have a4 := CA1.out.cell 4 _ rfl
  have a5 := CA1.out.cell 5 _ rfl
  have a6 := CA1.out.cell 6 _ rfl
  clear CA0 c1
  go_wp2_with fail
  refine (HF.out _ _ _ (isO_one w1 o _ rfl)).mono ?_
  rintro e w2 ⟨rfl, rfl⟩
  have b2 := b1.alloc b1.size (.cells #[.int .i64 o.c, .int .i64 o.r, .int .i64 o.k, .int .i64 o.n, .int .i64 o.p, .string o.s, .string o.d] 25)
  have CA2 := Lib.hid (CA1.out.below (below_alloc w1 (.cells #[.int .i64 o.c, .int .i64 o.r, .int .i64 o.k, .int .i64 o.n, .int .i64 o.p, .string o.s, .string o.d] 25)))
  clear b1 CA1 a0 a1 a2 a3 a4 a5 a6
  generalize w1.alloc (.cells #[.int .i64 o.c, .int .i64 o.r, .int .i64 o.k, .int .i64 o.n, .int .i64 o.p, .string o.s, .string o.d] 25) = w2 at *
  have a0 := CA2.out.cell 0 _ rfl
  have a1 := CA2.out.cell 1 _ rfl
  have a2 := CA2.out.cell 2 _ rfl
  have a3 := CA2.out.cell 3 _ rfl
  have a4 := CA2.out.cell 4 _ rfl
  have a5 := CA2.out.cell 5 _ rfl
  have a6 := CA2.out.cell 6 _ rfl
  cases fb with
  | false =>
    go_wp2
    go_ret
    exact ⟨rfl, b2⟩
  | true =>
    go_wp2_with fail
    refine (HC.out _).mono ?_
    rintro e w3 ⟨rfl, c3⟩
    have b3 := step_b b2 c3
    have CA3 := Lib.hid (CA2.out.below c3)
    clear c3 b2 CA2 a0 a1 a2 a3 a4 a5 a6
    cases mb with
    | false =>
      go_wp2
      go_ret
      exact ⟨rfl, b3⟩
    | true =>
      obtain ⟨m1, m2, m3⟩ := HM.out rfl
      rw [m1] at H1
      rw [m2] at HL1
      have M3 := Lib.hid m3
      clear m1 m2 m3 HM
      have a0 := CA3.out.cell 0 _ rfl
      have a1 := CA3.out.cell 1 _ rfl
      have a2 := CA3.out.cell 2 _ rfl
      have a3 := CA3.out.cell 3 _ rfl
      have a4 := CA3.out.cell 4 _ rfl
      have a5 := CA3.out.cell 5 _ rfl
      have a6 := CA3.out.cell 6 _ rfl
      go_wp2_with fail
      refine (H1.out _).mono ?_
      rintro e w4 ⟨rfl, c4⟩
      have b4 := step_b b3 c4
      have CA4 := Lib.hid (CA3.out.below c4)
      clear c4 b3 CA3 a0 a1 a2 a3 a4 a5 a6
      have a0 := fun X => (CA4.out.below (below_alloc w4 X)).cell 0 _ rfl
      have a1 := fun X => (CA4.out.below (below_alloc w4 X)).cell 1 _ rfl
      have a2 := fun X => (CA4.out.below (below_alloc w4 X)).cell 2 _ rfl
      have a3 := fun X => (CA4.out.below (below_alloc w4 X)).cell 3 _ rfl
      have a4 := fun X => (CA4.out.below (below_alloc w4 X)).cell 4 _ rfl
      have a5 := fun X => (CA4.out.below (below_alloc w4 X)).cell 5 _ rfl
      have a6 := fun X => (CA4.out.below (below_alloc w4 X)).cell 6 _ rfl
      go_wp2_with fail
      refine (H2.out _).mono ?_
      rintro e w5 ⟨rfl, c5⟩
      have b5 := step_a b4 c5
      have CA5 := Lib.hid ((CA4.out.below (below_alloc _ _)).below c5)
      have CN5 := Lib.hid (show Cells w5 w4.heap.size [.int .i64 C, .int .i64 R] from (cells_at w4 _ rfl [.int .i64 C, .int .i64 R] 23).below c5)
      clear c5 b4 CA4 a0 a1 a2 a3 a4 a5 a6
      have a0 := fun X => (CA5.out.below (below_alloc w5 X)).cell 0 _ rfl
      have a1 := fun X => (CA5.out.below (below_alloc w5 X)).cell 1 _ rfl
      have a2 := fun X => (CA5.out.below (below_alloc w5 X)).cell 2 _ rfl
      have a3 := fun X => (CA5.out.below (below_alloc w5 X)).cell 3 _ rfl
      have a4 := fun X => (CA5.out.below (below_alloc w5 X)).cell 4 _ rfl
      have a5 := fun X => (CA5.out.below (below_alloc w5 X)).cell 5 _ rfl
      have a6 := fun X => (CA5.out.below (below_alloc w5 X)).cell 6 _ rfl
      have e0 := fun X Y => ((CA5.out.below (below_alloc w5 X)).below (below_alloc (w5.alloc X) Y)).cell 0 _ rfl
      have e1 := fun X Y => ((CA5.out.below (below_alloc w5 X)).below (below_alloc (w5.alloc X) Y)).cell 1 _ rfl
      have e2 := fun X Y => ((CA5.out.below (below_alloc w5 X)).below (below_alloc (w5.alloc X) Y)).cell 2 _ rfl
      have e3 := fun X Y => ((CA5.out.below (below_alloc w5 X)).below (below_alloc (w5.alloc X) Y)).cell 3 _ rfl
      have e4 := fun X Y => ((CA5.out.below (below_alloc w5 X)).below (below_alloc (w5.alloc X) Y)).cell 4 _ rfl
      have e5 := fun X Y => ((CA5.out.below (below_alloc w5 X)).below (below_alloc (w5.alloc X) Y)).cell 5 _ rfl
      have e6 := fun X Y => ((CA5.out.below (below_alloc w5 X)).below (below_alloc (w5.alloc X) Y)).cell 6 _ rfl
      have n0 := fun X Y => ((CN5.out.below (below_alloc w5 X)).below (below_alloc (w5.alloc X) Y)).cell 0 _ rfl
      have n1 := fun X Y => ((CN5.out.below (below_alloc w5 X)).below (below_alloc (w5.alloc X) Y)).cell 1 _ rfl
      have d0 := fun Y => ((cells_at w5 _ rfl [.int .i64 D, .int .i64 S] 23).below (below_alloc _ Y)).cell 0 _ rfl
      have d1 := fun Y => ((cells_at w5 _ rfl [.int .i64 D, .int .i64 S] 23).below (below_alloc _ Y)).cell 1 _ rfl
      cases ib with
      | false =>
        by_cases h1 : z < C
        · have g1 : decide (z < C) = true := decide_eq_true h1
          have HX := Lib.hid (HE.out (.inl h1))
          rw [HX.out] at HCL
          go_wp2_with fail
          refine (HL1.out _).mono ?_
          rintro e w6 ⟨rfl, c6⟩
          have b6 := step_a (b5.alloc b5.size _) c6
          have CA6 := Lib.hid (((CA5.out.below (below_alloc _ _)).below (below_alloc _ _)).below c6)
          have CD6 := Lib.hid (show Cells w6 w5.heap.size [.int .i64 D, .int .i64 S] from ((cells_at w5 _ rfl [.int .i64 D, .int .i64 S] 23).below (below_alloc _ _)).below c6)
          have CL6 := Lib.hid (show Cells w6 (w5.heap.size + 1) (cellsO { o with c := z }) from (cells_at (w5.alloc _) (w5.heap.size + 1) (by simp) (cellsO { o with c := z }) 25).below c6)
          clear c6 b5 CA5 CN5 a0 a1 a2 a3 a4 a5 a6 e0 e1 e2 e3 e4 e5 e6 n0 n1 d0 d1
          have a0 := CA6.out.cell 0 _ rfl
          have a1 := CA6.out.cell 1 _ rfl
          have a2 := CA6.out.cell 2 _ rfl
          have a3 := CA6.out.cell 3 _ rfl
          have a4 := CA6.out.cell 4 _ rfl
          have a5 := CA6.out.cell 5 _ rfl
          have a6 := CA6.out.cell 6 _ rfl
          have d0 := CD6.out.cell 0 _ rfl
          have d1 := CD6.out.cell 1 _ rfl
          have l0 := CL6.out.cell 0 _ rfl
          have l1 := CL6.out.cell 1 _ rfl
          have l2 := CL6.out.cell 2 _ rfl
          have l3 := CL6.out.cell 3 _ rfl
          have l4 := CL6.out.cell 4 _ rfl
          have l5 := CL6.out.cell 5 _ rfl
          have l6 := CL6.out.cell 6 _ rfl
          go_wp2_with fail
          refine (HCL.out _).mono ?_
          rintro e w7 ⟨rfl, c7⟩
          have b7 := step_b b6 c7
          have CA7 := Lib.hid (CA6.out.below c7)
          have CD7 := Lib.hid (CD6.out.below c7)
          have CL7 := Lib.hid (CL6.out.below c7)
          clear c7 b6 CA6 CD6 CL6 a0 a1 a2 a3 a4 a5 a6 d0 d1 l0 l1 l2 l3 l4 l5 l6
          go_wp2
          go_ret
          exact ⟨rfl, b7⟩
        · have g1 : decide (z < C) = false := decide_eq_false h1
          go_wp2_with fail
          refine (HL1.out _).mono ?_
          rintro e w6 ⟨rfl, c6⟩
          have b6 := step_a (b5.alloc b5.size _) c6
          have CA6 := Lib.hid (((CA5.out.below (below_alloc _ _)).below (below_alloc _ _)).below c6)
          have CD6 := Lib.hid (show Cells w6 w5.heap.size [.int .i64 D, .int .i64 S] from ((cells_at w5 _ rfl [.int .i64 D, .int .i64 S] 23).below (below_alloc _ _)).below c6)
          have CL6 := Lib.hid (show Cells w6 (w5.heap.size + 1) (cellsO { o with c := z }) from (cells_at (w5.alloc _) (w5.heap.size + 1) (by simp) (cellsO { o with c := z }) 25).below c6)
          clear c6 b5 CA5 CN5 a0 a1 a2 a3 a4 a5 a6 e0 e1 e2 e3 e4 e5 e6 n0 n1 d0 d1
          go_wp2
          go_ret
          exact ⟨rfl, b6⟩
      | true =>
        by_cases h1 : z < C
        · by_cases h2 : z < D
          · have g1 : decide (z < C) = true := decide_eq_true h1
            have g2 : decide (z < D) = true := decide_eq_true h2
            have HX := Lib.hid (HE.out (.inl h1))
            rw [HX.out] at HCL
            have HY := Lib.hid (M3.out rfl)
            rw [HY.out] at HL2
            go_wp2_with fail
            refine (HL1.out _).mono ?_
            rintro e w6 ⟨rfl, c6⟩
            have b6 := step_a (b5.alloc b5.size _) c6
            have CA6 := Lib.hid (((CA5.out.below (below_alloc _ _)).below (below_alloc _ _)).below c6)
            have CD6 := Lib.hid (show Cells w6 w5.heap.size [.int .i64 D, .int .i64 S] from ((cells_at w5 _ rfl [.int .i64 D, .int .i64 S] 23).below (below_alloc _ _)).below c6)
            have CL6 := Lib.hid (show Cells w6 (w5.heap.size + 1) (cellsO { o with c := z }) from (cells_at (w5.alloc _) (w5.heap.size + 1) (by simp) (cellsO { o with c := z }) 25).below c6)
            clear c6 b5 CA5 CN5 a0 a1 a2 a3 a4 a5 a6 e0 e1 e2 e3 e4 e5 e6 n0 n1 d0 d1
            have a0 := CA6.out.cell 0 _ rfl
            have a1 := CA6.out.cell 1 _ rfl
            have a2 := CA6.out.cell 2 _ rfl
            have a3 := CA6.out.cell 3 _ rfl
            have a4 := CA6.out.cell 4 _ rfl
            have a5 := CA6.out.cell 5 _ rfl
            have a6 := CA6.out.cell 6 _ rfl
            have d0 := CD6.out.cell 0 _ rfl
            have d1 := CD6.out.cell 1 _ rfl
            have l0 := CL6.out.cell 0 _ rfl
            have l1 := CL6.out.cell 1 _ rfl
            have l2 := CL6.out.cell 2 _ rfl
            have l3 := CL6.out.cell 3 _ rfl
            have l4 := CL6.out.cell 4 _ rfl
            have l5 := CL6.out.cell 5 _ rfl
            have l6 := CL6.out.cell 6 _ rfl
            go_wp2_with fail
            refine (HL2.out _).mono ?_
            rintro e w7 ⟨rfl, c7⟩
            have b7 := step_b b6 c7
            have CA7 := Lib.hid (CA6.out.below c7)
            have CD7 := Lib.hid (CD6.out.below c7)
            have CL7 := Lib.hid (CL6.out.below c7)
            clear c7 b6 CA6 CD6 CL6 a0 a1 a2 a3 a4 a5 a6 d0 d1 l0 l1 l2 l3 l4 l5 l6
            have a0 := CA7.out.cell 0 _ rfl
            have a1 := CA7.out.cell 1 _ rfl
            have a2 := CA7.out.cell 2 _ rfl
            have a3 := CA7.out.cell 3 _ rfl
            have a4 := CA7.out.cell 4 _ rfl
            have a5 := CA7.out.cell 5 _ rfl
            have a6 := CA7.out.cell 6 _ rfl
            have d0 := CD7.out.cell 0 _ rfl
            have d1 := CD7.out.cell 1 _ rfl
            have l0 := CL7.out.cell 0 _ rfl
            have l1 := CL7.out.cell 1 _ rfl
            have l2 := CL7.out.cell 2 _ rfl
            have l3 := CL7.out.cell 3 _ rfl
            have l4 := CL7.out.cell 4 _ rfl
            have l5 := CL7.out.cell 5 _ rfl
            have l6 := CL7.out.cell 6 _ rfl
            go_wp2_with fail
            refine (HCL.out _).mono ?_
            rintro e w8 ⟨rfl, c8⟩
            have b8 := step_b b7 c8
            have CA8 := Lib.hid (CA7.out.below c8)
            have CD8 := Lib.hid (CD7.out.below c8)
            have CL8 := Lib.hid (CL7.out.below c8)
            clear c8 b7 CA7 CD7 CL7 a0 a1 a2 a3 a4 a5 a6 d0 d1 l0 l1 l2 l3 l4 l5 l6
            go_wp2
            go_ret
            exact ⟨rfl, b8⟩
          · have g1 : decide (z < C) = true := decide_eq_true h1
            have g2 : decide (z < D) = false := decide_eq_false h2
            have HX := Lib.hid (HE.out (.inl h1))
            rw [HX.out] at HCL
            have HY := Lib.hid (M3.out rfl)
            rw [HY.out] at HL2
            go_wp2_with fail
            refine (HL1.out _).mono ?_
            rintro e w6 ⟨rfl, c6⟩
            have b6 := step_a (b5.alloc b5.size _) c6
            have CA6 := Lib.hid (((CA5.out.below (below_alloc _ _)).below (below_alloc _ _)).below c6)
            have CD6 := Lib.hid (show Cells w6 w5.heap.size [.int .i64 D, .int .i64 S] from ((cells_at w5 _ rfl [.int .i64 D, .int .i64 S] 23).below (below_alloc _ _)).below c6)
            have CL6 := Lib.hid (show Cells w6 (w5.heap.size + 1) (cellsO { o with c := z }) from (cells_at (w5.alloc _) (w5.heap.size + 1) (by simp) (cellsO { o with c := z }) 25).below c6)
            clear c6 b5 CA5 CN5 a0 a1 a2 a3 a4 a5 a6 e0 e1 e2 e3 e4 e5 e6 n0 n1 d0 d1
            have a0 := CA6.out.cell 0 _ rfl
            have a1 := CA6.out.cell 1 _ rfl
            have a2 := CA6.out.cell 2 _ rfl
            have a3 := CA6.out.cell 3 _ rfl
            have a4 := CA6.out.cell 4 _ rfl
            have a5 := CA6.out.cell 5 _ rfl
            have a6 := CA6.out.cell 6 _ rfl
            have d0 := CD6.out.cell 0 _ rfl
            have d1 := CD6.out.cell 1 _ rfl
            have l0 := CL6.out.cell 0 _ rfl
            have l1 := CL6.out.cell 1 _ rfl
            have l2 := CL6.out.cell 2 _ rfl
            have l3 := CL6.out.cell 3 _ rfl
            have l4 := CL6.out.cell 4 _ rfl
            have l5 := CL6.out.cell 5 _ rfl
            have l6 := CL6.out.cell 6 _ rfl
            go_wp2_with fail
            refine (HL2.out _).mono ?_
            rintro e w7 ⟨rfl, c7⟩
            have b7 := step_b b6 c7
            have CA7 := Lib.hid (CA6.out.below c7)
            have CD7 := Lib.hid (CD6.out.below c7)
            have CL7 := Lib.hid (CL6.out.below c7)
            clear c7 b6 CA6 CD6 CL6 a0 a1 a2 a3 a4 a5 a6 d0 d1 l0 l1 l2 l3 l4 l5 l6
            have a0 := CA7.out.cell 0 _ rfl
            have a1 := CA7.out.cell 1 _ rfl
            have a2 := CA7.out.cell 2 _ rfl
            have a3 := CA7.out.cell 3 _ rfl
            have a4 := CA7.out.cell 4 _ rfl
            have a5 := CA7.out.cell 5 _ rfl
            have a6 := CA7.out.cell 6 _ rfl
            have d0 := CD7.out.cell 0 _ rfl
            have d1 := CD7.out.cell 1 _ rfl
            have l0 := CL7.out.cell 0 _ rfl
            have l1 := CL7.out.cell 1 _ rfl
            have l2 := CL7.out.cell 2 _ rfl
            have l3 := CL7.out.cell 3 _ rfl
            have l4 := CL7.out.cell 4 _ rfl
            have l5 := CL7.out.cell 5 _ rfl
            have l6 := CL7.out.cell 6 _ rfl
            go_wp2_with fail
            refine (HCL.out _).mono ?_
            rintro e w8 ⟨rfl, c8⟩
            have b8 := step_b b7 c8
            have CA8 := Lib.hid (CA7.out.below c8)
            have CD8 := Lib.hid (CD7.out.below c8)
            have CL8 := Lib.hid (CL7.out.below c8)
            clear c8 b7 CA7 CD7 CL7 a0 a1 a2 a3 a4 a5 a6 d0 d1 l0 l1 l2 l3 l4 l5 l6
            go_wp2
            go_ret
            exact ⟨rfl, b8⟩
        · by_cases h2 : z < D
          · have g1 : decide (z < C) = false := decide_eq_false h1
            have g2 : decide (z < D) = true := decide_eq_true h2
            have HX := Lib.hid (HE.out (.inr ⟨rfl, h2⟩))
            rw [HX.out] at HCL
            have HY := Lib.hid (M3.out rfl)
            rw [HY.out] at HL2
            go_wp2_with fail
            refine (HL1.out _).mono ?_
            rintro e w6 ⟨rfl, c6⟩
            have b6 := step_a (b5.alloc b5.size _) c6
            have CA6 := Lib.hid (((CA5.out.below (below_alloc _ _)).below (below_alloc _ _)).below c6)
            have CD6 := Lib.hid (show Cells w6 w5.heap.size [.int .i64 D, .int .i64 S] from ((cells_at w5 _ rfl [.int .i64 D, .int .i64 S] 23).below (below_alloc _ _)).below c6)
            have CL6 := Lib.hid (show Cells w6 (w5.heap.size + 1) (cellsO { o with c := z }) from (cells_at (w5.alloc _) (w5.heap.size + 1) (by simp) (cellsO { o with c := z }) 25).below c6)
            clear c6 b5 CA5 CN5 a0 a1 a2 a3 a4 a5 a6 e0 e1 e2 e3 e4 e5 e6 n0 n1 d0 d1
            have a0 := CA6.out.cell 0 _ rfl
            have a1 := CA6.out.cell 1 _ rfl
            have a2 := CA6.out.cell 2 _ rfl
            have a3 := CA6.out.cell 3 _ rfl
            have a4 := CA6.out.cell 4 _ rfl
            have a5 := CA6.out.cell 5 _ rfl
            have a6 := CA6.out.cell 6 _ rfl
            have d0 := CD6.out.cell 0 _ rfl
            have d1 := CD6.out.cell 1 _ rfl
            have l0 := CL6.out.cell 0 _ rfl
            have l1 := CL6.out.cell 1 _ rfl
            have l2 := CL6.out.cell 2 _ rfl
            have l3 := CL6.out.cell 3 _ rfl
            have l4 := CL6.out.cell 4 _ rfl
            have l5 := CL6.out.cell 5 _ rfl
            have l6 := CL6.out.cell 6 _ rfl
            go_wp2_with fail
            refine (HL2.out _).mono ?_
            rintro e w7 ⟨rfl, c7⟩
            have b7 := step_b b6 c7
            have CA7 := Lib.hid (CA6.out.below c7)
            have CD7 := Lib.hid (CD6.out.below c7)
            have CL7 := Lib.hid (CL6.out.below c7)
            clear c7 b6 CA6 CD6 CL6 a0 a1 a2 a3 a4 a5 a6 d0 d1 l0 l1 l2 l3 l4 l5 l6
            have a0 := CA7.out.cell 0 _ rfl
            have a1 := CA7.out.cell 1 _ rfl
            have a2 := CA7.out.cell 2 _ rfl
            have a3 := CA7.out.cell 3 _ rfl
            have a4 := CA7.out.cell 4 _ rfl
            have a5 := CA7.out.cell 5 _ rfl
            have a6 := CA7.out.cell 6 _ rfl
            have d0 := CD7.out.cell 0 _ rfl
            have d1 := CD7.out.cell 1 _ rfl
            have l0 := CL7.out.cell 0 _ rfl
            have l1 := CL7.out.cell 1 _ rfl
            have l2 := CL7.out.cell 2 _ rfl
            have l3 := CL7.out.cell 3 _ rfl
            have l4 := CL7.out.cell 4 _ rfl
            have l5 := CL7.out.cell 5 _ rfl
            have l6 := CL7.out.cell 6 _ rfl
            go_wp2_with fail
            refine (HCL.out _).mono ?_
            rintro e w8 ⟨rfl, c8⟩
            have b8 := step_b b7 c8
            have CA8 := Lib.hid (CA7.out.below c8)
            have CD8 := Lib.hid (CD7.out.below c8)
            have CL8 := Lib.hid (CL7.out.below c8)
            clear c8 b7 CA7 CD7 CL7 a0 a1 a2 a3 a4 a5 a6 d0 d1 l0 l1 l2 l3 l4 l5 l6
            go_wp2
            go_ret
            exact ⟨rfl, b8⟩
          · have g1 : decide (z < C) = false := decide_eq_false h1
            have g2 : decide (z < D) = false := decide_eq_false h2
            have HY := Lib.hid (M3.out rfl)
            rw [HY.out] at HL2
            go_wp2_with fail
            refine (HL1.out _).mono ?_
            rintro e w6 ⟨rfl, c6⟩
            have b6 := step_a (b5.alloc b5.size _) c6
            have CA6 := Lib.hid (((CA5.out.below (below_alloc _ _)).below (below_alloc _ _)).below c6)
            have CD6 := Lib.hid (show Cells w6 w5.heap.size [.int .i64 D, .int .i64 S] from ((cells_at w5 _ rfl [.int .i64 D, .int .i64 S] 23).below (below_alloc _ _)).below c6)
            have CL6 := Lib.hid (show Cells w6 (w5.heap.size + 1) (cellsO { o with c := z }) from (cells_at (w5.alloc _) (w5.heap.size + 1) (by simp) (cellsO { o with c := z }) 25).below c6)
            clear c6 b5 CA5 CN5 a0 a1 a2 a3 a4 a5 a6 e0 e1 e2 e3 e4 e5 e6 n0 n1 d0 d1
            have a0 := CA6.out.cell 0 _ rfl
            have a1 := CA6.out.cell 1 _ rfl
            have a2 := CA6.out.cell 2 _ rfl
            have a3 := CA6.out.cell 3 _ rfl
            have a4 := CA6.out.cell 4 _ rfl
            have a5 := CA6.out.cell 5 _ rfl
            have a6 := CA6.out.cell 6 _ rfl
            have d0 := CD6.out.cell 0 _ rfl
            have d1 := CD6.out.cell 1 _ rfl
            have l0 := CL6.out.cell 0 _ rfl
            have l1 := CL6.out.cell 1 _ rfl
            have l2 := CL6.out.cell 2 _ rfl
            have l3 := CL6.out.cell 3 _ rfl
            have l4 := CL6.out.cell 4 _ rfl
            have l5 := CL6.out.cell 5 _ rfl
            have l6 := CL6.out.cell 6 _ rfl
            go_wp2_with fail
            refine (HL2.out _).mono ?_
            rintro e w7 ⟨rfl, c7⟩
            have b7 := step_b b6 c7
            have CA7 := Lib.hid (CA6.out.below c7)
            have CD7 := Lib.hid (CD6.out.below c7)
            have CL7 := Lib.hid (CL6.out.below c7)
            clear c7 b6 CA6 CD6 CL6 a0 a1 a2 a3 a4 a5 a6 d0 d1 l0 l1 l2 l3 l4 l5 l6
            go_wp2
            go_ret
            exact ⟨rfl, b7⟩
end Go.Proofs.Ytjhllkjcaodcgaa
