/-
  The landed package op: what one operation takes of bytes. (Written by wip/tools/gen_olead.py.)
-/
import Derived.Test.YtjhllkjcaodcgaaOLeadP
namespace Go.Proofs.Ytjhllkjcaodcgaa
open Go.RowKit Go.Lib
set_option maxRecDepth 100000 in
set_option maxHeartbeats 2000000 in
theorem olead_f (b f : ByteArray) (hf : b.extract 0 (min (134 : Int) (b.size : Int)).toNat = f) (hfl : f.size ≤ 134) (w : World) : Calls Try.prog 30 #[.string b] w fun e w' => LdPost f.data.toList w e w' := by
  have HF := Lib.hid hf
  clear hf
  go_enter Try.func30, Try.ntmps30
  go_wp2_with fail
  rw [HF.out]
  refine (ohead_any f _ (by omega)).mono ?_
  intro e w1 hP
  obtain ⟨hP, c1⟩ := hP
  have b1 := step_a (Below.refl _ _) c1
  have R1 := Lib.hid ((cells_new w [.int .i64 0, .int .i64 0, .int .i64 0, .int .i64 0, .int .i64 0, .string ⟨#[]⟩, .string ⟨#[]⟩] 25).below c1)
  clear c1
  rcases hP with ⟨n0, n1, n2, n3, r, hh, rfl⟩ | ⟨hno, rfl⟩
  · have HH := Lib.hid hh
    have hrl : (ofL r).size ≤ 134 := by
      have := congrArg List.length hh.1
      rw [List.length_append] at this
      have h2 : f.data.toList.length = f.size := by simp
      rw [ofL_size]; omega
    clear hh
    by_cases hk : n2 = 1
    · have HV := Lib.hid (show kindV ⟨n0, n1, n2, n3, 0, ⟨#[]⟩, ⟨#[]⟩⟩ = .iface 75 (OV ⟨n0, n1, n2, n3, 0, ⟨#[]⟩, ⟨#[]⟩⟩) by subst hk; rfl)
      have HK := Lib.hid hk
      clear hk
      go_wp2_with fail
      refine (kind_any ⟨n0, n1, n2, n3, 0, ⟨#[]⟩, ⟨#[]⟩⟩ _).mono ?_
      rintro e w2 ⟨rfl, c2⟩
      rw [HV.out]
      have b2 := step_a b1 c2
      have R2 := Lib.hid ((R1.out.below (below_alloc _ _)).below c2)
      have O2 := Lib.hid ((cells_new w1 [.int .i64 n0, .int .i64 n1, .int .i64 n2, .int .i64 n3, .int .i64 0, .string ⟨#[]⟩, .string ⟨#[]⟩] 25).below c2)
      have ln := b1.size
      have lw := R1.out.lt
      clear b1 c2 R1 HV
      go_wp2_with fail
      refine (mtake_any ⟨n0, n1, n2, n3, 0, ⟨#[]⟩, ⟨#[]⟩⟩ (ofL r) _ (by omega)).mono ?_
      intro e w3 hP
      obtain ⟨hP, c3⟩ := hP
      have b3 := step_b b2 c3
      have R3 := Lib.hid (R2.out.below c3)
      have O3 := Lib.hid (O2.out.below c3)
      clear b2 c3 R2 O2
      have k0 := O3.out.cell 0 _ rfl
      have k1 := O3.out.cell 1 _ rfl
      have k2 := O3.out.cell 2 _ rfl
      have k3 := O3.out.cell 3 _ rfl
      have k4 := O3.out.cell 4 _ rfl
      have k5 := O3.out.cell 5 _ rfl
      have k6 := O3.out.cell 6 _ rfl
      have f0 := O3.out.free 0 (by simp)
      have f1 := O3.out.free 1 (by simp)
      have f2 := O3.out.free 2 (by simp)
      have f3 := O3.out.free 3 (by simp)
      have f4 := O3.out.free 4 (by simp)
      have f5 := O3.out.free 5 (by simp)
      have f6 := O3.out.free 6 (by simp)
      rcases hP with ⟨n, t, r2, hmv, rfl⟩ | ⟨hno, q, x, rfl⟩
      · have hcut := mv_takes HH.out HK.out (by rw [data_ofL] at hmv; exact hmv)
        obtain ⟨rs, hrs⟩ : ∃ x, ofL r2 = x := ⟨_, rfl⟩
        have hsub : (f.size : Int) - (rs.size : Int) = ((opB ⟨n0, n1, n2, n3, n, ofL t, ⟨#[]⟩⟩).length : Nat) := by
          have h1 := congrArg List.length hcut
          rw [List.length_append] at h1
          have h2 : f.data.toList.length = f.size := by simp
          rw [← hrs, ofL_size]; omega
        have hrl : rs.size ≤ 1000 := by
          have : 0 ≤ (opB ⟨n0, n1, n2, n3, n, ofL t, ⟨#[]⟩⟩).length := Nat.zero_le _
          omega
        obtain ⟨tt, htt⟩ : ∃ x, ofL t = x := ⟨_, rfl⟩
        have htl : tt.size ≤ 1000 := by
          have h1 := congrArg List.length hcut
          rw [List.length_append] at h1
          have h2 : f.data.toList.length = f.size := by simp
          have h3 : (ofL t).size ≤ (opB ⟨n0, n1, n2, n3, n, ofL t, ⟨#[]⟩⟩).length := by
            rw [ofL_size]
            have hkk : n2 = 1 := HK.out
            subst hkk
            simp only [opB, txt, List.length_append]
            simp [data_ofL] <;> omega
          rw [← htt]; omega
        have HQ := Lib.hid (show ∀ q r, TakesO f.data.toList q r → q = ⟨n0, n1, n2, n3, n, ofL t, ⟨#[]⟩⟩ from fun q r' hq => (mv_is HH.out HK.out (by rw [data_ofL] at hmv; exact hmv) hq).1)
        rw [htt] at HQ hcut hsub
        rw [hrs]
        rw [htt]
        have hn63 : n < 9223372036854775808 := by
          obtain ⟨_, hx, _⟩ := hmv
          exact hx.2
        have HS := Lib.hid hsub
        have HT := Lib.hid hcut
        clear hsub hcut hrs htt hmv
        have R4 := Lib.hid (R3.out.fillOther (g' := w1.heap.size) (by omega) ⟨n0, n1, n2, n3, n, tt, ⟨#[]⟩⟩)
        have O4 := Lib.hid (Cells.fill (p := ⟨n0, n1, n2, n3, 0, ⟨#[]⟩, ⟨#[]⟩⟩) O3.out ⟨n0, n1, n2, n3, n, tt, ⟨#[]⟩⟩)
        have b4 := filled b3 (g := w1.heap.size) ln ⟨n0, n1, n2, n3, n, tt, ⟨#[]⟩⟩
        have m0 := O4.out.cell 0 _ rfl
        have m1 := O4.out.cell 1 _ rfl
        have m2 := O4.out.cell 2 _ rfl
        have m3 := O4.out.cell 3 _ rfl
        have m4 := O4.out.cell 4 _ rfl
        have m5 := O4.out.cell 5 _ rfl
        have m6 := O4.out.cell 6 _ rfl
        simp only [setO] at m0 m1 m2 m3 m4 m5 m6
        have hi : (-9223372036854775808 ≤ (n3 : Int) ∧ (n3 : Int) ≤ 9223372036854775807) := ⟨by omega, by have := HH.out.2 n3 (by simp); omega⟩
        have hi2 : (-9223372036854775808 ≤ (n : Int) ∧ (n : Int) ≤ 9223372036854775807) := ⟨by omega, by omega⟩
        cases hm : mayO ⟨n0, n1, n2, n3, n, tt, ⟨#[]⟩⟩ with
        | true =>
          have HC := Lib.hid (show ∀ w, Calls Try.prog 19 #[OV ⟨n0, n1, n2, n3, n, tt, ⟨#[]⟩⟩] w fun e w' => e = .returned (.bool true) ∧ Below w.heap.size w w' from fun w => by
            have := ochk_any ⟨n0, n1, n2, n3, n, tt, ⟨#[]⟩⟩ w (by simp only []; unfold maxLen; omega) hi hi2
            rwa [hm] at this)
          have HM := Lib.hid hm
          clear hm hi hi2
          go_wp2_with fail
          refine (HC.out _).mono ?_
          rintro e w5 ⟨rfl, c5⟩
          have b5 := step_b b4 c5
          have R5 := Lib.hid (R4.out.below c5)
          have O5 := Lib.hid (O4.out.below c5)
          clear b4 c5 R4 O4 O3 R3 b3 m0 m1 m2 m3 m4 m5 m6 k0 k1 k2 k3 k4 k5 k6 f0 f1 f2 f3 f4 f5 f6
          have m0 := O5.out.cell 0 _ rfl
          have m1 := O5.out.cell 1 _ rfl
          have m2 := O5.out.cell 2 _ rfl
          have m3 := O5.out.cell 3 _ rfl
          have m4 := O5.out.cell 4 _ rfl
          have m5 := O5.out.cell 5 _ rfl
          have m6 := O5.out.cell 6 _ rfl
          have r0 := R5.out.cell 0 _ rfl
          have r1 := R5.out.cell 1 _ rfl
          have r2 := R5.out.cell 2 _ rfl
          have r3 := R5.out.cell 3 _ rfl
          have r4 := R5.out.cell 4 _ rfl
          have r5 := R5.out.cell 5 _ rfl
          have r6 := R5.out.cell 6 _ rfl
          have g0 := R5.out.free 0 (by decide)
          have g1 := R5.out.free 1 (by decide)
          have g2 := R5.out.free 2 (by decide)
          have g3 := R5.out.free 3 (by decide)
          have g4 := R5.out.free 4 (by decide)
          have g5 := R5.out.free 5 (by decide)
          have g6 := R5.out.free 6 (by decide)
          go_wp2_with fail
          have RF := Lib.hid (Cells.fill (p := zeroO) R5.out ⟨n0, n1, n2, n3, n, tt, ⟨#[]⟩⟩)
          have bF := filled b5 (Nat.le_refl _) ⟨n0, n1, n2, n3, n, tt, ⟨#[]⟩⟩
          have z0 := RF.out.cell 0 _ rfl
          have z1 := RF.out.cell 1 _ rfl
          have z2 := RF.out.cell 2 _ rfl
          have z3 := RF.out.cell 3 _ rfl
          have z4 := RF.out.cell 4 _ rfl
          have z5 := RF.out.cell 5 _ rfl
          have z6 := RF.out.cell 6 _ rfl
          simp only [setO] at z0 z1 z2 z3 z4 z5 z6
          refine bodyPost_ret (v := .tuple #[OV ⟨n0, n1, n2, n3, n, tt, ⟨#[]⟩⟩, .int .i64 ((f.size : Int) - (rs.size : Int)), .int .i64 0]) (by simp [results, Try.results30, go_sem, z0, z1, z2, z3, z4, z5, z6]) rfl ⟨.inl ⟨_, _, ⟨HM.out, HT.out⟩, by rw [HS.out]⟩, bF⟩
        | false =>
          have HC := Lib.hid (show ∀ w, Calls Try.prog 19 #[OV ⟨n0, n1, n2, n3, n, tt, ⟨#[]⟩⟩] w fun e w' => e = .returned (.bool false) ∧ Below w.heap.size w w' from fun w => by
            have := ochk_any ⟨n0, n1, n2, n3, n, tt, ⟨#[]⟩⟩ w (by simp only []; unfold maxLen; omega) hi hi2
            rwa [hm] at this)
          have HN := Lib.hid (show NoTakeO f.data.toList from fun q r' hq => by
            have h2 := HQ.out q r' hq
            have h3 := hq.1
            rw [h2, hm] at h3
            cases h3)
          clear hm hi hi2
          go_wp2_with fail
          refine (HC.out _).mono ?_
          rintro e w5 ⟨rfl, c5⟩
          have b5 := step_b b4 c5
          have R5 := Lib.hid (R4.out.below c5)
          clear b4 c5 R4 O4 O3 R3 b3 m0 m1 m2 m3 m4 m5 m6 k0 k1 k2 k3 k4 k5 k6 f0 f1 f2 f3 f4 f5 f6
          have r0 := R5.out.cell 0 _ rfl
          have r1 := R5.out.cell 1 _ rfl
          have r2 := R5.out.cell 2 _ rfl
          have r3 := R5.out.cell 3 _ rfl
          have r4 := R5.out.cell 4 _ rfl
          have r5 := R5.out.cell 5 _ rfl
          have r6 := R5.out.cell 6 _ rfl
          have g0 := R5.out.free 0 (by decide)
          have g1 := R5.out.free 1 (by decide)
          have g2 := R5.out.free 2 (by decide)
          have g3 := R5.out.free 3 (by decide)
          have g4 := R5.out.free 4 (by decide)
          have g5 := R5.out.free 5 (by decide)
          have g6 := R5.out.free 6 (by decide)
          go_wp2_with fail
          have RF := Lib.hid (Cells.fill (p := zeroO) R5.out zeroO)
          have bF := filled b5 (Nat.le_refl _) zeroO
          have z0 := RF.out.cell 0 _ rfl
          have z1 := RF.out.cell 1 _ rfl
          have z2 := RF.out.cell 2 _ rfl
          have z3 := RF.out.cell 3 _ rfl
          have z4 := RF.out.cell 4 _ rfl
          have z5 := RF.out.cell 5 _ rfl
          have z6 := RF.out.cell 6 _ rfl
          simp only [setO, zeroO] at z0 z1 z2 z3 z4 z5 z6
          refine bodyPost_ret (v := .tuple #[OV zeroO, .int .i64 0, .int .i64 50]) (by simp [results, Try.results30, go_sem, zeroO, z0, z1, z2, z3, z4, z5, z6]) rfl ⟨.inr ⟨HN.out, rfl⟩, bF⟩
      · have HN := Lib.hid (show NoTakeO f.data.toList from fun q r' hq => by
          have h2 := mv_q HH.out HK.out hq
          rw [data_ofL] at hno
          exact hno _ _ _ h2)
        have R4 := Lib.hid (R3.out.fillOther (g' := w1.heap.size) (by omega) q)
        have b4 := filled b3 (g := w1.heap.size) ln q
        clear hno O3 R3 b3
        go_upto_region 7 with fail
        change Code.wp _ _ _ _ (setO w3 w1.heap.size q)
        generalize setO w3 w1.heap.size q = w4 at R4 b4 ⊢
        have r0 := R4.out.cell 0 _ rfl
        have r1 := R4.out.cell 1 _ rfl
        have r2 := R4.out.cell 2 _ rfl
        have r3 := R4.out.cell 3 _ rfl
        have r4 := R4.out.cell 4 _ rfl
        have r5 := R4.out.cell 5 _ rfl
        have r6 := R4.out.cell 6 _ rfl
        have g0 := R4.out.free 0 (by decide)
        have g1 := R4.out.free 1 (by decide)
        have g2 := R4.out.free 2 (by decide)
        have g3 := R4.out.free 3 (by decide)
        have g4 := R4.out.free 4 (by decide)
        have g5 := R4.out.free 5 (by decide)
        have g6 := R4.out.free 6 (by decide)
        go_wp2_with fail
        have RF := Lib.hid (Cells.fill (p := zeroO) R4.out zeroO)
        have bF := filled b4 (Nat.le_refl _) zeroO
        have z0 := RF.out.cell 0 _ rfl
        have z1 := RF.out.cell 1 _ rfl
        have z2 := RF.out.cell 2 _ rfl
        have z3 := RF.out.cell 3 _ rfl
        have z4 := RF.out.cell 4 _ rfl
        have z5 := RF.out.cell 5 _ rfl
        have z6 := RF.out.cell 6 _ rfl
        simp only [setO, zeroO] at z0 z1 z2 z3 z4 z5 z6
        refine bodyPost_ret (v := .tuple #[OV zeroO, .int .i64 0, .int .i64 50]) (by simp [results, Try.results30, go_sem, zeroO, z0, z1, z2, z3, z4, z5, z6]) rfl ⟨.inr ⟨HN.out, rfl⟩, bF⟩
    · have hk1 := hk
      clear hk
      by_cases hk : n2 = 2
      · have HV := Lib.hid (show kindV ⟨n0, n1, n2, n3, 0, ⟨#[]⟩, ⟨#[]⟩⟩ = .iface 86 (OV ⟨n0, n1, n2, n3, 0, ⟨#[]⟩, ⟨#[]⟩⟩) by subst hk; rfl)
        have HK := Lib.hid hk
        clear hk
        go_wp2_with fail
        refine (kind_any ⟨n0, n1, n2, n3, 0, ⟨#[]⟩, ⟨#[]⟩⟩ _).mono ?_
        rintro e w2 ⟨rfl, c2⟩
        rw [HV.out]
        have b2 := step_a b1 c2
        have R2 := Lib.hid ((R1.out.below (below_alloc _ _)).below c2)
        have O2 := Lib.hid ((cells_new w1 [.int .i64 n0, .int .i64 n1, .int .i64 n2, .int .i64 n3, .int .i64 0, .string ⟨#[]⟩, .string ⟨#[]⟩] 25).below c2)
        have ln := b1.size
        have lw := R1.out.lt
        clear b1 c2 R1 HV
        go_wp2_with fail
        refine (wtake_any ⟨n0, n1, n2, n3, 0, ⟨#[]⟩, ⟨#[]⟩⟩ (ofL r) _ (by omega)).mono ?_
        intro e w3 hP
        obtain ⟨hP, c3⟩ := hP
        have b3 := step_b b2 c3
        have R3 := Lib.hid (R2.out.below c3)
        have O3 := Lib.hid (O2.out.below c3)
        clear b2 c3 R2 O2
        have k0 := O3.out.cell 0 _ rfl
        have k1 := O3.out.cell 1 _ rfl
        have k2 := O3.out.cell 2 _ rfl
        have k3 := O3.out.cell 3 _ rfl
        have k4 := O3.out.cell 4 _ rfl
        have k5 := O3.out.cell 5 _ rfl
        have k6 := O3.out.cell 6 _ rfl
        have f0 := O3.out.free 0 (by simp)
        have f1 := O3.out.free 1 (by simp)
        have f2 := O3.out.free 2 (by simp)
        have f3 := O3.out.free 3 (by simp)
        have f4 := O3.out.free 4 (by simp)
        have f5 := O3.out.free 5 (by simp)
        have f6 := O3.out.free 6 (by simp)
        rcases hP with ⟨t, r2, hmv, rfl⟩ | ⟨hno, q, x, rfl⟩
        · have hcut := wt_takes HH.out HK.out (by rw [data_ofL] at hmv; exact hmv)
          obtain ⟨rs, hrs⟩ : ∃ x, ofL r2 = x := ⟨_, rfl⟩
          have hsub : (f.size : Int) - (rs.size : Int) = ((opB ⟨n0, n1, n2, n3, 0, ⟨#[]⟩, ofL t⟩).length : Nat) := by
            have h1 := congrArg List.length hcut
            rw [List.length_append] at h1
            have h2 : f.data.toList.length = f.size := by simp
            rw [← hrs, ofL_size]; omega
          have hrl : rs.size ≤ 1000 := by
            have : 0 ≤ (opB ⟨n0, n1, n2, n3, 0, ⟨#[]⟩, ofL t⟩).length := Nat.zero_le _
            omega
          obtain ⟨tt, htt⟩ : ∃ x, ofL t = x := ⟨_, rfl⟩
          have htl : tt.size ≤ 1000 := by
            have h1 := congrArg List.length hcut
            rw [List.length_append] at h1
            have h2 : f.data.toList.length = f.size := by simp
            have h3 : (ofL t).size ≤ (opB ⟨n0, n1, n2, n3, 0, ⟨#[]⟩, ofL t⟩).length := by
              rw [ofL_size]
              have hkk : n2 = 2 := HK.out
              subst hkk
              simp only [opB, txt, List.length_append]
              simp [data_ofL] <;> omega
            rw [← htt]; omega
          have HQ := Lib.hid (show ∀ q r, TakesO f.data.toList q r → q = ⟨n0, n1, n2, n3, 0, ⟨#[]⟩, ofL t⟩ from fun q r' hq => (wt_is HH.out HK.out (by rw [data_ofL] at hmv; exact hmv) hq).1)
          rw [htt] at HQ hcut hsub
          rw [hrs]
          rw [htt]
          have HS := Lib.hid hsub
          have HT := Lib.hid hcut
          clear hsub hcut hrs htt hmv
          have R4 := Lib.hid (R3.out.fillOther (g' := w1.heap.size) (by omega) ⟨n0, n1, n2, n3, 0, ⟨#[]⟩, tt⟩)
          have O4 := Lib.hid (Cells.fill (p := ⟨n0, n1, n2, n3, 0, ⟨#[]⟩, ⟨#[]⟩⟩) O3.out ⟨n0, n1, n2, n3, 0, ⟨#[]⟩, tt⟩)
          have b4 := filled b3 (g := w1.heap.size) ln ⟨n0, n1, n2, n3, 0, ⟨#[]⟩, tt⟩
          have m0 := O4.out.cell 0 _ rfl
          have m1 := O4.out.cell 1 _ rfl
          have m2 := O4.out.cell 2 _ rfl
          have m3 := O4.out.cell 3 _ rfl
          have m4 := O4.out.cell 4 _ rfl
          have m5 := O4.out.cell 5 _ rfl
          have m6 := O4.out.cell 6 _ rfl
          simp only [setO] at m0 m1 m2 m3 m4 m5 m6
          have hi : (-9223372036854775808 ≤ (n3 : Int) ∧ (n3 : Int) ≤ 9223372036854775807) := ⟨by omega, by have := HH.out.2 n3 (by simp); omega⟩
          have hi2 : (-9223372036854775808 ≤ (0 : Int) ∧ (0 : Int) ≤ 9223372036854775807) := by decide
          cases hm : mayO ⟨n0, n1, n2, n3, 0, ⟨#[]⟩, tt⟩ with
          | true =>
            have HC := Lib.hid (show ∀ w, Calls Try.prog 19 #[OV ⟨n0, n1, n2, n3, 0, ⟨#[]⟩, tt⟩] w fun e w' => e = .returned (.bool true) ∧ Below w.heap.size w w' from fun w => by
              have := ochk_any ⟨n0, n1, n2, n3, 0, ⟨#[]⟩, tt⟩ w (by simp only []; unfold maxLen; decide) hi hi2
              rwa [hm] at this)
            have HM := Lib.hid hm
            clear hm hi hi2
            go_wp2_with fail
            refine (HC.out _).mono ?_
            rintro e w5 ⟨rfl, c5⟩
            have b5 := step_b b4 c5
            have R5 := Lib.hid (R4.out.below c5)
            have O5 := Lib.hid (O4.out.below c5)
            clear b4 c5 R4 O4 O3 R3 b3 m0 m1 m2 m3 m4 m5 m6 k0 k1 k2 k3 k4 k5 k6 f0 f1 f2 f3 f4 f5 f6
            have m0 := O5.out.cell 0 _ rfl
            have m1 := O5.out.cell 1 _ rfl
            have m2 := O5.out.cell 2 _ rfl
            have m3 := O5.out.cell 3 _ rfl
            have m4 := O5.out.cell 4 _ rfl
            have m5 := O5.out.cell 5 _ rfl
            have m6 := O5.out.cell 6 _ rfl
            have r0 := R5.out.cell 0 _ rfl
            have r1 := R5.out.cell 1 _ rfl
            have r2 := R5.out.cell 2 _ rfl
            have r3 := R5.out.cell 3 _ rfl
            have r4 := R5.out.cell 4 _ rfl
            have r5 := R5.out.cell 5 _ rfl
            have r6 := R5.out.cell 6 _ rfl
            have g0 := R5.out.free 0 (by decide)
            have g1 := R5.out.free 1 (by decide)
            have g2 := R5.out.free 2 (by decide)
            have g3 := R5.out.free 3 (by decide)
            have g4 := R5.out.free 4 (by decide)
            have g5 := R5.out.free 5 (by decide)
            have g6 := R5.out.free 6 (by decide)
            go_wp2_with fail
            have RF := Lib.hid (Cells.fill (p := zeroO) R5.out ⟨n0, n1, n2, n3, 0, ⟨#[]⟩, tt⟩)
            have bF := filled b5 (Nat.le_refl _) ⟨n0, n1, n2, n3, 0, ⟨#[]⟩, tt⟩
            have z0 := RF.out.cell 0 _ rfl
            have z1 := RF.out.cell 1 _ rfl
            have z2 := RF.out.cell 2 _ rfl
            have z3 := RF.out.cell 3 _ rfl
            have z4 := RF.out.cell 4 _ rfl
            have z5 := RF.out.cell 5 _ rfl
            have z6 := RF.out.cell 6 _ rfl
            simp only [setO] at z0 z1 z2 z3 z4 z5 z6
            refine bodyPost_ret (v := .tuple #[OV ⟨n0, n1, n2, n3, 0, ⟨#[]⟩, tt⟩, .int .i64 ((f.size : Int) - (rs.size : Int)), .int .i64 0]) (by simp [results, Try.results30, go_sem, z0, z1, z2, z3, z4, z5, z6]) rfl ⟨.inl ⟨_, _, ⟨HM.out, HT.out⟩, by rw [HS.out]⟩, bF⟩
          | false =>
            have HC := Lib.hid (show ∀ w, Calls Try.prog 19 #[OV ⟨n0, n1, n2, n3, 0, ⟨#[]⟩, tt⟩] w fun e w' => e = .returned (.bool false) ∧ Below w.heap.size w w' from fun w => by
              have := ochk_any ⟨n0, n1, n2, n3, 0, ⟨#[]⟩, tt⟩ w (by simp only []; unfold maxLen; decide) hi hi2
              rwa [hm] at this)
            have HN := Lib.hid (show NoTakeO f.data.toList from fun q r' hq => by
              have h2 := HQ.out q r' hq
              have h3 := hq.1
              rw [h2, hm] at h3
              cases h3)
            clear hm hi hi2
            go_wp2_with fail
            refine (HC.out _).mono ?_
            rintro e w5 ⟨rfl, c5⟩
            have b5 := step_b b4 c5
            have R5 := Lib.hid (R4.out.below c5)
            clear b4 c5 R4 O4 O3 R3 b3 m0 m1 m2 m3 m4 m5 m6 k0 k1 k2 k3 k4 k5 k6 f0 f1 f2 f3 f4 f5 f6
            have r0 := R5.out.cell 0 _ rfl
            have r1 := R5.out.cell 1 _ rfl
            have r2 := R5.out.cell 2 _ rfl
            have r3 := R5.out.cell 3 _ rfl
            have r4 := R5.out.cell 4 _ rfl
            have r5 := R5.out.cell 5 _ rfl
            have r6 := R5.out.cell 6 _ rfl
            have g0 := R5.out.free 0 (by decide)
            have g1 := R5.out.free 1 (by decide)
            have g2 := R5.out.free 2 (by decide)
            have g3 := R5.out.free 3 (by decide)
            have g4 := R5.out.free 4 (by decide)
            have g5 := R5.out.free 5 (by decide)
            have g6 := R5.out.free 6 (by decide)
            go_wp2_with fail
            have RF := Lib.hid (Cells.fill (p := zeroO) R5.out zeroO)
            have bF := filled b5 (Nat.le_refl _) zeroO
            have z0 := RF.out.cell 0 _ rfl
            have z1 := RF.out.cell 1 _ rfl
            have z2 := RF.out.cell 2 _ rfl
            have z3 := RF.out.cell 3 _ rfl
            have z4 := RF.out.cell 4 _ rfl
            have z5 := RF.out.cell 5 _ rfl
            have z6 := RF.out.cell 6 _ rfl
            simp only [setO, zeroO] at z0 z1 z2 z3 z4 z5 z6
            refine bodyPost_ret (v := .tuple #[OV zeroO, .int .i64 0, .int .i64 50]) (by simp [results, Try.results30, go_sem, zeroO, z0, z1, z2, z3, z4, z5, z6]) rfl ⟨.inr ⟨HN.out, rfl⟩, bF⟩
        · have HN := Lib.hid (show NoTakeO f.data.toList from fun q r' hq => by
            have h2 := wt_q HH.out HK.out hq
            rw [data_ofL] at hno
            exact hno _ _ h2)
          have R4 := Lib.hid (R3.out.fillOther (g' := w1.heap.size) (by omega) q)
          have b4 := filled b3 (g := w1.heap.size) ln q
          clear hno O3 R3 b3
          go_upto_region 7 with fail
          change Code.wp _ _ _ _ (setO w3 w1.heap.size q)
          generalize setO w3 w1.heap.size q = w4 at R4 b4 ⊢
          have r0 := R4.out.cell 0 _ rfl
          have r1 := R4.out.cell 1 _ rfl
          have r2 := R4.out.cell 2 _ rfl
          have r3 := R4.out.cell 3 _ rfl
          have r4 := R4.out.cell 4 _ rfl
          have r5 := R4.out.cell 5 _ rfl
          have r6 := R4.out.cell 6 _ rfl
          have g0 := R4.out.free 0 (by decide)
          have g1 := R4.out.free 1 (by decide)
          have g2 := R4.out.free 2 (by decide)
          have g3 := R4.out.free 3 (by decide)
          have g4 := R4.out.free 4 (by decide)
          have g5 := R4.out.free 5 (by decide)
          have g6 := R4.out.free 6 (by decide)
          go_wp2_with fail
          have RF := Lib.hid (Cells.fill (p := zeroO) R4.out zeroO)
          have bF := filled b4 (Nat.le_refl _) zeroO
          have z0 := RF.out.cell 0 _ rfl
          have z1 := RF.out.cell 1 _ rfl
          have z2 := RF.out.cell 2 _ rfl
          have z3 := RF.out.cell 3 _ rfl
          have z4 := RF.out.cell 4 _ rfl
          have z5 := RF.out.cell 5 _ rfl
          have z6 := RF.out.cell 6 _ rfl
          simp only [setO, zeroO] at z0 z1 z2 z3 z4 z5 z6
          refine bodyPost_ret (v := .tuple #[OV zeroO, .int .i64 0, .int .i64 50]) (by simp [results, Try.results30, go_sem, zeroO, z0, z1, z2, z3, z4, z5, z6]) rfl ⟨.inr ⟨HN.out, rfl⟩, bF⟩
      · have HV := Lib.hid (show kindV ⟨n0, n1, n2, n3, 0, ⟨#[]⟩, ⟨#[]⟩⟩ = .nilIface by unfold kindV; rw [if_neg (by simp only []; omega), if_neg (by simp only []; omega)])
        have HN := Lib.hid (show NoTakeO f.data.toList from fun q r' hq => by
          obtain ⟨_, _, ek, _, _⟩ := hd_q HH.out hq
          obtain ⟨_, _, h3⟩ := mayO_parts hq.1
          rcases h3 with ⟨h3, _⟩ | ⟨h3, _⟩ <;> omega)
        clear hk hk1
        go_wp2_with fail
        refine (kind_any ⟨n0, n1, n2, n3, 0, ⟨#[]⟩, ⟨#[]⟩⟩ _).mono ?_
        rintro e w2 ⟨rfl, c2⟩
        rw [HV.out]
        have b2 := step_a b1 c2
        have R2 := Lib.hid ((R1.out.below (below_alloc _ _)).below c2)
        clear b1 c2 R1 HV
        have r0 := R2.out.cell 0 _ rfl
        have r1 := R2.out.cell 1 _ rfl
        have r2 := R2.out.cell 2 _ rfl
        have r3 := R2.out.cell 3 _ rfl
        have r4 := R2.out.cell 4 _ rfl
        have r5 := R2.out.cell 5 _ rfl
        have r6 := R2.out.cell 6 _ rfl
        have g0 := R2.out.free 0 (by simp)
        have g1 := R2.out.free 1 (by simp)
        have g2 := R2.out.free 2 (by simp)
        have g3 := R2.out.free 3 (by simp)
        have g4 := R2.out.free 4 (by simp)
        have g5 := R2.out.free 5 (by simp)
        have g6 := R2.out.free 6 (by simp)
        go_wp2_with fail
        have RF := Lib.hid (Cells.fill (p := zeroO) R2.out zeroO)
        have bF := filled b2 (Nat.le_refl _) zeroO
        have z0 := RF.out.cell 0 _ rfl
        have z1 := RF.out.cell 1 _ rfl
        have z2 := RF.out.cell 2 _ rfl
        have z3 := RF.out.cell 3 _ rfl
        have z4 := RF.out.cell 4 _ rfl
        have z5 := RF.out.cell 5 _ rfl
        have z6 := RF.out.cell 6 _ rfl
        simp only [setO, zeroO] at z0 z1 z2 z3 z4 z5 z6
        refine bodyPost_ret (v := .tuple #[OV zeroO, .int .i64 0, .int .i64 50]) (by simp [results, Try.results30, go_sem, zeroO, z0, z1, z2, z3, z4, z5, z6]) rfl ⟨.inr ⟨HN.out, rfl⟩, bF⟩
  · have HV := Lib.hid (show kindV zeroO = .nilIface from rfl)
    have HN := Lib.hid (show NoTakeO f.data.toList from fun q r' hq => hno _ _ rfl (takesO_hd hq))
    clear hno
    go_wp2_with fail
    refine (kind_any zeroO _).mono ?_
    rintro e w2 ⟨rfl, c2⟩
    rw [HV.out]
    have b2 := step_a b1 c2
    have R2 := Lib.hid ((R1.out.below (below_alloc _ _)).below c2)
    clear b1 c2 R1 HV
    have r0 := R2.out.cell 0 _ rfl
    have r1 := R2.out.cell 1 _ rfl
    have r2 := R2.out.cell 2 _ rfl
    have r3 := R2.out.cell 3 _ rfl
    have r4 := R2.out.cell 4 _ rfl
    have r5 := R2.out.cell 5 _ rfl
    have r6 := R2.out.cell 6 _ rfl
    have g0 := R2.out.free 0 (by simp)
    have g1 := R2.out.free 1 (by simp)
    have g2 := R2.out.free 2 (by simp)
    have g3 := R2.out.free 3 (by simp)
    have g4 := R2.out.free 4 (by simp)
    have g5 := R2.out.free 5 (by simp)
    have g6 := R2.out.free 6 (by simp)
    go_wp2_with fail
    have RF := Lib.hid (Cells.fill (p := zeroO) R2.out zeroO)
    have bF := filled b2 (Nat.le_refl _) zeroO
    have z0 := RF.out.cell 0 _ rfl
    have z1 := RF.out.cell 1 _ rfl
    have z2 := RF.out.cell 2 _ rfl
    have z3 := RF.out.cell 3 _ rfl
    have z4 := RF.out.cell 4 _ rfl
    have z5 := RF.out.cell 5 _ rfl
    have z6 := RF.out.cell 6 _ rfl
    simp only [setO, zeroO] at z0 z1 z2 z3 z4 z5 z6
    refine bodyPost_ret (v := .tuple #[OV zeroO, .int .i64 0, .int .i64 50]) (by simp [results, Try.results30, go_sem, zeroO, z0, z1, z2, z3, z4, z5, z6]) rfl ⟨.inr ⟨HN.out, rfl⟩, bF⟩
theorem olead_any (b : ByteArray) (hb : b.size ≤ 1000000) (w : World) : Calls Try.prog 30 #[.string b] w fun e w' => LdPost b.data.toList w e w' := by
  obtain ⟨f, hf⟩ : ∃ f, b.extract 0 (min (134 : Int) (b.size : Int)).toNat = f := ⟨_, rfl⟩
  have hbl : b.data.toList.length = b.size := by simp
  have hd : f.data.toList = b.data.toList.take 134 := by
    rw [← hf, extract_data, List.drop_zero]
    rcases Nat.le_total b.size 134 with h | h
    · rw [List.take_of_length_le (by omega), List.take_of_length_le (by omega)]
    · have : (min (134 : Int) (b.size : Int)).toNat = 134 := by omega
      rw [this]
  have hfl : f.size ≤ 134 := by
    have h1 : f.data.toList.length = f.size := by simp
    rw [← h1, hd, List.length_take]; omega
  refine (olead_f b f hf hfl w).mono ?_
  rintro e w' ⟨h, hb⟩
  rw [hd] at h
  refine ⟨?_, hb⟩
  rcases h with ⟨q, r, h, rfl⟩ | ⟨h, rfl⟩
  · exact .inl ⟨q, _, cut_back h, rfl⟩
  · exact .inr ⟨cut_no h, rfl⟩
end Go.Proofs.Ytjhllkjcaodcgaa
