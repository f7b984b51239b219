/-
  The library's rotation of operations; the landed compare.
-/
import Derived.Test.YtnndanpahcdmaaaSwap
import Derived.Test.YtnndanpahcdmaaaOChk
namespace Go.Proofs.Ytnndanpahcdmaaa
open Go.RowKit Go.Lib
def cmpV (a b : Opn) : Int := if ltA a b then -1 else if ltA b a then 1 else 0
theorem cmpV_lt (a b : Opn) : decide (cmpV a b < 0) = ltA a b := by
  unfold cmpV
  cases h : ltA a b with
  | true => rfl
  | false => cases h2 : ltA b a <;> rfl
theorem cmpV_rng (a b : Opn) : -1 ≤ cmpV a b ∧ cmpV a b ≤ 1 := by
  unfold cmpV
  split
  · omega
  · split <;> omega
set_option maxRecDepth 100000 in
set_option maxHeartbeats 4000000 in
theorem tcompare_any (a b : Opn) (w : World) :
    Calls Try.prog 62 #[OV a, OV b] w fun e w' => e = .returned (.int .i64 (cmpV a b)) ∧ Below w.heap.size w w' := by
  obtain ⟨A, hA⟩ : ∃ A, A = w.alloc (.cells #[.int .i64 a.c, .int .i64 a.r, .int .i64 a.k, .int .i64 a.n, .int .i64 a.p, .string a.s, .string a.d] 26) := ⟨_, rfl⟩
  obtain ⟨C, hC⟩ : ∃ C, C = A.alloc (.cells #[.int .i64 b.c, .int .i64 b.r, .int .i64 b.k, .int .i64 b.n, .int .i64 b.p, .string b.s, .string b.d] 26) := ⟨_, rfl⟩
  have sA : A.heap.size = w.heap.size + 1 := by rw [hA]; simp
  have qA : Below w.heap.size w A := by rw [hA]; exact below_alloc _ _
  have qC : Below A.heap.size A C := by rw [hC]; exact below_alloc _ _
  have b0 := step_b qA qC
  have HA0 := Lib.hid ((by rw [hA]; exact hasO_new w a 26 : HasO A w.heap.size a).below qC)
  have hB : HasO C A.heap.size b := by rw [hC]; exact hasO_new A b 26
  rw [sA] at hB
  have HB0 := Lib.hid hB
  have HL1 := Lib.hid (fun w => oless_any a b w)
  have HL2 := Lib.hid (fun w => oless_any b a w)
  obtain ⟨z, hz⟩ : ∃ z, cmpV a b = z := ⟨_, rfl⟩
  have HZ := Lib.hid hz
  rw [hz]
  unfold cmpV ltA at hz
  obtain ⟨x, hx⟩ : ∃ x, lessS a.c a.r b.c b.r = x := ⟨_, rfl⟩
  obtain ⟨y, hy⟩ : ∃ y, lessS b.c b.r a.c a.r = y := ⟨_, rfl⟩
  rw [hx, hy] at hz
  rw [hx] at HL1
  rw [hy] at HL2
  have HZ2 := Lib.hid hz
  have HBe := Lib.hid b0
  obtain ⟨m0, m1, m2, m3, m4, m5, m6⟩ := HA0.out
  obtain ⟨n0, n1, n2, n3, n4, n5, n6⟩ := HB0.out
  rw [hA] at hC
  clear hz hx hy hB sA qA qC b0
  go_enter Try.func62, Try.ntmps62
  cases x with
  | true =>
    go_wp2_with fail
    rw [← hC]
    clear hC hA
    refine (HL1.out _).mono ?_
    rintro e w1 ⟨rfl, c1⟩
    have b1 := step_b HBe.out c1
    go_wp2_with fail
    go_ret
    exact ⟨by rw [← HZ2.out]; rfl, b1⟩
  | false =>
    go_wp2_with fail
    rw [← hC]
    clear hC hA
    refine (HL1.out _).mono ?_
    rintro e w1 ⟨rfl, c1⟩
    have b1 := step_b HBe.out c1
    clear m0 m1 m2 m3 m4 m5 m6 n0 n1 n2 n3 n4 n5 n6
    obtain ⟨m0, m1, m2, m3, m4, m5, m6⟩ := HA0.out.below c1
    obtain ⟨n0, n1, n2, n3, n4, n5, n6⟩ := HB0.out.below c1
    cases y with
    | true =>
      go_wp2_with fail
      refine (HL2.out _).mono ?_
      rintro e w2 ⟨rfl, c2⟩
      have b2 := step_b b1 c2
      go_wp2_with fail
      go_ret
      exact ⟨by rw [← HZ2.out]; rfl, b2⟩
    | false =>
      go_wp2_with fail
      refine (HL2.out _).mono ?_
      rintro e w2 ⟨rfl, c2⟩
      have b2 := step_b b1 c2
      go_wp2_with fail
      go_ret
      exact ⟨by rw [← HZ2.out]; rfl, b2⟩
set_option maxRecDepth 100000 in
set_option maxHeartbeats 4000000 in
theorem trot_any (B g n c a m b : Nat) (P X Y Q : List Opn) (cmp : Value) (w : World) (h : OwnOp B (P ++ (X ++ (Y ++ Q))) (.slice (some ⟨g, 0, none⟩) n c) w)
    (ha : P.length = a) (hx : a + X.length = m) (hy : m + Y.length = b) (hx0 : 0 < X.length) (hy0 : 0 < Y.length) (hn : n ≤ 100000) :
    Calls Try.prog 87 #[.slice (some ⟨g, 0, none⟩) n c, .int .i64 a, .int .i64 m, .int .i64 b, cmp] w (RowPost B g n c (P ++ (Y ++ (X ++ Q))) w) := by
  have hbn : b ≤ n := by rw [h.len]; simp only [List.length_append]; omega
  obtain ⟨T, hT⟩ : ∃ T, P ++ (Y ++ (X ++ Q)) = T := ⟨_, rfl⟩
  rw [hT]
  have H0 := Lib.hid (show ∃ (P' X' Y' Q' : List Opn), X'.length = m - a ∧ Y'.length = b - m ∧ P'.length + (m - a) = m ∧ P' ++ (Y' ++ (X' ++ Q')) = T ∧ OwnOp B (P' ++ (X' ++ (Y' ++ Q'))) (.slice (some ⟨g, 0, none⟩) n c) w from ⟨P, X, Y, Q, by omega, by omega, by omega, hT, h⟩)
  have hi0 : a < m := by omega
  have hj0 : m < b := by omega
  clear hx hy hx0 hy0 h ha hT
  go_enter Try.func87, Try.ntmps87
  go_wp2
  go_loopw [10, 11] (fun u v w' => ∃ (i j : Nat) (P' X' Y' Q' : List Opn), u = .int .i64 i ∧ v = .int .i64 j ∧ 0 < i ∧ 0 < j ∧ i ≤ m ∧ m + j ≤ b ∧ X'.length = i ∧ Y'.length = j ∧ P'.length + i = m ∧ P' ++ (Y' ++ (X' ++ Q')) = T ∧ OwnOp B (P' ++ (X' ++ (Y' ++ Q'))) (.slice (some ⟨g, 0, none⟩) n c) w' ∧ Below B w w') (fun u v _ => (RowKit.intOf u).toNat + (RowKit.intOf v).toNat)
  case atStart =>
    obtain ⟨P', X', Y', Q', h1, h2, h3, h4, h5⟩ := H0.out
    exact ⟨m - a, b - m, P', X', Y', Q', by go_num, by go_num, by omega, by omega, by omega, by omega, h1, h2, h3, h4, h5, Below.refl _ _⟩
  case round =>
    obtain ⟨i, j, P', X', Y', Q', rfl, rfl, hi, hj, him, hjb, hX, hY, hP, hT, hr, ck⟩ := hrel
    have HX := Lib.hid hX
    have HY := Lib.hid hY
    have HP := Lib.hid hP
    have HT := Lib.hid hT
    have HR := Lib.hid hr
    clear hX hY hP hT hr
    rcases Nat.lt_trichotomy i j with hij | hij | hij
    · -- the left one is less: Y = Y1 ++ Y2
      have hne : ((i : Int) != (j : Int)) = true := by simp; omega
      have hgt : ¬ (j : Int) < (i : Int) := by omega
      have hd : Y'.take (j - i) ++ Y'.drop (j - i) = Y' := List.take_append_drop _ _
      have l1 : (Y'.take (j - i)).length = j - i := by rw [List.length_take, HY.out]; omega
      have l2 : (Y'.drop (j - i)).length = i := by rw [List.length_drop, HY.out]; omega
      have hr2 : OwnOp B (P' ++ (X' ++ (Y'.take (j - i) ++ (Y'.drop (j - i) ++ Q')))) (.slice (some ⟨g, 0, none⟩) n c) wr := by
        rw [← List.append_assoc (Y'.take (j - i)), hd]; exact HR.out
      have hC := tswaps_any B g n c (m - i) (m + j - i) i P' X' (Y'.take (j - i)) (Y'.drop (j - i)) Q' cmp wr hr2 (by have := HP.out; omega) HX.out l2 (by rw [l1]; omega) hn
      rw [show ((m - i : Nat) : Int) = (m : Int) - (i : Int) by omega, show ((m + j - i : Nat) : Int) = (m : Int) + (j : Int) - (i : Int) by omega] at hC
      have HC := Lib.hid hC
      have HT2 := Lib.hid (show P' ++ (Y'.take (j - i) ++ (Y'.drop (j - i) ++ (X' ++ Q'))) = T by
        rw [← List.append_assoc (Y'.take (j - i)), hd]; exact HT.out)
      have L1 := Lib.hid l1
      have L2 := Lib.hid l2
      clear hd l1 l2 hr2 hC
      go_wp2_with fail
      refine (HC.out).mono ?_
      rintro e w1 ⟨rfl, hown, c1⟩
      have HO := Lib.hid hown
      have HB1 := Lib.hid (ck.trans c1)
      clear hown c1 HC
      go_wp2_with fail
      go_roundw
      case rel => exact ⟨i, j - i, P', Y'.drop (j - i), Y'.take (j - i), X' ++ Q', rfl, by go_num, hi, by omega, him, by omega, L2.out, L1.out, HP.out, HT2.out, HO.out, HB1.out⟩
      case measure => simp [RowKit.intOf]; omega
    · subst hij
      have hne : ((i : Int) != (i : Int)) = false := by simp
      have hr2 : OwnOp B (P' ++ (X' ++ ([] ++ (Y' ++ Q')))) (.slice (some ⟨g, 0, none⟩) n c) wr := by simpa using HR.out
      have hC := tswaps_any B g n c (m - i) m i P' X' [] Y' Q' cmp wr hr2 (by have := HP.out; omega) HX.out HY.out (by simp; omega) hn
      rw [show ((m - i : Nat) : Int) = (m : Int) - (i : Int) by omega] at hC
      have HC := Lib.hid hC
      have HT2 := Lib.hid (show P' ++ (Y' ++ ([] ++ (X' ++ Q'))) = T by simpa using HT.out)
      clear hr2 hC
      go_wp2_with fail
      refine (HC.out).mono ?_
      rintro e w1 ⟨rfl, hown, c1⟩
      rw [HT2.out] at hown
      have HO := Lib.hid hown
      have HB1 := Lib.hid (ck.trans c1)
      clear hown c1 HC
      go_wp2_with fail
      go_end0
      exact ⟨rfl, HO.out, HB1.out⟩
    · -- the right one is less: X = X1 ++ X2
      have hne : ((i : Int) != (j : Int)) = true := by simp; omega
      have hgt : (j : Int) < (i : Int) := by omega
      have hd : X'.take j ++ X'.drop j = X' := List.take_append_drop _ _
      have l1 : (X'.take j).length = j := by rw [List.length_take, HX.out]; omega
      have l2 : (X'.drop j).length = i - j := by rw [List.length_drop, HX.out]
      have hr2 : OwnOp B (P' ++ (X'.take j ++ (X'.drop j ++ (Y' ++ Q')))) (.slice (some ⟨g, 0, none⟩) n c) wr := by
        rw [← List.append_assoc (X'.take j), hd]; exact HR.out
      have hC := tswaps_any B g n c (m - i) m j P' (X'.take j) (X'.drop j) Y' Q' cmp wr hr2 (by have := HP.out; omega) l1 HY.out (by rw [l2]; omega) hn
      rw [show ((m - i : Nat) : Int) = (m : Int) - (i : Int) by omega] at hC
      have HC := Lib.hid hC
      have HT2 := Lib.hid (show (P' ++ Y') ++ (X'.take j ++ (X'.drop j ++ Q')) = T by
        rw [← List.append_assoc (X'.take j), hd, List.append_assoc]; exact HT.out)
      have HA := Lib.hid (show P' ++ (Y' ++ (X'.drop j ++ (X'.take j ++ Q'))) = (P' ++ Y') ++ (X'.drop j ++ (X'.take j ++ Q')) by simp [List.append_assoc])
      have L1 := Lib.hid l1
      have L2 := Lib.hid l2
      have L3 := Lib.hid (show (P' ++ Y').length + (i - j) = m by rw [List.length_append, HY.out]; have := HP.out; omega)
      clear hd l1 l2 hr2 hC
      go_wp2_with fail
      refine (HC.out).mono ?_
      rintro e w1 ⟨rfl, hown, c1⟩
      rw [HA.out] at hown
      have HO := Lib.hid hown
      have HB1 := Lib.hid (ck.trans c1)
      clear hown c1 HC
      go_wp2_with fail
      go_roundw
      case rel => exact ⟨i - j, j, P' ++ Y', X'.drop j, X'.take j, Q', by go_num, rfl, by omega, hj, by omega, hjb, L2.out, L1.out, L3.out, HT2.out, HO.out, HB1.out⟩
      case measure => simp [RowKit.intOf]; omega
end Go.Proofs.Ytnndanpahcdmaaa
