/-
  The library's merge in place, of two stretches of which the right one has one operation.
-/
import Derived.Test.YtnndanpahcdmaaaSymL
namespace Go.Proofs.Ytnndanpahcdmaaa
open Go.RowKit Go.Lib
set_option maxRecDepth 100000 in
set_option maxHeartbeats 8000000 in
theorem tsym_right (B g n c a m : Nat) (P X : List Opn) (y : Opn) (Q : List Opn) (w : World) (h : OwnOp B (P ++ (X ++ (y :: Q))) (.slice (some ⟨g, 0, none⟩) n c) w) (ha : P.length = a) (hm : a + X.length = m) (h2 : 2 ≤ X.length) (hX : Wk X) (hn : n ≤ 100000) :
    Calls Try.prog 84 #[.slice (some ⟨g, 0, none⟩) n c, .int .i64 a, .int .i64 m, .int .i64 ((m : Int) + 1), CmpF] w (RowPost B g n c (P ++ (mrg X [y] ++ Q)) w) := by
  have hmn : m + 1 ≤ n := by rw [h.len]; simp only [List.length_append, List.length_cons]; omega
  have ham : a + 2 ≤ m := by omega
  have HP := Lib.hid ha
  have HXl := Lib.hid (show X.length = m - a by omega)
  have HX := Lib.hid hX
  have H0 := Lib.hid h
  have HY0 := Lib.hid (show (P ++ (X ++ (y :: Q)))[m]? = some y by rw [past_get _ _ _ (by omega), past_get _ _ _ (by omega), show m - P.length - X.length = 0 by omega]; rfl)
  have HXY := Lib.hid (fun (i : Nat) (x : Opn) (hi : a ≤ i) (hx : X[i - a]? = some x) => (show (P ++ (X ++ (y :: Q)))[i]? = some x by
    have h1 := (List.getElem?_eq_some_iff.1 hx).1
    rw [past_get _ _ _ (by omega), ha, List.getElem?_append_left h1]; exact hx))
  obtain ⟨R, hR⟩ : ∃ R, P ++ (mrg X [y] ++ Q) = R := ⟨_, rfl⟩
  have HRe := Lib.hid hR
  rw [hR]
  obtain ⟨L, hL⟩ : ∃ L, P ++ (X ++ (y :: Q)) = L := ⟨_, rfl⟩
  have HLe := Lib.hid hL
  rw [hL] at H0 HY0 HXY
  have hw1 : (((m : Int) - (a : Int)) == 1) = false := by rw [beq_eq_false_iff_ne]; omega
  have hw2 : ((m : Int) + 1 - (m : Int)) = 1 := by omega
  clear h ha hm h2 hX hR hL
  go_enter Try.func84, Try.ntmps84
  go_wp2_with fail
  go_loopw [14, 15] (fun u v w' => ∃ lo hi : Nat, u = .int .i64 lo ∧ v = .int .i64 hi ∧ a ≤ lo ∧ lo ≤ hi ∧ hi ≤ m ∧ (lo = a ∨ ∃ x, X[lo - 1 - a]? = some x ∧ ltA y x = false) ∧ (hi = m ∨ ∃ x, X[hi - a]? = some x ∧ ltA y x = true) ∧ OwnOp B L (.slice (some ⟨g, 0, none⟩) n c) w' ∧ Below B w w') (fun u v _ => (RowKit.intOf v).toNat - (RowKit.intOf u).toNat)
  case atStart => exact ⟨a, m, rfl, rfl, Nat.le_refl _, by omega, Nat.le_refl _, .inl rfl, .inl rfl, H0.out, Below.refl _ _⟩
  case round =>
    obtain ⟨lo, hi, rfl, rfl, hlo, hlh, hhb, hp, hq, hr, ck⟩ := hrel
    have HPr := Lib.hid hp
    have HQr := Lib.hid hq
    have HR := Lib.hid hr
    clear hp hq hr
    by_cases hlt : lo < hi
    · obtain ⟨x, hx⟩ : ∃ x, X[(lo + hi) / 2 - a]? = some x := ⟨_, List.getElem?_eq_getElem (by have := HXl.out; omega)⟩
      have hh := HXY.out ((lo + hi) / 2) x (by omega) hx
      have HXx := Lib.hid hx
      obtain ⟨k, hk⟩ : ∃ k, (lo + hi) / 2 = k := ⟨_, rfl⟩
      have hkI : ((lo : Int) + (hi : Int)) / 2 = (k : Int) := by omega
      have hk1 : lo ≤ k ∧ k < hi := by omega
      rw [hk] at hh HXx
      have hr4 := HR.out
      have hc1 := hr4.cellsAt op_len hh
      have hc2 := hr4.cellsAt op_len HY0.out
      obtain ⟨p0, p1, p2, p3, p4, p5, p6⟩ := atOp_of hc1.1
      obtain ⟨q0, q1, q2, q3, q4, q5, q6⟩ := atOp_of hc2.1
      have hgl := (hr4.lt g rfl).2
      have hgB := (hr4.lt g rfl).1
      have HCm := Lib.hid (fun w => tcompare_any y x w)
      have hd := cmpV_lt y x
      obtain ⟨v, hv⟩ : ∃ v, cmpV y x = v := ⟨_, rfl⟩
      rw [hv] at HCm hd
      clear hv hc1 hc2 hr4 hx hh hk
      have g1 : (k : Int) < (n : Int) := by omega
      have g2 : (m : Int) < (n : Int) := by omega
      cases hl : ltA y x with
      | false =>
        rw [hl] at hd
        have HLt := Lib.hid hl
        clear hl
        go_wp2_with fail
        refine wp_region_later (by kernel_rfl) (by kernel_rfl) (fun hL => ?_)
        repeat (go_big_quiet_step ((refine later_calls (HCm.out _))))
        intro w1 hw
        have b1 := later_out hw
        have HR1 := Lib.hid (OwnR.below HR.out b1)
        have HB1 := Lib.hid (ck.trans (b1.mono (by omega)))
        clear hw hL p0 p1 p2 p3 p4 p5 p6 q0 q1 q2 q3 q4 q5 q6 hd b1
        go_wp2_with fail
        go_roundw
        case rel => exact ⟨k + 1, hi, by go_num, rfl, by omega, by omega, hhb, .inr ⟨x, by rw [Nat.add_sub_cancel]; exact HXx.out, HLt.out⟩, HQr.out, HR1.out, HB1.out⟩
        case measure => simp [RowKit.intOf]; omega
      | true =>
        rw [hl] at hd
        have HLt := Lib.hid hl
        clear hl
        go_wp2_with fail
        refine wp_region_later (by kernel_rfl) (by kernel_rfl) (fun hL => ?_)
        repeat (go_big_quiet_step ((refine later_calls (HCm.out _))))
        intro w1 hw
        have b1 := later_out hw
        have HR1 := Lib.hid (OwnR.below HR.out b1)
        have HB1 := Lib.hid (ck.trans (b1.mono (by omega)))
        clear hw hL p0 p1 p2 p3 p4 p5 p6 q0 q1 q2 q3 q4 q5 q6 hd b1
        go_wp2_with fail
        go_roundw
        case rel => exact ⟨lo, k, rfl, rfl, hlo, by omega, by omega, HPr.out, .inr ⟨x, HXx.out, HLt.out⟩, HR1.out, HB1.out⟩
        case measure => simp [RowKit.intOf]; omega
    · obtain rfl : hi = lo := by omega
      have hm : mrg X [y] = X.take (hi - a) ++ y :: X.drop (hi - a) := by
        conv => lhs; rw [← List.take_append_drop (hi - a) X]
        refine mrg_one (fun z hz => ?_) (fun z hz => ?_)
        · rcases HPr.out with e | ⟨x, hx, hlx⟩
          · rw [show hi - a = 0 by omega] at hz; simp at hz
          · by_cases h0 : hi - a = 0
            · rw [h0] at hz; simp at hz
            · exact HX.out.below hx hlx z (by rwa [show hi - 1 - a + 1 = hi - a by omega])
        · rcases HQr.out with e | ⟨x, hx, hlx⟩
          · rw [List.drop_of_length_le (by have := HXl.out; omega)] at hz; cases hz
          · exact HX.out.above hx hlx z hz
      have HMr := Lib.hid hm
      clear hm HPr HQr
      have hlt2 : ¬ (hi : Int) < (hi : Int) := by omega
      go_wp2_with fail
      go_loopw [17] (fun u w' => ∃ k : Nat, u = .int .i64 k ∧ hi ≤ k ∧ k ≤ m ∧ OwnOp B (P ++ (X.take (k - a) ++ (y :: (X.drop (k - a) ++ Q)))) (.slice (some ⟨g, 0, none⟩) n c) w' ∧ Below B w w') (fun u _ => (RowKit.intOf u).toNat)
      case atStart => exact ⟨m, rfl, hhb, Nat.le_refl _, by rw [← HXl.out, List.take_length, List.drop_length]; show OwnOp B (P ++ (X ++ (y :: Q))) _ _; rw [HLe.out]; exact HR.out, ck⟩
      case round =>
        obtain ⟨k, rfl, hik, hkm, hr3, ck3⟩ := hrel
        have HR3 := Lib.hid hr3
        clear hr3
        by_cases hkl : hi < k
        · obtain ⟨kp, rfl⟩ : ∃ kp, k = kp + 1 := ⟨k - 1, by omega⟩
          obtain ⟨x, hx⟩ : ∃ x, X[kp - a]? = some x := ⟨_, List.getElem?_eq_getElem (by have := HXl.out; omega)⟩
          obtain ⟨hxl, hxe⟩ := List.getElem?_eq_some_iff.1 hx
          have hdx : X.drop (kp - a) = x :: X.drop (kp + 1 - a) := by rw [List.drop_eq_getElem_cons hxl, hxe, show kp - a + 1 = kp + 1 - a by omega]
          have htx : X.take (kp + 1 - a) = X.take (kp - a) ++ [x] := by rw [show kp + 1 - a = (kp - a) + 1 by omega, List.take_add_one, hx]; rfl
          have hr4 := HR3.out
          rw [htx, List.append_assoc, List.singleton_append, ← List.append_assoc P] at hr4
          have eA : (P ++ X.take (kp - a)).length = kp := by rw [List.length_append, List.length_take, HP.out]; omega
          obtain ⟨mx, my⟩ := mid_at (P ++ X.take (kp - a)) [] (X.drop (kp + 1 - a) ++ Q) x y
          have sw := swap_at (P ++ X.take (kp - a)) [] (X.drop (kp + 1 - a) ++ Q) x y
          rw [eA] at mx my sw
          simp only [List.nil_append, List.length_nil, Nat.add_zero] at mx my sw
          have HSet := Lib.hid (show (((P ++ X.take (kp - a)) ++ x :: y :: (X.drop (kp + 1 - a) ++ Q)).set (kp + 1) x).set kp y = P ++ (X.take (kp - a) ++ (y :: (X.drop (kp - a) ++ Q))) by rw [List.set_comm _ _ (by omega), sw, hdx]; simp)
          have hr5 := hr4
          obtain ⟨⟨x0, x1, x2, x3, x4, x5, x6⟩, ⟨y0, y1, y2, y3, y4, y5, y6⟩, hfx, hfy, ⟨z0, z1, z2, z3, z4, z5, z6⟩⟩ := swap_facts hr5 my mx (by omega)
          have hswp := swap_own hr5 my mx
          have HSW := Lib.hid hswp
          clear hswp
          have f0 := hfx 0 (by omega)
          have f1 := hfx 1 (by omega)
          have f2 := hfx 2 (by omega)
          have f3 := hfx 3 (by omega)
          have f4 := hfx 4 (by omega)
          have f5 := hfx 5 (by omega)
          have f6 := hfx 6 (by omega)
          have e0 := hfy 0 (by omega)
          have e1 := hfy 1 (by omega)
          have e2 := hfy 2 (by omega)
          have e3 := hfy 3 (by omega)
          have e4 := hfy 4 (by omega)
          have e5 := hfy 5 (by omega)
          have e6 := hfy 6 (by omega)
          simp only [Nat.add_zero] at f0 e0
          simp only [cellsOp, World.setCells] at z0 z1 z2 z3 z4 z5 z6
          clear hfx hfy
          clear hx hxl hxe hdx htx hr4 eA mx my sw hr5
          have g1 : (hi : Int) < (kp : Int) + 1 := by omega
          have g2 : (kp : Int) + 1 < (n : Int) := by omega
          have g3 : (kp : Int) < (n : Int) := by omega
          have g4 : ((kp : Int) + 1).toNat = kp + 1 := by omega
          have g5 : (0 : Int) ≤ (kp : Int) + 1 := by omega
          go_wp2_with fail
          go_region
          change Exit.inBlock _ _ _ _ ((wr.setCells g ((kp + 1) * 7) (cellsOp x)).setCells g (kp * 7) (cellsOp y)).drew
          clear x0 x1 x2 x3 x4 x5 x6 y0 y1 y2 y3 y4 y5 y6 z0 z1 z2 z3 z4 z5 z6 f0 f1 f2 f3 f4 f5 f6 e0 e1 e2 e3 e4 e5 e6
          obtain ⟨hown, bsw⟩ := HSW.out
          generalize ((wr.setCells g ((kp + 1) * 7) (cellsOp x)).setCells g (kp * 7) (cellsOp y)).drew = w2 at hown bsw ⊢
          rw [HSet.out] at hown
          have HO2 := Lib.hid hown
          have HB2 := Lib.hid (ck3.trans bsw)
          clear hown bsw
          go_wp2_with fail
          go_roundw
          case rel => exact ⟨kp, by go_num, by omega, by omega, HO2.out, HB2.out⟩
          case measure => simp [RowKit.intOf]
        · obtain rfl : k = hi := by omega
          have g1 : ¬ (k : Int) < (k : Int) := by omega
          have HE := Lib.hid (show P ++ (X.take (k - a) ++ (y :: (X.drop (k - a) ++ Q))) = R by rw [← HRe.out, HMr.out]; simp)
          go_wp2_with fail
          refine bodyPost_ret (results_none rfl _ _ _) rfl ?_
          exact ⟨rfl, by rw [← HE.out]; exact HR3.out, ck3⟩
end Go.Proofs.Ytnndanpahcdmaaa
