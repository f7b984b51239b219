/-
  The library's merge in place, of two stretches of which one has one operation.
-/
import Derived.Test.YtnndanpahcdmaaaIns
import Derived.Test.YtnndanpahcdmaaaPkP
namespace Go.Proofs.Ytnndanpahcdmaaa
open Go.RowKit Go.Lib
theorem past_get {α : Type} (A R : List α) (i : Nat) (h : A.length ≤ i) : (A ++ R)[i]? = R[i - A.length]? := List.getElem?_append_right h
set_option maxRecDepth 100000 in
set_option maxHeartbeats 8000000 in
theorem tsym_left (B g n c a b : Nat) (P : List Opn) (x : Opn) (Y Q : List Opn) (w : World) (h : OwnOp B (P ++ (x :: (Y ++ Q))) (.slice (some ⟨g, 0, none⟩) n c) w) (ha : P.length = a) (hb : a + 1 + Y.length = b) (hY : Wk Y) (hn : n ≤ 100000) :
    Calls Try.prog 84 #[.slice (some ⟨g, 0, none⟩) n c, .int .i64 a, .int .i64 ((a : Int) + 1), .int .i64 b, CmpF] w (RowPost B g n c (P ++ (mrg [x] Y ++ Q)) w) := by
  have hbn : b ≤ n := by rw [h.len]; simp only [List.length_append, List.length_cons]; omega
  have hab : a + 1 ≤ b := by omega
  have HP := Lib.hid ha
  have HYl := Lib.hid (show Y.length = b - (a + 1) by omega)
  have HY := Lib.hid hY
  have H0 := Lib.hid h
  have HX0 := Lib.hid (show (P ++ (x :: (Y ++ Q)))[a]? = some x by rw [past_get _ _ _ (by omega), ha, Nat.sub_self]; rfl)
  have HXY := Lib.hid (fun (i : Nat) (y : Opn) (hi : a + 1 ≤ i) (hy : Y[i - (a + 1)]? = some y) => (show (P ++ (x :: (Y ++ Q)))[i]? = some y by
    have h1 := (List.getElem?_eq_some_iff.1 hy).1
    rw [past_get _ _ _ (by omega), ha, show i - a = (i - (a + 1)) + 1 by omega, List.getElem?_cons_succ, List.getElem?_append_left h1]; exact hy))
  obtain ⟨R, hR⟩ : ∃ R, P ++ (mrg [x] Y ++ Q) = R := ⟨_, rfl⟩
  have HRe := Lib.hid hR
  rw [hR]
  obtain ⟨L, hL⟩ : ∃ L, P ++ (x :: (Y ++ Q)) = L := ⟨_, rfl⟩
  have HLe := Lib.hid hL
  rw [hL] at H0 HX0 HXY
  have hw1 : ((a : Int) + 1 - (a : Int)) = 1 := by omega
  clear h ha hb hY hR hL
  go_enter Try.func84, Try.ntmps84
  go_wp2_with fail
  go_loopw [10, 11] (fun u v w' => ∃ lo hi : Nat, u = .int .i64 lo ∧ v = .int .i64 hi ∧ a + 1 ≤ lo ∧ lo ≤ hi ∧ hi ≤ b ∧ (lo = a + 1 ∨ ∃ y, Y[lo - 1 - (a + 1)]? = some y ∧ ltA y x = true) ∧ (hi = b ∨ ∃ y, Y[hi - (a + 1)]? = some y ∧ ltA y x = false) ∧ OwnOp B L (.slice (some ⟨g, 0, none⟩) n c) w' ∧ Below B w w') (fun u v _ => (RowKit.intOf v).toNat - (RowKit.intOf u).toNat)
  case atStart => exact ⟨a + 1, b, by go_num, rfl, Nat.le_refl _, hab, Nat.le_refl _, .inl rfl, .inl rfl, H0.out, Below.refl _ _⟩
  case round =>
    obtain ⟨lo, hi, rfl, rfl, hlo, hlh, hhb, hp, hq, hr, ck⟩ := hrel
    have HPr := Lib.hid hp
    have HQr := Lib.hid hq
    have HR := Lib.hid hr
    clear hp hq hr
    by_cases hlt : lo < hi
    · obtain ⟨y, hy⟩ : ∃ y, Y[(lo + hi) / 2 - (a + 1)]? = some y := ⟨_, List.getElem?_eq_getElem (by have := HYl.out; omega)⟩
      have hh := HXY.out ((lo + hi) / 2) y (by omega) hy
      have HYy := Lib.hid hy
      obtain ⟨k, hk⟩ : ∃ k, (lo + hi) / 2 = k := ⟨_, rfl⟩
      have hkI : ((lo : Int) + (hi : Int)) / 2 = (k : Int) := by omega
      have hk1 : lo ≤ k ∧ k < hi := by omega
      rw [hk] at hh HYy
      have hr4 := HR.out
      have hc1 := hr4.cellsAt op_len hh
      have hc2 := hr4.cellsAt op_len HX0.out
      obtain ⟨p0, p1, p2, p3, p4, p5, p6⟩ := atOp_of hc1.1
      obtain ⟨q0, q1, q2, q3, q4, q5, q6⟩ := atOp_of hc2.1
      have hgl := (hr4.lt g rfl).2
      have hgB := (hr4.lt g rfl).1
      have HCm := Lib.hid (fun w => tcompare_any y x w)
      have hd := cmpV_lt y x
      obtain ⟨v, hv⟩ : ∃ v, cmpV y x = v := ⟨_, rfl⟩
      rw [hv] at HCm hd
      clear hv hc1 hc2 hr4 hy hh hk
      have g1 : (k : Int) < (n : Int) := by omega
      have g2 : (a : Int) < (n : Int) := by omega
      cases hl : ltA y x with
      | true =>
        rw [hl] at hd
        have HLt := Lib.hid hl
        clear hl
        go_wp2_with fail
        refine wp_region_later (by kernel_rfl) (by kernel_rfl) (fun hL => ?_)
        repeat (go_big_quiet_step ((refine later_calls (HCm.out _))))
        intro w1 hw
        have b1 := later_out hw
        have HR1 := Lib.hid (OwnR.below HR.out b1)
        have HB1 := Lib.hid (ck.trans (b1.mono (by omega)))
        clear hw hL p0 p1 p2 p3 p4 p5 p6 q0 q1 q2 q3 q4 q5 q6 hd b1
        go_wp2_with fail
        go_roundw
        case rel => exact ⟨k + 1, hi, by go_num, rfl, by omega, by omega, hhb, .inr ⟨y, by rw [Nat.add_sub_cancel]; exact HYy.out, HLt.out⟩, HQr.out, HR1.out, HB1.out⟩
        case measure => simp [RowKit.intOf]; omega
      | false =>
        rw [hl] at hd
        have HLt := Lib.hid hl
        clear hl
        go_wp2_with fail
        refine wp_region_later (by kernel_rfl) (by kernel_rfl) (fun hL => ?_)
        repeat (go_big_quiet_step ((refine later_calls (HCm.out _))))
        intro w1 hw
        have b1 := later_out hw
        have HR1 := Lib.hid (OwnR.below HR.out b1)
        have HB1 := Lib.hid (ck.trans (b1.mono (by omega)))
        clear hw hL p0 p1 p2 p3 p4 p5 p6 q0 q1 q2 q3 q4 q5 q6 hd b1
        go_wp2_with fail
        go_roundw
        case rel => exact ⟨lo, k, rfl, rfl, hlo, by omega, by omega, HPr.out, .inr ⟨y, HYy.out, HLt.out⟩, HR1.out, HB1.out⟩
        case measure => simp [RowKit.intOf]; omega
    · obtain rfl : hi = lo := by omega
      -- where it goes
      have hm : mrg [x] Y = Y.take (hi - (a + 1)) ++ x :: Y.drop (hi - (a + 1)) := by
        conv => lhs; rw [← List.take_append_drop (hi - (a + 1)) Y]
        refine one_mrg (fun z hz => ?_) (fun z hz => ?_)
        · rcases HPr.out with e | ⟨y, hy, hly⟩
          · rw [show hi - (a + 1) = 0 by omega] at hz; simp at hz
          · by_cases h0 : hi - (a + 1) = 0
            · rw [h0] at hz; simp at hz
            · exact HY.out.less hy hly z (by rwa [show hi - 1 - (a + 1) + 1 = hi - (a + 1) by omega])
        · rcases HQr.out with e | ⟨y, hy, hly⟩
          · rw [List.drop_of_length_le (by have := HYl.out; omega)] at hz; cases hz
          · exact HY.out.more hy hly z hz
      have HMr := Lib.hid hm
      clear hm HPr HQr
      have hlt2 : ¬ (hi : Int) < (hi : Int) := by omega
      go_wp2_with fail
      go_loopw [13] (fun u w' => ∃ k : Nat, u = .int .i64 k ∧ a ≤ k ∧ k + 1 ≤ hi ∧ OwnOp B (P ++ (Y.take (k - a) ++ (x :: (Y.drop (k - a) ++ Q)))) (.slice (some ⟨g, 0, none⟩) n c) w' ∧ Below B w w') (fun u _ => hi - (RowKit.intOf u).toNat)
      case atStart => exact ⟨a, rfl, Nat.le_refl _, by omega, by rw [Nat.sub_self]; show OwnOp B (P ++ (x :: (Y ++ Q))) _ _; rw [HLe.out]; exact HR.out, ck⟩
      case round =>
        obtain ⟨k, rfl, hak, hkh, hr3, ck3⟩ := hrel
        have HR3 := Lib.hid hr3
        clear hr3
        by_cases hkl : k + 1 < hi
        · obtain ⟨y, hy⟩ : ∃ y, Y[k - a]? = some y := ⟨_, List.getElem?_eq_getElem (by have := HYl.out; omega)⟩
          obtain ⟨hyl, hye⟩ := List.getElem?_eq_some_iff.1 hy
          have hdy : Y.drop (k - a) = y :: Y.drop (k + 1 - a) := by rw [List.drop_eq_getElem_cons hyl, hye, show k - a + 1 = k + 1 - a by omega]
          have hty : Y.take (k + 1 - a) = Y.take (k - a) ++ [y] := by rw [show k + 1 - a = (k - a) + 1 by omega, List.take_add_one, hy]; rfl
          have hr4 := HR3.out
          rw [hdy, ← List.append_assoc P, List.cons_append] at hr4
          have eA : (P ++ Y.take (k - a)).length = k := by rw [List.length_append, List.length_take, HP.out]; omega
          obtain ⟨mx, my⟩ := mid_at (P ++ Y.take (k - a)) [] (Y.drop (k + 1 - a) ++ Q) x y
          have sw := swap_at (P ++ Y.take (k - a)) [] (Y.drop (k + 1 - a) ++ Q) x y
          rw [eA] at mx my sw
          simp only [List.nil_append, List.length_nil, Nat.add_zero] at mx my sw
          have HSet := Lib.hid (show (((P ++ Y.take (k - a)) ++ x :: y :: (Y.drop (k + 1 - a) ++ Q)).set k y).set (k + 1) x = P ++ (Y.take (k + 1 - a) ++ (x :: (Y.drop (k + 1 - a) ++ Q))) by rw [sw, hty]; simp)
          have hr5 := hr4
          obtain ⟨⟨x0, x1, x2, x3, x4, x5, x6⟩, ⟨y0, y1, y2, y3, y4, y5, y6⟩, hfx, hfy, ⟨z0, z1, z2, z3, z4, z5, z6⟩⟩ := swap_facts hr5 mx my (by omega)
          have hswp := swap_own hr5 mx my
          have HSW := Lib.hid hswp
          clear hswp
          have f0 := hfx 0 (by omega)
          have f1 := hfx 1 (by omega)
          have f2 := hfx 2 (by omega)
          have f3 := hfx 3 (by omega)
          have f4 := hfx 4 (by omega)
          have f5 := hfx 5 (by omega)
          have f6 := hfx 6 (by omega)
          have e0 := hfy 0 (by omega)
          have e1 := hfy 1 (by omega)
          have e2 := hfy 2 (by omega)
          have e3 := hfy 3 (by omega)
          have e4 := hfy 4 (by omega)
          have e5 := hfy 5 (by omega)
          have e6 := hfy 6 (by omega)
          simp only [Nat.add_zero] at f0 e0
          simp only [cellsOp, World.setCells] at z0 z1 z2 z3 z4 z5 z6
          clear hfx hfy
          clear hy hyl hye hdy hty hr4 eA mx my sw hr5
          have g1 : (k : Int) < (hi : Int) - 1 := by omega
          have g2 : (k : Int) + 1 < (n : Int) := by omega
          have g3 : (k : Int) < (n : Int) := by omega
          have g4 : ((k : Int) + 1).toNat = k + 1 := by omega
          have g5 : (0 : Int) ≤ (k : Int) + 1 := by omega
          go_wp2_with fail
          go_region
          change Exit.inBlock _ _ _ _ ((wr.setCells g (k * 7) (cellsOp y)).setCells g ((k + 1) * 7) (cellsOp x)).drew
          clear x0 x1 x2 x3 x4 x5 x6 y0 y1 y2 y3 y4 y5 y6 z0 z1 z2 z3 z4 z5 z6 f0 f1 f2 f3 f4 f5 f6 e0 e1 e2 e3 e4 e5 e6
          obtain ⟨hown, bsw⟩ := HSW.out
          generalize ((wr.setCells g (k * 7) (cellsOp y)).setCells g ((k + 1) * 7) (cellsOp x)).drew = w2 at hown bsw ⊢
          rw [HSet.out] at hown
          have HO2 := Lib.hid hown
          have HB2 := Lib.hid (ck3.trans bsw)
          clear hown bsw
          go_wp2_with fail
          go_roundw
          case rel => exact ⟨k + 1, by go_num, by omega, by omega, HO2.out, HB2.out⟩
          case measure => simp [RowKit.intOf]; omega
        · have hke : k - a = hi - (a + 1) := by omega
          have g1 : ¬ (k : Int) < (hi : Int) - 1 := by omega
          have HE := Lib.hid (show P ++ (Y.take (k - a) ++ (x :: (Y.drop (k - a) ++ Q))) = R by rw [← HRe.out, HMr.out, hke]; simp)
          clear hke
          go_wp2_with fail
          refine bodyPost_ret (results_none rfl _ _ _) rfl ?_
          exact ⟨rfl, by rw [← HE.out]; exact HR3.out, ck3⟩
end Go.Proofs.Ytnndanpahcdmaaa
