/-
  The library's merge in place, of any two stretches.
-/
import Derived.Test.YtnndanpahcdmaaaSymR
import Derived.Deep.DeepCutAuto
namespace Go.Proofs.Ytnndanpahcdmaaa
open Go.RowKit Go.Lib
/-- What is asked of the merge, as its own call is met. -/
def SymAsk (N : Nat) : Prop := ∀ (B g n c a m b : Nat) (P X Y Q : List Opn) (w : World), X.length + Y.length ≤ N → OwnOp B (P ++ (X ++ (Y ++ Q))) (.slice (some ⟨g, 0, none⟩) n c) w → P.length = a → a + X.length = m → m + Y.length = b → 0 < X.length → 0 < Y.length → Wk X → Wk Y → n ≤ 100000 →
    Calls Try.prog 84 #[.slice (some ⟨g, 0, none⟩) n c, .int .i64 a, .int .i64 m, .int .i64 b, CmpF] w (RowPost B g n c (P ++ (mrg X Y ++ Q)) w)
set_option maxRecDepth 100000 in
set_option maxHeartbeats 8000000 in
theorem tsym_gen (N : Nat) (ih : SymAsk N) (B g n c a m b : Nat) (P X Y Q : List Opn) (w : World) (hN : X.length + Y.length ≤ N + 1) (h : OwnOp B (P ++ (X ++ (Y ++ Q))) (.slice (some ⟨g, 0, none⟩) n c) w) (ha : P.length = a) (hm : a + X.length = m) (hb : m + Y.length = b) (hx2 : 2 ≤ X.length) (hy2 : 2 ≤ Y.length) (hX : Wk X) (hY : Wk Y) (hn : n ≤ 100000) :
    Calls Try.prog 84 #[.slice (some ⟨g, 0, none⟩) n c, .int .i64 a, .int .i64 m, .int .i64 b, CmpF] w (RowPost B g n c (P ++ (mrg X Y ++ Q)) w) := by
  have IH := Lib.hid ih
  have hbn : b ≤ n := by rw [h.len]; simp only [List.length_append]; omega
  have ham : a + 2 ≤ m := by omega
  have hmb : m + 2 ≤ b := by omega
  have hNN : b - a ≤ N + 1 := by omega
  have HP := Lib.hid ha
  have HXl := Lib.hid (show X.length = m - a by omega)
  have HYl := Lib.hid (show Y.length = b - m by omega)
  have HX := Lib.hid hX
  have HY := Lib.hid hY
  have H0 := Lib.hid h
  have HXX := Lib.hid (fun (i : Nat) (x : Opn) (hi : a ≤ i) (hx : X[i - a]? = some x) => (show (P ++ (X ++ (Y ++ Q)))[i]? = some x by
    have h1 := (List.getElem?_eq_some_iff.1 hx).1
    rw [past_get _ _ _ (by omega), ha, List.getElem?_append_left h1]; exact hx))
  have HYY := Lib.hid (fun (i : Nat) (y : Opn) (hi : m ≤ i) (hy : Y[i - m]? = some y) => (show (P ++ (X ++ (Y ++ Q)))[i]? = some y by
    have h1 := (List.getElem?_eq_some_iff.1 hy).1
    rw [past_get _ _ _ (by omega), past_get _ _ _ (by omega), show i - P.length - X.length = i - m by omega, List.getElem?_append_left h1]; exact hy))
  obtain ⟨R, hR⟩ : ∃ R, P ++ (mrg X Y ++ Q) = R := ⟨_, rfl⟩
  have HRe := Lib.hid hR
  rw [hR]
  obtain ⟨L, hL⟩ : ∃ L, P ++ (X ++ (Y ++ Q)) = L := ⟨_, rfl⟩
  have HLe := Lib.hid hL
  rw [hL] at H0 HXX HYY
  obtain ⟨mid, hmid⟩ : ∃ mid, (a + b) / 2 = mid := ⟨_, rfl⟩
  have hmidI : ((a : Int) + (b : Int)) / 2 = (mid : Int) := by omega
  have hm1 : a < mid ∧ mid < b ∧ 2 * mid ≤ a + b ∧ a + b ≤ 2 * mid + 1 := by omega
  obtain ⟨lo0, hi0, hlh, hla, hlb, hhm, hhmid, hlo0, hhi0⟩ : ∃ lo0 hi0 : Nat, lo0 ≤ hi0 ∧ a ≤ lo0 ∧ mid + m ≤ lo0 + b ∧ hi0 ≤ m ∧ hi0 ≤ mid ∧ (lo0 = a ∨ lo0 + b = mid + m) ∧ (hi0 = m ∨ hi0 = mid) ∧ ((mid < m → (lo0 : Int) = (mid : Int) + (m : Int) - (b : Int) ∧ hi0 = mid) ∧ (m ≤ mid → lo0 = a ∧ hi0 = m)) := by
    by_cases hc : mid < m
    · exact ⟨mid + m - b, mid, by omega, by omega, by omega, by omega, by omega, .inr (by omega), .inr rfl, fun _ => ⟨by omega, rfl⟩, fun h => by omega⟩
    · exact ⟨a, m, by omega, by omega, by omega, by omega, by omega, .inl rfl, .inl rfl, fun h => absurd h hc, fun _ => ⟨rfl, rfl⟩⟩
  obtain ⟨hhi0, hstart⟩ := hhi0
  have HSt := Lib.hid hstart
  have HLo0 := Lib.hid hlo0
  have HHi0 := Lib.hid hhi0
  have hw1 : (((m : Int) - (a : Int)) == 1) = false := by rw [beq_eq_false_iff_ne]; omega
  have hw2 : (((b : Int) - (m : Int)) == 1) = false := by rw [beq_eq_false_iff_ne]; omega
  clear h ha hm hb hx2 hy2 hX hY hR hL hmid hlo0 hhi0 hstart ih hN
  go_enter Try.func84, Try.ntmps84
  go_upto_if 140 with fail
  go_cut [20, 21] (fun u v wx => u = .int .i64 lo0 ∧ v = .int .i64 hi0 ∧ wx = w)
  case first =>
    as_aux_lemma =>
      by_cases hc : mid < m
      · have hc2 : (mid : Int) < (m : Int) := by omega
        obtain ⟨e1, e2⟩ := HSt.out.1 hc
        have E1 := Lib.hid e1
        have E2 := Lib.hid e2
        clear e1 e2 hc
        go_wp2_with fail
        go_meet
        exact ⟨by rw [E1.out], by rw [E2.out], rfl⟩
      · have hc2 : ¬ (mid : Int) < (m : Int) := by omega
        obtain ⟨e1, e2⟩ := HSt.out.2 (by omega)
        have E1 := Lib.hid e1
        have E2 := Lib.hid e2
        clear e1 e2 hc
        go_wp2_with fail
        go_meet
        exact ⟨by rw [E1.out], by rw [E2.out], rfl⟩
  case rest =>
    obtain ⟨rfl, rfl, rfl⟩ := hcut
    go_wp2_with fail
    go_loopw [20, 21] (fun u v w' => ∃ lo hi : Nat, u = .int .i64 lo ∧ v = .int .i64 hi ∧ lo0 ≤ lo ∧ lo ≤ hi ∧ hi ≤ hi0 ∧ (lo = lo0 ∨ ∃ x y, X[lo - 1 - a]? = some x ∧ Y[mid - lo]? = some y ∧ ltA y x = false) ∧ (hi = hi0 ∨ ∃ x y, X[hi - a]? = some x ∧ Y[mid - 1 - hi]? = some y ∧ ltA y x = true) ∧ OwnOp B L (.slice (some ⟨g, 0, none⟩) n c) w' ∧ Below B wc w') (fun u v _ => (RowKit.intOf v).toNat - (RowKit.intOf u).toNat)
    case atStart => exact ⟨lo0, hi0, rfl, rfl, Nat.le_refl _, hlh, Nat.le_refl _, .inl rfl, .inl rfl, H0.out, Below.refl _ _⟩
    case round =>
      obtain ⟨lo, hi, rfl, rfl, hlo, hlh2, hhb, hp, hq, hr, ck⟩ := hrel
      have HPr := Lib.hid hp
      have HQr := Lib.hid hq
      have HR := Lib.hid hr
      clear hp hq hr
      by_cases hlt : lo < hi
      · obtain ⟨k, hk⟩ : ∃ k, (lo + hi) / 2 = k := ⟨_, rfl⟩
        have hkI : ((lo : Int) + (hi : Int)) / 2 = (k : Int) := by omega
        have hk1 : lo ≤ k ∧ k < hi := by omega
        obtain ⟨x, hx⟩ : ∃ x, X[k - a]? = some x := ⟨_, List.getElem?_eq_getElem (by have := HXl.out; omega)⟩
        obtain ⟨q, hq⟩ : ∃ q, mid + m - 1 - k = q := ⟨_, rfl⟩
        have hqI : (mid : Int) + (m : Int) - 1 - (k : Int) = (q : Int) := by omega
        obtain ⟨y, hy⟩ : ∃ y, Y[mid - 1 - k]? = some y := ⟨_, List.getElem?_eq_getElem (by have := HYl.out; omega)⟩
        have hh := HXX.out k x (by omega) hx
        have hh2 := HYY.out q y (by omega) (by rw [show q - m = mid - 1 - k by omega]; exact hy)
        have HXx := Lib.hid hx
        have HYy := Lib.hid hy
        have hr4 := HR.out
        have hc1 := hr4.cellsAt op_len hh
        have hc2 := hr4.cellsAt op_len hh2
        obtain ⟨p0, p1, p2, p3, p4, p5, p6⟩ := atOp_of hc1.1
        obtain ⟨q0, q1, q2, q3, q4, q5, q6⟩ := atOp_of hc2.1
        have hgl := (hr4.lt g rfl).2
        have hgB := (hr4.lt g rfl).1
        have HCm := Lib.hid (fun w => tcompare_any y x w)
        have hd := cmpV_lt y x
        obtain ⟨v, hv⟩ : ∃ v, cmpV y x = v := ⟨_, rfl⟩
        rw [hv] at HCm hd
        have g1 : (k : Int) < (n : Int) := by omega
        have g2 : (q : Int) < (n : Int) := by omega
        have hqb : q < b := by omega
        clear hv hc1 hc2 hr4 hx hy hh hh2 hk hq
        cases hl : ltA y x with
        | false =>
          as_aux_lemma =>
            rw [hl] at hd
            have HLt := Lib.hid hl
            clear hl
            go_wp2_with fail
            refine wp_region_later (by kernel_rfl) (by kernel_rfl) (fun hL => ?_)
            repeat (go_big_quiet_step ((refine later_calls (HCm.out _))))
            intro w1 hw
            have b1 := later_out hw
            have HR1 := Lib.hid (OwnR.below HR.out b1)
            have HB1 := Lib.hid (ck.trans (b1.mono (by omega)))
            clear hw hL p0 p1 p2 p3 p4 p5 p6 q0 q1 q2 q3 q4 q5 q6 hd b1
            go_wp2_with fail
            go_roundw
            case rel => exact ⟨k + 1, hi, by go_num, rfl, by omega, by omega, hhb, .inr ⟨x, y, by rw [Nat.add_sub_cancel]; exact HXx.out, by rw [show mid - (k + 1) = mid - 1 - k by omega]; exact HYy.out, HLt.out⟩, HQr.out, HR1.out, HB1.out⟩
            case measure => simp [RowKit.intOf]; omega
        | true =>
          as_aux_lemma =>
            rw [hl] at hd
            have HLt := Lib.hid hl
            clear hl
            go_wp2_with fail
            refine wp_region_later (by kernel_rfl) (by kernel_rfl) (fun hL => ?_)
            repeat (go_big_quiet_step ((refine later_calls (HCm.out _))))
            intro w1 hw
            have b1 := later_out hw
            have HR1 := Lib.hid (OwnR.below HR.out b1)
            have HB1 := Lib.hid (ck.trans (b1.mono (by omega)))
            clear hw hL p0 p1 p2 p3 p4 p5 p6 q0 q1 q2 q3 q4 q5 q6 hd b1
            go_wp2_with fail
            go_roundw
            case rel => exact ⟨lo, k, rfl, rfl, hlo, by omega, by omega, HPr.out, .inr ⟨x, y, HXx.out, HYy.out, HLt.out⟩, HR1.out, HB1.out⟩
            case measure => simp [RowKit.intOf]; omega
      · obtain rfl : hi = lo := by omega
        have hs := sym_split HX.out HY.out (hi - a) (mid - hi)
          (by
            rcases HPr.out with e | ⟨x, y, h1, h2, h3⟩
            · rcases HLo0.out with e2 | e2
              · exact .inl (by omega)
              · exact .inr (.inl (by have := HYl.out; omega))
            · exact .inr (.inr ⟨x, y, by rw [show hi - a - 1 = hi - 1 - a by omega]; exact h1, h2, h3⟩))
          (by
            rcases HQr.out with e | ⟨x, y, h1, h2, h3⟩
            · rcases HHi0.out with e2 | e2
              · exact .inl (by have := HXl.out; omega)
              · exact .inr (.inl (by omega))
            · exact .inr (.inr ⟨x, y, h1, by rw [show mid - hi - 1 = mid - 1 - hi by omega]; exact h2, h3⟩))
        obtain ⟨X1, hX1⟩ : ∃ X1, X.take (hi - a) = X1 := ⟨_, rfl⟩
        obtain ⟨X2, hX2⟩ : ∃ X2, X.drop (hi - a) = X2 := ⟨_, rfl⟩
        obtain ⟨Y1, hY1⟩ : ∃ Y1, Y.take (mid - hi) = Y1 := ⟨_, rfl⟩
        obtain ⟨Y2, hY2⟩ : ∃ Y2, Y.drop (mid - hi) = Y2 := ⟨_, rfl⟩
        have lX1 : X1.length = hi - a := by rw [← hX1, List.length_take, HXl.out]; omega
        have lX2 : X2.length = m - hi := by rw [← hX2, List.length_drop, HXl.out]; omega
        have lY1 : Y1.length = mid - hi := by rw [← hY1, List.length_take, HYl.out]; omega
        have lY2 : Y2.length = b - m - (mid - hi) := by rw [← hY2, List.length_drop, HYl.out]
        have eX : X = X1 ++ X2 := by rw [← hX1, ← hX2, List.take_append_drop]
        have eY : Y = Y1 ++ Y2 := by rw [← hY1, ← hY2, List.take_append_drop]
        have HW := Lib.hid (show (Wk X1 ∧ Wk X2) ∧ (Wk Y1 ∧ Wk Y2) from ⟨Wk.cut (by rw [← eX]; exact HX.out), Wk.cut (by rw [← eY]; exact HY.out)⟩)
        have HFin := Lib.hid (show P ++ (mrg X1 Y1 ++ (mrg X2 Y2 ++ Q)) = R by rw [← HRe.out, hs, hX1, hX2, hY1, hY2, List.append_assoc])
        have HRow := Lib.hid (show OwnOp B (P ++ (X1 ++ (X2 ++ (Y1 ++ (Y2 ++ Q))))) (.slice (some ⟨g, 0, none⟩) n c) wr by
          have := HR.out
          rw [← HLe.out, eX, eY] at this
          simpa using this)
        obtain ⟨e, he⟩ : ∃ e, mid + m - hi = e := ⟨_, rfl⟩
        have heI : (mid : Int) + (m : Int) - (hi : Int) = (e : Int) := by omega
        have HX1 := Lib.hid lX1
        have HX2 := Lib.hid lX2
        have HY1 := Lib.hid lY1
        have HY2 := Lib.hid (show Y2.length = b - e by omega)
        have hee : m ≤ e ∧ mid ≤ e ∧ e ≤ b ∧ hi ≤ mid ∧ hi ≤ m ∧ a ≤ hi ∧ e + hi = mid + m := by omega
        have hlt2 : ¬ (hi : Int) < (hi : Int) := by omega
        have hgB := (HR.out.lt g rfl).1
        clear hs hX1 hX2 hY1 hY2 lX1 lX2 lY1 lY2 eX eY HPr HQr HR he
        obtain ⟨d1, hd1⟩ : ∃ d, (decide (hi < m) && decide (m < e)) = d := ⟨_, rfl⟩
        have Hd1 := Lib.hid hd1
        clear hd1
        go_upto_region 39 with fail
        go_cut [185] (fun u wx => u = .bool d1 ∧ wx = wr)
        case first =>
          as_aux_lemma =>
            by_cases h1 : hi < m
            · have g1 : (hi : Int) < (m : Int) := by omega
              by_cases h2 : m < e
              · have g2 : (m : Int) < (e : Int) := by omega
                have E := Lib.hid (show d1 = true by rw [← Hd1.out, decide_eq_true h1, decide_eq_true h2]; rfl)
                clear h1 h2
                go_wp2_with fail
                go_meet
                exact ⟨by rw [E.out], rfl⟩
              · have g2 : ¬ (m : Int) < (e : Int) := by omega
                have E := Lib.hid (show d1 = false by rw [← Hd1.out, decide_eq_true h1, decide_eq_false h2]; rfl)
                clear h1 h2
                go_wp2_with fail
                go_meet
                exact ⟨by rw [E.out], rfl⟩
            · have g1 : ¬ (hi : Int) < (m : Int) := by omega
              have E := Lib.hid (show d1 = false by rw [← Hd1.out, decide_eq_false h1]; rfl)
              clear h1
              go_wp2_with fail
              go_meet
              exact ⟨by rw [E.out], rfl⟩
        case rest =>
          obtain ⟨rfl, rfl⟩ := hcut
          go_upto_if 185 with fail
          go_cut [185] (fun _ wx => OwnOp B (P ++ (X1 ++ (Y1 ++ (X2 ++ (Y2 ++ Q))))) (.slice (some ⟨g, 0, none⟩) n c) wx ∧ Below B wc wx)
          case first =>
            as_aux_lemma =>
              cases d1 with
              | true =>
                obtain ⟨h1, h2⟩ : hi < m ∧ m < e := by have := Hd1.out; rw [Bool.and_eq_true] at this; exact ⟨of_decide_eq_true this.1, of_decide_eq_true this.2⟩
                have hC := trot_any B g n c hi m e (P ++ X1) X2 Y1 (Y2 ++ Q) CmpF wc (by rw [List.append_assoc]; exact HRow.out) (by rw [List.length_append, HP.out, HX1.out]; omega) (by rw [HX2.out]; omega) (by rw [HY1.out]; omega) (by rw [HX2.out]; omega) (by rw [HY1.out]; omega) hn
                rw [List.append_assoc] at hC
                have HC := Lib.hid hC
                clear hC
                clear h1 h2
                go_wp2_with fail
                refine (HC.out).mono ?_
                rintro e1 w2 ⟨rfl, hown, c2⟩
                have HO := Lib.hid hown
                have HB := Lib.hid c2
                clear hown c2 HC
                go_wp2_with fail
                go_meet
                exact ⟨HO.out, HB.out⟩
              | false =>
                have HE : X2 = [] ∨ Y1 = [] := by
                  have := Hd1.out
                  rw [Bool.and_eq_false_iff] at this
                  rcases this with h | h
                  · have := of_decide_eq_false h
                    first | exact .inl (List.eq_nil_of_length_eq_zero (by have := HX1.out; have := HX2.out; have := HY1.out; have := HY2.out; omega)) | exact .inr (List.eq_nil_of_length_eq_zero (by have := HX1.out; have := HX2.out; have := HY1.out; have := HY2.out; omega))
                  · have := of_decide_eq_false h
                    first | exact .inl (List.eq_nil_of_length_eq_zero (by have := HX1.out; have := HX2.out; have := HY1.out; have := HY2.out; omega)) | exact .inr (List.eq_nil_of_length_eq_zero (by have := HX1.out; have := HX2.out; have := HY1.out; have := HY2.out; omega))
                have HE2 := Lib.hid HE
                clear HE
                go_wp2_with fail
                go_meet
                exact ⟨by have := HRow.out; rw [← List.append_assoc X2, app_comm HE2.out, List.append_assoc] at this; exact this, Below.refl _ _⟩
          case rest =>
            obtain ⟨hrw, hbw⟩ := hcut
            have HRow2 := Lib.hid hrw
            have HB2 := Lib.hid (ck.trans hbw)
            clear hrw hbw HRow
            obtain ⟨d2, hd2⟩ : ∃ d, (decide (a < hi) && decide (hi < mid)) = d := ⟨_, rfl⟩
            have Hd2 := Lib.hid hd2
            clear hd2
            go_upto_region 41 with fail
            go_cut [199] (fun u wx => u = .bool d2 ∧ wx = wc)
            case first =>
              as_aux_lemma =>
                by_cases h1 : a < hi
                · have g1 : (a : Int) < (hi : Int) := by omega
                  by_cases h2 : hi < mid
                  · have g2 : (hi : Int) < (mid : Int) := by omega
                    have E := Lib.hid (show d2 = true by rw [← Hd2.out, decide_eq_true h1, decide_eq_true h2]; rfl)
                    clear h1 h2
                    go_wp2_with fail
                    go_meet
                    exact ⟨by rw [E.out], rfl⟩
                  · have g2 : ¬ (hi : Int) < (mid : Int) := by omega
                    have E := Lib.hid (show d2 = false by rw [← Hd2.out, decide_eq_true h1, decide_eq_false h2]; rfl)
                    clear h1 h2
                    go_wp2_with fail
                    go_meet
                    exact ⟨by rw [E.out], rfl⟩
                · have g1 : ¬ (a : Int) < (hi : Int) := by omega
                  have E := Lib.hid (show d2 = false by rw [← Hd2.out, decide_eq_false h1]; rfl)
                  clear h1
                  go_wp2_with fail
                  go_meet
                  exact ⟨by rw [E.out], rfl⟩
            case rest =>
              obtain ⟨rfl, rfl⟩ := hcut
              go_upto_if 199 with fail
              go_cut [199] (fun _ wx => OwnOp B (P ++ (mrg X1 Y1 ++ (X2 ++ (Y2 ++ Q)))) (.slice (some ⟨g, 0, none⟩) n c) wx ∧ Below B wc wx)
              case first =>
                as_aux_lemma =>
                  cases d2 with
                  | true =>
                    obtain ⟨h1, h2⟩ : a < hi ∧ hi < mid := by have := Hd2.out; rw [Bool.and_eq_true] at this; exact ⟨of_decide_eq_true this.1, of_decide_eq_true this.2⟩
                    have HC := Lib.hid (IH.out B g n c a hi mid P X1 Y1 (X2 ++ (Y2 ++ Q)) wc (by rw [HX1.out, HY1.out]; omega) HRow2.out HP.out (by rw [HX1.out]; omega) (by rw [HY1.out]; omega) (by rw [HX1.out]; omega) (by rw [HY1.out]; omega) HW.out.1.1 HW.out.2.1 hn)
                    clear h1 h2
                    go_wp2_with fail
                    refine (HC.out).mono ?_
                    rintro e1 w2 ⟨rfl, hown, c2⟩
                    have HO := Lib.hid hown
                    have HB := Lib.hid c2
                    clear hown c2 HC
                    go_wp2_with fail
                    go_meet
                    exact ⟨HO.out, HB.out⟩
                  | false =>
                    have HE : X1 = [] ∨ Y1 = [] := by
                      have := Hd2.out
                      rw [Bool.and_eq_false_iff] at this
                      rcases this with h | h
                      · have := of_decide_eq_false h
                        first | exact .inl (List.eq_nil_of_length_eq_zero (by have := HX1.out; have := HX2.out; have := HY1.out; have := HY2.out; omega)) | exact .inr (List.eq_nil_of_length_eq_zero (by have := HX1.out; have := HX2.out; have := HY1.out; have := HY2.out; omega))
                      · have := of_decide_eq_false h
                        first | exact .inl (List.eq_nil_of_length_eq_zero (by have := HX1.out; have := HX2.out; have := HY1.out; have := HY2.out; omega)) | exact .inr (List.eq_nil_of_length_eq_zero (by have := HX1.out; have := HX2.out; have := HY1.out; have := HY2.out; omega))
                    have HE2 := Lib.hid HE
                    clear HE
                    go_wp2_with fail
                    go_meet
                    exact ⟨by rw [mrg_nilL HE2.out, List.append_assoc]; exact HRow2.out, Below.refl _ _⟩
              case rest =>
                obtain ⟨hrw, hbw⟩ := hcut
                have HRow3 := Lib.hid hrw
                have HB3 := Lib.hid (HB2.out.trans hbw)
                clear hrw hbw HRow2
                obtain ⟨d3, hd3⟩ : ∃ d, (decide (mid < e) && decide (e < b)) = d := ⟨_, rfl⟩
                have Hd3 := Lib.hid hd3
                clear hd3
                go_upto_region 43 with fail
                go_cut [213] (fun u wx => u = .bool d3 ∧ wx = wc)
                case first =>
                  as_aux_lemma =>
                    by_cases h1 : mid < e
                    · have g1 : (mid : Int) < (e : Int) := by omega
                      by_cases h2 : e < b
                      · have g2 : (e : Int) < (b : Int) := by omega
                        have E := Lib.hid (show d3 = true by rw [← Hd3.out, decide_eq_true h1, decide_eq_true h2]; rfl)
                        clear h1 h2
                        go_wp2_with fail
                        go_meet
                        exact ⟨by rw [E.out], rfl⟩
                      · have g2 : ¬ (e : Int) < (b : Int) := by omega
                        have E := Lib.hid (show d3 = false by rw [← Hd3.out, decide_eq_true h1, decide_eq_false h2]; rfl)
                        clear h1 h2
                        go_wp2_with fail
                        go_meet
                        exact ⟨by rw [E.out], rfl⟩
                    · have g1 : ¬ (mid : Int) < (e : Int) := by omega
                      have E := Lib.hid (show d3 = false by rw [← Hd3.out, decide_eq_false h1]; rfl)
                      clear h1
                      go_wp2_with fail
                      go_meet
                      exact ⟨by rw [E.out], rfl⟩
                case rest =>
                  obtain ⟨rfl, rfl⟩ := hcut
                  cases d3 with
                  | true =>
                    as_aux_lemma =>
                      obtain ⟨h1, h2⟩ : mid < e ∧ e < b := by have := Hd3.out; rw [Bool.and_eq_true] at this; exact ⟨of_decide_eq_true this.1, of_decide_eq_true this.2⟩
                      have hC := IH.out B g n c mid e b (P ++ mrg X1 Y1) X2 Y2 Q wc (by rw [HX2.out, HY2.out]; omega) (by rw [List.append_assoc]; exact HRow3.out) (by rw [List.length_append, mrg_len, HP.out, HX1.out, HY1.out]; omega) (by rw [HX2.out]; omega) (by rw [HY2.out]; omega) (by rw [HX2.out]; omega) (by rw [HY2.out]; omega) HW.out.1.2 HW.out.2.2 hn
                      rw [List.append_assoc] at hC
                      have HC := Lib.hid hC
                      clear hC
                      clear h1 h2
                      go_wp2_with fail
                      refine (HC.out).mono ?_
                      rintro e1 w2 ⟨rfl, hown, c2⟩
                      rw [HFin.out] at hown
                      have HO := Lib.hid hown
                      have HB := Lib.hid (HB3.out.trans c2)
                      clear hown c2 HC
                      go_wp2_with fail
                      go_end0
                      exact ⟨rfl, HO.out, HB.out⟩
                  | false =>
                    as_aux_lemma =>
                      have HE : X2 = [] ∨ Y2 = [] := by
                        have := Hd3.out
                        rw [Bool.and_eq_false_iff] at this
                        rcases this with h | h
                        · have := of_decide_eq_false h
                          exact .inl (List.eq_nil_of_length_eq_zero (by have := HX2.out; omega))
                        · have := of_decide_eq_false h
                          exact .inr (List.eq_nil_of_length_eq_zero (by have := HY2.out; omega))
                      have HRow4 := Lib.hid (show OwnOp B R (.slice (some ⟨g, 0, none⟩) n c) wc by rw [← HFin.out, mrg_nilL HE, List.append_assoc]; exact HRow3.out)
                      clear HE
                      go_wp2_with fail
                      go_end0
                      exact ⟨rfl, HRow4.out, HB3.out⟩
end Go.Proofs.Ytnndanpahcdmaaa
