/-
  The library's insertion sort of operations.
-/
import Derived.Test.YtnndanpahcdmaaaRot
namespace Go.Proofs.Ytnndanpahcdmaaa
open Go.RowKit Go.Lib
abbrev CmpF : Value := .func (.func 62) #[] #[]
/-- A stretch of the row is sorted, all else is as it was. -/
def InsPost (B g n c : Nat) (P S Q : List Opn) (w : World) (e : Ending) (w' : World) : Prop := ∃ S', e = .returned (.tuple #[]) ∧ Fst S S' ∧ OwnOp B (P ++ (S' ++ Q)) (.slice (some ⟨g, 0, none⟩) n c) w' ∧ Below B w w'
set_option maxRecDepth 100000 in
set_option maxHeartbeats 8000000 in
theorem tins_any (B g n c a b : Nat) (P S Q : List Opn) (w : World) (h : OwnOp B (P ++ (S ++ Q)) (.slice (some ⟨g, 0, none⟩) n c) w) (ha : P.length = a) (hb : a + S.length = b) (hn : n ≤ 100000) :
    Calls Try.prog 83 #[.slice (some ⟨g, 0, none⟩) n c, .int .i64 a, .int .i64 b, CmpF] w (InsPost B g n c P S Q w) := by
  have hbn : b ≤ n := by rw [h.len]; simp only [List.length_append]; omega
  have hab : a ≤ b := by omega
  have HP := Lib.hid ha
  have HS := Lib.hid hb
  have H0 := Lib.hid h
  clear h ha hb
  go_enter Try.func83, Try.ntmps83
  go_wp2
  go_loopw [8] (fun u w' => ∃ (k : Nat) (S1 : List Opn), u = .int .i64 ((a : Int) + 1 + (k : Int)) ∧ (k = 0 ∨ a + 1 + k ≤ b) ∧ Fst (S.take (k + 1)) S1 ∧ OwnOp B (P ++ (S1 ++ (S.drop (k + 1) ++ Q))) (.slice (some ⟨g, 0, none⟩) n c) w' ∧ Below B w w') (fun u _ => b + 1 - (RowKit.intOf u).toNat)
  case atStart =>
    refine ⟨0, S.take 1, by go_num, .inl rfl, fst_short (by rw [List.length_take]; omega), ?_, Below.refl _ _⟩
    rw [← List.append_assoc (S.take (0 + 1)), List.take_append_drop]
    exact H0.out
  case round =>
    obtain ⟨k, S1, rfl, hk, hf, hr, ck⟩ := hrel
    have HF := Lib.hid hf
    have HR := Lib.hid hr
    clear hf hr
    by_cases hkb : a + 1 + k < b
    · obtain ⟨x, hx⟩ : ∃ x, S[k + 1]? = some x := ⟨_, List.getElem?_eq_getElem (by have := HS.out; omega)⟩
      have hlS1 : S1.length = k + 1 := by rw [HF.out.2.1, List.length_take]; have := HS.out; omega
      have HL1 := Lib.hid hlS1
      have hdx : S.drop (k + 1) = x :: S.drop (k + 1 + 1) := by
        obtain ⟨h1, h2⟩ := List.getElem?_eq_some_iff.1 hx
        rw [List.drop_eq_getElem_cons h1, h2]
      have htx : S.take (k + 1 + 1) = S.take (k + 1) ++ [x] := by rw [List.take_add_one, hx]; rfl
      have HTX := Lib.hid htx
      have hr2 := HR.out
      rw [hdx] at hr2
      have HR2 := Lib.hid hr2
      -- what the inner loop leaves
      have HDone := Lib.hid (fun (U V : List Opn) (hUV : U ++ V = S1) (hu : ∀ y ∈ U, ltA x y = false) (hv : ∀ y ∈ V, ltA x y = true) => (show Fst (S.take (k + 1 + 1)) (U ++ x :: V) by
        rw [htx, ← mrg_one hu hv, hUV]
        exact fst_mrg HF.out (fst_short (by simp))))
      have hk2 : (a : Int) + 1 + (k : Int) < (b : Int) := by omega
      clear hx hlS1 hdx htx hr2 hk
      go_wp2_with fail
      go_loopw [9] (fun u w' => ∃ (j : Nat) (U V : List Opn), u = .int .i64 j ∧ a ≤ j ∧ a + U.length = j ∧ j ≤ a + 1 + k ∧ U ++ V = S1 ∧ (∀ y ∈ V, ltA x y = true) ∧ OwnOp B (P ++ (U ++ (x :: (V ++ (S.drop (k + 1 + 1) ++ Q))))) (.slice (some ⟨g, 0, none⟩) n c) w' ∧ Below B w w') (fun u _ => (RowKit.intOf u).toNat)
      case atStart => exact ⟨a + 1 + k, S1, [], by go_num, by omega, by rw [HL1.out]; omega, by omega, List.append_nil _, fun _ h => (by cases h), by simpa using HR2.out, ck⟩
      case round =>
        obtain ⟨j, U, V, rfl, haj, hUj, hjk, hUV, hV, hr3, ck3⟩ := hrel
        have HUj := Lib.hid hUj
        have HUV := Lib.hid hUV
        have HV := Lib.hid hV
        have HR3 := Lib.hid hr3
        clear hUj hUV hV hr3
        by_cases hja : a < j
        · obtain ⟨jp, rfl⟩ : ∃ jp, j = jp + 1 := ⟨j - 1, by omega⟩
          obtain ⟨U', u, hU⟩ : ∃ U' u, U = U' ++ [u] := by
            have hne : U ≠ [] := by intro e; have := HUj.out; rw [e] at this; simp at this; omega
            exact ⟨U.dropLast, U.getLast hne, (List.dropLast_concat_getLast hne).symm⟩
          have hlU' : P.length + U'.length = jp := by
            have := HUj.out; rw [hU, List.length_append, List.length_singleton] at this
            have := HP.out; omega
          have hr4 := HR3.out
          rw [hU, List.append_assoc, List.singleton_append, ← List.append_assoc P] at hr4
          have eA : (P ++ U').length = jp := by rw [List.length_append]; exact hlU'
          obtain ⟨mu, mx⟩ := mid_at (P ++ U') [] (V ++ (S.drop (k + 1 + 1) ++ Q)) u x
          have sw := swap_at (P ++ U') [] (V ++ (S.drop (k + 1 + 1) ++ Q)) u x
          rw [eA] at mu
          rw [eA] at mx sw
          simp only [List.nil_append, List.length_nil, Nat.add_zero] at mu mx sw
          -- the two places the other way round
          have hmu2 := mu
          have hcomm : (((P ++ U') ++ u :: x :: (V ++ (S.drop (k + 1 + 1) ++ Q))).set (jp + 1) u).set jp x = (P ++ U') ++ x :: u :: (V ++ (S.drop (k + 1 + 1) ++ Q)) := by
            rw [List.set_comm _ _ (by omega)]; exact sw
          have HSet := Lib.hid hcomm
          have HUe := Lib.hid hU
          have hc1 := hr4.cellsAt op_len mx
          have hc2 := hr4.cellsAt op_len mu
          obtain ⟨p0, p1, p2, p3, p4, p5, p6⟩ := atOp_of hc1.1
          obtain ⟨q0, q1, q2, q3, q4, q5, q6⟩ := atOp_of hc2.1
          have hgl := (hr4.lt g rfl).2
          have HR4 := Lib.hid hr4
          have HMX := Lib.hid mx
          have HMU := Lib.hid mu
          have HCm := Lib.hid (fun w => tcompare_any x u w)
          have hd := cmpV_lt x u
          obtain ⟨v, hv⟩ : ∃ v, cmpV x u = v := ⟨_, rfl⟩
          rw [hv] at HCm hd
          clear hv hc1 hc2 hr4 mx mu hmu2 sw hcomm hU eA hlU'
          have gj : (a : Int) < (jp : Int) + 1 := by omega
          have g1 : (jp : Int) + 1 < (n : Int) := by omega
          have g2 : (jp : Int) < (n : Int) := by omega
          have g3 : ((jp : Int) + 1).toNat = jp + 1 := by omega
          have g4 : (0 : Int) ≤ (jp : Int) + 1 := by omega
          cases hl : ltA x u with
          | true =>
            rw [hl] at hd
            have HLt := Lib.hid hl
            clear hl
            go_wp2_with fail
            refine wp_region_later (by kernel_rfl) (by kernel_rfl) (fun hL => ?_)
            repeat (go_big_quiet_step ((refine later_calls (HCm.out _))))
            intro w1 hw
            have b1 := later_out hw
            have hr5 := OwnR.below HR4.out b1
            have hs1 := b1.size
            clear hw hL p0 p1 p2 p3 p4 p5 p6 q0 q1 q2 q3 q4 q5 q6 hd
            have HX1 := HMX.out
            have HU1 := HMU.out
            obtain ⟨⟨x0, x1, x2, x3, x4, x5, x6⟩, ⟨y0, y1, y2, y3, y4, y5, y6⟩, hfx, hfy, ⟨z0, z1, z2, z3, z4, z5, z6⟩⟩ := swap_facts hr5 HX1 HU1 (by omega)
            have hswp := swap_own hr5 HX1 HU1
            have HSW := Lib.hid hswp
            clear hswp
            have f0 := hfx 0 (by omega)
            have f1 := hfx 1 (by omega)
            have f2 := hfx 2 (by omega)
            have f3 := hfx 3 (by omega)
            have f4 := hfx 4 (by omega)
            have f5 := hfx 5 (by omega)
            have f6 := hfx 6 (by omega)
            have e0 := hfy 0 (by omega)
            have e1 := hfy 1 (by omega)
            have e2 := hfy 2 (by omega)
            have e3 := hfy 3 (by omega)
            have e4 := hfy 4 (by omega)
            have e5 := hfy 5 (by omega)
            have e6 := hfy 6 (by omega)
            simp only [Nat.add_zero] at f0 e0
            simp only [cellsOp, World.setCells] at z0 z1 z2 z3 z4 z5 z6
            clear hfx hfy
            have HB1 := Lib.hid (ck3.trans (b1.mono (by have := (HR4.out.lt g rfl).1; omega)))
            clear hr5 HX1 HU1 b1
            go_wp2_with fail
            go_region
            change Exit.inBlock _ _ _ _ ((w1.setCells g ((jp + 1) * 7) (cellsOp u)).setCells g (jp * 7) (cellsOp x)).drew
            clear x0 x1 x2 x3 x4 x5 x6 y0 y1 y2 y3 y4 y5 y6 z0 z1 z2 z3 z4 z5 z6 f0 f1 f2 f3 f4 f5 f6 e0 e1 e2 e3 e4 e5 e6
            obtain ⟨hown, bsw⟩ := HSW.out
            generalize ((w1.setCells g ((jp + 1) * 7) (cellsOp u)).setCells g (jp * 7) (cellsOp x)).drew = w2 at hown bsw ⊢
            rw [HSet.out, List.append_assoc] at hown
            have HO2 := Lib.hid hown
            have HB2 := Lib.hid (HB1.out.trans bsw)
            clear hown bsw
            go_wp2_with fail
            go_roundw
            case rel =>
              refine ⟨jp, U', u :: V, by go_num, by omega, by have := HUj.out; rw [HUe.out, List.length_append, List.length_singleton] at this; omega, by omega, by rw [← HUV.out, HUe.out]; simp, fun y hy => ?_, HO2.out, HB2.out⟩
              rcases List.mem_cons.1 hy with rfl | hy
              · exact HLt.out
              · exact HV.out y hy
            case measure => simp [RowKit.intOf]
          | false =>
            rw [hl] at hd
            have HLt := Lib.hid hl
            have HDn := Lib.hid (HDone.out U V HUV.out (fun y hy => by
              have hw1 : Wk U := (Wk.cut (by rw [HUV.out]; exact HF.out.1)).1
              have hlu : U[U'.length]? = some u := by rw [HUe.out]; simp
              exact hw1.below hlu hl y (by rw [HUe.out, List.take_of_length_le (by simp)]; rw [HUe.out] at hy; exact hy)) HV.out)
            clear hl
            go_wp2_with fail
            refine wp_region_later (by kernel_rfl) (by kernel_rfl) (fun hL => ?_)
            repeat (go_big_quiet_step ((refine later_calls (HCm.out _))))
            intro w1 hw
            have b1 := later_out hw
            have HO2 := Lib.hid (OwnR.below HR3.out b1)
            have HB1 := Lib.hid (ck3.trans (b1.mono (by have := (HR4.out.lt g rfl).1; omega)))
            clear hw hL p0 p1 p2 p3 p4 p5 p6 q0 q1 q2 q3 q4 q5 q6 hd b1
            go_wp2_with fail
            go_roundw
            case rel => exact ⟨k + 1, U ++ x :: V, by go_num, .inr (by omega), HDn.out, by simpa using HO2.out, HB1.out⟩
            case measure => simp [RowKit.intOf]; omega
        · have hja2 : ¬ (a : Int) < (j : Int) := by omega
          have HDn := Lib.hid (HDone.out U V HUV.out (fun y hy => by
            have : U = [] := List.eq_nil_of_length_eq_zero (by have := HUj.out; omega)
            rw [this] at hy; cases hy) HV.out)
          go_wp2_with fail
          refine wp_region_later (by kernel_rfl) (by kernel_rfl) (fun hL => ?_)
          repeat (go_big_quiet_step (fail))
          intro w1 hw
          have b1 := later_out hw
          have HO2 := Lib.hid (OwnR.below HR3.out b1)
          have HB1 := Lib.hid (ck3.trans (b1.mono (by have := (HR3.out.lt g rfl); omega)))
          clear hw hL b1
          go_wp2_with fail
          go_roundw
          case rel => exact ⟨k + 1, U ++ x :: V, by go_num, .inr (by omega), HDn.out, by simpa using HO2.out, HB1.out⟩
          case measure => simp [RowKit.intOf]; omega
    · have hall : S.length ≤ k + 1 := by have := HS.out; omega
      have HE := Lib.hid (show S.take (k + 1) = S ∧ S.drop (k + 1) = [] from ⟨List.take_of_length_le hall, List.drop_of_length_le hall⟩)
      have hk2 : ¬ (a : Int) + 1 + (k : Int) < (b : Int) := by omega
      clear hall
      go_wp2_with fail
      go_end0
      exact ⟨S1, rfl, by rw [← HE.out.1]; exact HF.out, by have := HR.out; rw [HE.out.2] at this; exact this, ck⟩
end Go.Proofs.Ytnndanpahcdmaaa
