/-
  OpBack: operations are read as they were written, and bytes that are operations' are these operations'.
-/
import Derived.Test.YtjhllkjcaodcgaaOLateLaw
namespace Go.Proofs.Ytjhllkjcaodcgaa
open Go.RowKit Go.Lib
/-- What Read tells of any bytes: operations whose bytes these are, or none. -/
theorem oread_is (b : ByteArray) (hb : b.size ≤ 1000000) :
    (∃ m, ReadsO b.data.toList m ∧ ∀ w, Calls Try.prog 17 #[.string b] w fun e w' => (∃ a c, e = .returned (.tuple #[.slice a m.length c, .int .i64 0]) ∧ IsO w' a c m) ∧ Below w.heap.size w w') ∨
    (NoRead b.data.toList ∧ ∀ w, Calls Try.prog 17 #[.string b] w fun e w' => e = .returned (.tuple #[.slice none 0 0, .int .i64 50]) ∧ Below w.heap.size w w') := by
  by_cases h : ∃ m, ReadsO b.data.toList m
  · obtain ⟨m, hm⟩ := h
    refine .inl ⟨m, hm, fun w => (oread_any b w hb).mono ?_⟩
    rintro e w' ⟨h, hb⟩
    refine ⟨?_, hb⟩
    rcases h with ⟨l, hl, a, c, rfl, hi⟩ | ⟨hn, _⟩
    · have := opsB_inj hm.1 hl.1 (hm.2.symm.trans hl.2)
      subst this
      exact ⟨a, c, rfl, hi⟩
    · exact absurd hm (hn m)
  · refine .inr ⟨fun m hm => h ⟨m, hm⟩, fun w => (oread_any b w hb).mono ?_⟩
    rintro e w' ⟨h2, hb⟩
    refine ⟨?_, hb⟩
    rcases h2 with ⟨l, hl, _⟩ | ⟨_, e⟩
    · exact absurd ⟨l, hl⟩ h
    · exact e
theorem opB_five (o : Opn) : 5 ≤ (opB o).length := by
  have h1 := Vlq.one_pos o.c.toNat
  have h2 := Vlq.one_pos o.r.toNat
  have h3 := Vlq.one_pos o.k.toNat
  have h4 := Vlq.one_pos o.n.toNat
  have h5 := Vlq.one_pos (txt o).size
  unfold opB
  simp only [List.length_append]
  omega
theorem opsB_five : ∀ l : List Opn, 5 * l.length ≤ (opsB l).length
  | [] => by simp
  | o :: l => by
    have h1 := opB_five o
    have h2 := opsB_five l
    rw [opsB_cons, List.length_append, List.length_cons]; omega
theorem all_small {l : List Opn} (h : allO l = true) : Small l := fun o ho => by
  have hm : mayO o = true := by
    unfold allO at h
    exact List.all_eq_true.1 h o ho
  obtain ⟨_, _, h3⟩ := mayO_parts hm
  have h0 : (ByteArray.mk #[]).size = 0 := rfl
  rcases h3 with ⟨_, _, hc, hd⟩ | ⟨_, hd, _, hs⟩
  · obtain ⟨rs, hr, hl⟩ := chk_size hc
    have := runes_four _ _ hr
    have hz : o.s.data.toList.length = o.s.size := by simp
    rw [hd, h0]; omega
  · rw [hs, h0]; omega
theorem isO_nil (w : World) : IsO w none 0 [] := ⟨Nat.le_refl _, fun h => absurd rfl h⟩
set_option maxRecDepth 100000 in
set_option maxHeartbeats 8000000 in
theorem oback_walk (a : Option Addr) (cap : Nat) (l : List Opn) (b : ByteArray) (w : World) (hl : IsO w a cap l ∧ l.length ≤ maxLen ∧ (∀ o ∈ l, InO o) ∧ (a = none → cap = 0)) (_hb : b.size ≤ maxLen) :
    Calls Try.prog 4 #[.slice a l.length cap, .string b] w fun e w' => e = .returned (.bool true) ∧ Below w.heap.size w w' := by
  obtain ⟨hi, hlm, hin, _⟩ := hl
  clear _hb
  have HI := Lib.hid hi
  have HN := Lib.hid hin
  obtain ⟨fb, hfb⟩ : ∃ x, fewO l 100 = x := ⟨_, rfl⟩
  have HF := Lib.hid (fun (W : World) (h : IsO W a cap l) => rfew_any a cap l 100 W h hlm)
  rw [hfb] at HF
  clear hlm hi hin
  go_enter Try.func4, Try.ntmps4
  go_wp2_with fail
  refine (awake_any _).mono ?_
  rintro e w1 ⟨rfl, b1⟩
  go_wp2_with fail
  refine (HF.out _ (HI.out.below b1)).mono ?_
  rintro e w2 ⟨rfl, rfl⟩
  cases fb with
  | false =>
    go_wp2
    go_ret
    exact ⟨rfl, b1⟩
  | true =>
    obtain ⟨hsm, hl100⟩ := few_small hfb
    have HS := Lib.hid hsm
    clear hfb hsm HF
    by_cases hb3 : b.size ≤ 3000
    · have d3 : decide ((3000 : Int) < (b.size : Int)) = false := decide_eq_false (by omega)
      obtain ⟨al, hal⟩ : ∃ x, allO l = x := ⟨_, rfl⟩
      have HA := Lib.hid hal
      have HW := Lib.hid (fun (W : World) (h : IsO W a cap l) => owrite_any a cap l W h (by omega) HS.out (fun o ho => ⟨(HN.out o ho).1.2.2.2.1, (HN.out o ho).1.2.2.2.2⟩))
      have HR := Lib.hid (oread_is b (by omega))
      have I1 := Lib.hid (HI.out.below b1)
      clear HI
      cases al with
      | true =>
        have hops := ops_len hal HS.out
        obtain ⟨x, hx⟩ : ∃ x, ofL (opsB l) = x := ⟨_, rfl⟩
        have ew : wrS l = x := by unfold wrS; rw [hal, if_pos rfl]; exact hx
        have ee : wrE l = 0 := by unfold wrE; rw [hal]; rfl
        rw [ew, ee] at HW
        have hxr : ∀ w, Calls Try.prog 17 #[.string x] w fun e w' => (∃ a c, e = .returned (.tuple #[.slice a l.length c, .int .i64 0]) ∧ IsO w' a c l) ∧ Below w.heap.size w w' := by
          have hxd : x.data.toList = opsB l := by rw [← hx, data_ofL]
          rcases oread_is x (by rw [← hx, ofL_size]; omega) with ⟨m, hm, h⟩ | ⟨hn, _⟩
          · have := opsB_inj hal hm.1 (hxd.symm.trans hm.2)
            subst this
            exact h
          · exact absurd ⟨hal, hxd⟩ (hn l)
        have HX := Lib.hid hxr
        have HM := Lib.hid (fun (W : World) a2 c2 (h1 : IsO W a2 c2 l) a3 c3 (h2 : IsO W a3 c3 l) => rsame_any a2 a3 c2 c3 l l W h1 h2 (by omega))
        have es : sameO l l = true := decide_eq_true rfl
        rw [es] at HM
        clear hxr ew ee hx hops hal es
        go_wp2_with fail
        refine (HW.out _ I1.out).mono ?_
        rintro e w2 ⟨rfl, c2⟩
        have b2 := step_b b1 c2
        have I2 := Lib.hid (I1.out.below c2)
        clear c2 b1 I1 HW
        go_wp2_with fail
        refine (HX.out _).mono ?_
        rintro e w3 ⟨⟨ax, cx, rfl, hix⟩, c3⟩
        have b3 := step_b b2 c3
        have I3 := Lib.hid (I2.out.below c3)
        have X3 := Lib.hid hix
        clear c3 b2 I2 HX hix
        rcases HR.out with ⟨m, hm, hcall0⟩ | ⟨hn, hcall0⟩
        · have hm5 := opsB_five m
          have hml : m.length ≤ 1000 := by
            have := congrArg List.length hm.2
            have hz : b.data.toList.length = b.size := by simp
            omega
          have hcall := hcall0
          clear hcall0 HR hm5
          go_wp2_with fail
          refine (hcall _).mono ?_
          rintro e w4 ⟨⟨ay, cy, rfl, hiy⟩, c4⟩
          have b4 := step_b b3 c4
          have I4 := Lib.hid (I3.out.below c4)
          have X4 := Lib.hid (X3.out.below c4)
          clear c4 b3 I3 X3
          have HV := Lib.hid (owrite_any ay cy m w4 hiy (by omega) (all_small hm.1) (all_rng hm.1))
          have ew2 : wrS m = b := by unfold wrS; rw [hm.1, if_pos rfl, ← hm.2]; exact ofL_data b
          have ee2 : wrE m = 0 := by unfold wrE; rw [hm.1]; rfl
          rw [ew2, ee2] at HV
          have HYm := Lib.hid hm
          clear ew2 ee2 hm hiy
          go_wp2_with fail
          refine HV.out.mono ?_
          rintro e w5 ⟨rfl, c5⟩
          have b5 := step_b b4 c5
          have I5 := Lib.hid (I4.out.below c5)
          have X5 := Lib.hid (X4.out.below c5)
          clear c5 b4 I4 HV X4
          go_wp2_with fail
          go_loopw [14, 15] (fun v i w' => ∃ k : Nat, k ≤ l.length ∧ i = .int .i64 k ∧ v = .bool (allO (l.take k)) ∧ Below w5.heap.size w5 w') (fun _ i _ => l.length - (RowKit.intOf i).toNat)
          case atStart => exact ⟨0, Nat.zero_le _, rfl, rfl, Below.refl _ _⟩
          case round =>
            obtain ⟨k, hk, rfl, rfl, ck⟩ := hrel
            by_cases hkl : k < l.length
            · obtain ⟨g, off, rfl, hlt, hc⟩ := (I5.out.below ck).2 (fun e => by rw [e] at hkl; simp at hkl)
              obtain ⟨y, hy⟩ : ∃ y, l[k]? = some y := ⟨l[k], List.getElem?_eq_getElem hkl⟩
              obtain ⟨k0, k1, k2, k3, k4, k5, k6⟩ := hc k y hy
              have HT := Lib.hid (all_take_o hy)
              have HC := Lib.hid (fun w => ochk_any y w (HN.out y (List.mem_of_getElem? hy)).2.1 (HN.out y (List.mem_of_getElem? hy)).1.2.2.2.1 (HN.out y (List.mem_of_getElem? hy)).1.2.2.2.2)
              obtain ⟨mb, hmb⟩ : ∃ x, mayO y = x := ⟨_, rfl⟩
              rw [hmb] at HT HC
              clear hc hy hmb
              cases hk2 : allO (l.take k) with
              | true =>
                rw [hk2, Bool.true_and] at HT
                clear hk2
                go_wp2_with fail
                refine (HC.out _).mono ?_
                rintro e w6 ⟨rfl, c6⟩
                have ck2 := step_b ck c6
                go_wp2_with fail
                go_roundw
                case rel => exact ⟨k + 1, by omega, by go_num, by rw [HT.out], ck2⟩
                case measure => simp [RowKit.intOf]; omega
              | false =>
                rw [hk2, Bool.false_and] at HT
                clear hk2
                go_wp2_with fail
                go_roundw
                case rel => exact ⟨k + 1, by omega, by go_num, by rw [HT.out], ck⟩
                case measure => simp [RowKit.intOf]; omega
            · have e : k = l.length := by omega
              subst e
              rw [List.take_length, HA.out]
              have bk := step_b b5 ck
              go_wp2_with fail
              refine (HM.out _ _ _ (X5.out.below ck) _ _ (I5.out.below ck)).mono ?_
              rintro e w7 ⟨rfl, c7⟩
              have b7 := step_b bk c7
              go_wp2_with fail
              all_goals (go_ret; exact ⟨rfl, b7⟩)
        · have hcall := hcall0
          clear hcall0 HR hn
          go_wp2_with fail
          refine (hcall _).mono ?_
          rintro e w4 ⟨rfl, c4⟩
          have b4 := step_b b3 c4
          have I4 := Lib.hid (I3.out.below c4)
          have X4 := Lib.hid (X3.out.below c4)
          clear c4 b3 I3 X3
          have HV := Lib.hid (show Calls Try.prog 15 #[.slice none 0 0] w4 fun e w' => e = .returned (.tuple #[.string ⟨#[]⟩, .int .i64 0]) ∧ Below w4.heap.size w4 w' from owrite_any none 0 [] w4 (isO_nil w4) (by decide) (fun o ho => by cases ho) (fun o ho => by cases ho))
          go_wp2_with fail
          refine HV.out.mono ?_
          rintro e w5 ⟨rfl, c5⟩
          have b5 := step_b b4 c5
          have I5 := Lib.hid (I4.out.below c5)
          have X5 := Lib.hid (X4.out.below c5)
          clear c5 b4 I4 HV X4
          go_wp2_with fail
          go_loopw [14, 15] (fun v i w' => ∃ k : Nat, k ≤ l.length ∧ i = .int .i64 k ∧ v = .bool (allO (l.take k)) ∧ Below w5.heap.size w5 w') (fun _ i _ => l.length - (RowKit.intOf i).toNat)
          case atStart => exact ⟨0, Nat.zero_le _, rfl, rfl, Below.refl _ _⟩
          case round =>
            obtain ⟨k, hk, rfl, rfl, ck⟩ := hrel
            by_cases hkl : k < l.length
            · obtain ⟨g, off, rfl, hlt, hc⟩ := (I5.out.below ck).2 (fun e => by rw [e] at hkl; simp at hkl)
              obtain ⟨y, hy⟩ : ∃ y, l[k]? = some y := ⟨l[k], List.getElem?_eq_getElem hkl⟩
              obtain ⟨k0, k1, k2, k3, k4, k5, k6⟩ := hc k y hy
              have HT := Lib.hid (all_take_o hy)
              have HC := Lib.hid (fun w => ochk_any y w (HN.out y (List.mem_of_getElem? hy)).2.1 (HN.out y (List.mem_of_getElem? hy)).1.2.2.2.1 (HN.out y (List.mem_of_getElem? hy)).1.2.2.2.2)
              obtain ⟨mb, hmb⟩ : ∃ x, mayO y = x := ⟨_, rfl⟩
              rw [hmb] at HT HC
              clear hc hy hmb
              cases hk2 : allO (l.take k) with
              | true =>
                rw [hk2, Bool.true_and] at HT
                clear hk2
                go_wp2_with fail
                refine (HC.out _).mono ?_
                rintro e w6 ⟨rfl, c6⟩
                have ck2 := step_b ck c6
                go_wp2_with fail
                go_roundw
                case rel => exact ⟨k + 1, by omega, by go_num, by rw [HT.out], ck2⟩
                case measure => simp [RowKit.intOf]; omega
              | false =>
                rw [hk2, Bool.false_and] at HT
                clear hk2
                go_wp2_with fail
                go_roundw
                case rel => exact ⟨k + 1, by omega, by go_num, by rw [HT.out], ck⟩
                case measure => simp [RowKit.intOf]; omega
            · have e : k = l.length := by omega
              subst e
              rw [List.take_length, HA.out]
              have bk := step_b b5 ck
              go_wp2_with fail
              refine (HM.out _ _ _ (X5.out.below ck) _ _ (I5.out.below ck)).mono ?_
              rintro e w7 ⟨rfl, c7⟩
              have b7 := step_b bk c7
              go_wp2_with fail
              all_goals (go_ret; exact ⟨rfl, b7⟩)
      | false =>
        have ew : wrS l = ⟨#[]⟩ := by unfold wrS; rw [hal]; rfl
        have ee : wrE l = 50 := by unfold wrE; rw [hal]; rfl
        rw [ew, ee] at HW
        have hxr : ∀ w, Calls Try.prog 17 #[.string ⟨#[]⟩] w fun e w' => (∃ a c, e = .returned (.tuple #[.slice a 0 c, .int .i64 0]) ∧ IsO w' a c []) ∧ Below w.heap.size w w' := by
          rcases oread_is ⟨#[]⟩ (by decide) with ⟨m, hm, h⟩ | ⟨hn, _⟩
          · have := opsB_inj (a := []) rfl hm.1 hm.2
            subst this
            exact h
          · exact absurd ⟨rfl, rfl⟩ (hn [])
        have HX := Lib.hid hxr
        clear hxr ew ee hal
        go_wp2_with fail
        refine (HW.out _ I1.out).mono ?_
        rintro e w2 ⟨rfl, c2⟩
        have b2 := step_b b1 c2
        have I2 := Lib.hid (I1.out.below c2)
        clear c2 b1 I1 HW
        go_wp2_with fail
        refine (HX.out _).mono ?_
        rintro e w3 ⟨⟨ax, cx, rfl, hix⟩, c3⟩
        have b3 := step_b b2 c3
        have I3 := Lib.hid (I2.out.below c3)
        have X3 := Lib.hid hix
        clear c3 b2 I2 HX hix
        rcases HR.out with ⟨m, hm, hcall0⟩ | ⟨hn, hcall0⟩
        · have hm5 := opsB_five m
          have hml : m.length ≤ 1000 := by
            have := congrArg List.length hm.2
            have hz : b.data.toList.length = b.size := by simp
            omega
          have hcall := hcall0
          clear hcall0 HR hm5
          go_wp2_with fail
          refine (hcall _).mono ?_
          rintro e w4 ⟨⟨ay, cy, rfl, hiy⟩, c4⟩
          have b4 := step_b b3 c4
          have I4 := Lib.hid (I3.out.below c4)
          clear c4 b3 I3 X3
          have HV := Lib.hid (owrite_any ay cy m w4 hiy (by omega) (all_small hm.1) (all_rng hm.1))
          have ew2 : wrS m = b := by unfold wrS; rw [hm.1, if_pos rfl, ← hm.2]; exact ofL_data b
          have ee2 : wrE m = 0 := by unfold wrE; rw [hm.1]; rfl
          rw [ew2, ee2] at HV
          have HYm := Lib.hid hm
          clear ew2 ee2 hm hiy
          go_wp2_with fail
          refine HV.out.mono ?_
          rintro e w5 ⟨rfl, c5⟩
          have b5 := step_b b4 c5
          have I5 := Lib.hid (I4.out.below c5)
          clear c5 b4 I4 HV
          go_wp2_with fail
          go_loopw [14, 15] (fun v i w' => ∃ k : Nat, k ≤ l.length ∧ i = .int .i64 k ∧ v = .bool (allO (l.take k)) ∧ Below w5.heap.size w5 w') (fun _ i _ => l.length - (RowKit.intOf i).toNat)
          case atStart => exact ⟨0, Nat.zero_le _, rfl, rfl, Below.refl _ _⟩
          case round =>
            obtain ⟨k, hk, rfl, rfl, ck⟩ := hrel
            by_cases hkl : k < l.length
            · obtain ⟨g, off, rfl, hlt, hc⟩ := (I5.out.below ck).2 (fun e => by rw [e] at hkl; simp at hkl)
              obtain ⟨y, hy⟩ : ∃ y, l[k]? = some y := ⟨l[k], List.getElem?_eq_getElem hkl⟩
              obtain ⟨k0, k1, k2, k3, k4, k5, k6⟩ := hc k y hy
              have HT := Lib.hid (all_take_o hy)
              have HC := Lib.hid (fun w => ochk_any y w (HN.out y (List.mem_of_getElem? hy)).2.1 (HN.out y (List.mem_of_getElem? hy)).1.2.2.2.1 (HN.out y (List.mem_of_getElem? hy)).1.2.2.2.2)
              obtain ⟨mb, hmb⟩ : ∃ x, mayO y = x := ⟨_, rfl⟩
              rw [hmb] at HT HC
              clear hc hy hmb
              cases hk2 : allO (l.take k) with
              | true =>
                rw [hk2, Bool.true_and] at HT
                clear hk2
                go_wp2_with fail
                refine (HC.out _).mono ?_
                rintro e w6 ⟨rfl, c6⟩
                have ck2 := step_b ck c6
                go_wp2_with fail
                go_roundw
                case rel => exact ⟨k + 1, by omega, by go_num, by rw [HT.out], ck2⟩
                case measure => simp [RowKit.intOf]; omega
              | false =>
                rw [hk2, Bool.false_and] at HT
                clear hk2
                go_wp2_with fail
                go_roundw
                case rel => exact ⟨k + 1, by omega, by go_num, by rw [HT.out], ck⟩
                case measure => simp [RowKit.intOf]; omega
            · have e : k = l.length := by omega
              subst e
              rw [List.take_length, HA.out]
              have bk := step_b b5 ck
              go_wp2_with fail
              all_goals (go_ret; exact ⟨rfl, bk⟩)
        · have hcall := hcall0
          clear hcall0 HR hn
          go_wp2_with fail
          refine (hcall _).mono ?_
          rintro e w4 ⟨rfl, c4⟩
          have b4 := step_b b3 c4
          have I4 := Lib.hid (I3.out.below c4)
          clear c4 b3 I3 X3
          have HV := Lib.hid (show Calls Try.prog 15 #[.slice none 0 0] w4 fun e w' => e = .returned (.tuple #[.string ⟨#[]⟩, .int .i64 0]) ∧ Below w4.heap.size w4 w' from owrite_any none 0 [] w4 (isO_nil w4) (by decide) (fun o ho => by cases ho) (fun o ho => by cases ho))
          go_wp2_with fail
          refine HV.out.mono ?_
          rintro e w5 ⟨rfl, c5⟩
          have b5 := step_b b4 c5
          have I5 := Lib.hid (I4.out.below c5)
          clear c5 b4 I4 HV
          go_wp2_with fail
          go_loopw [14, 15] (fun v i w' => ∃ k : Nat, k ≤ l.length ∧ i = .int .i64 k ∧ v = .bool (allO (l.take k)) ∧ Below w5.heap.size w5 w') (fun _ i _ => l.length - (RowKit.intOf i).toNat)
          case atStart => exact ⟨0, Nat.zero_le _, rfl, rfl, Below.refl _ _⟩
          case round =>
            obtain ⟨k, hk, rfl, rfl, ck⟩ := hrel
            by_cases hkl : k < l.length
            · obtain ⟨g, off, rfl, hlt, hc⟩ := (I5.out.below ck).2 (fun e => by rw [e] at hkl; simp at hkl)
              obtain ⟨y, hy⟩ : ∃ y, l[k]? = some y := ⟨l[k], List.getElem?_eq_getElem hkl⟩
              obtain ⟨k0, k1, k2, k3, k4, k5, k6⟩ := hc k y hy
              have HT := Lib.hid (all_take_o hy)
              have HC := Lib.hid (fun w => ochk_any y w (HN.out y (List.mem_of_getElem? hy)).2.1 (HN.out y (List.mem_of_getElem? hy)).1.2.2.2.1 (HN.out y (List.mem_of_getElem? hy)).1.2.2.2.2)
              obtain ⟨mb, hmb⟩ : ∃ x, mayO y = x := ⟨_, rfl⟩
              rw [hmb] at HT HC
              clear hc hy hmb
              cases hk2 : allO (l.take k) with
              | true =>
                rw [hk2, Bool.true_and] at HT
                clear hk2
                go_wp2_with fail
                refine (HC.out _).mono ?_
                rintro e w6 ⟨rfl, c6⟩
                have ck2 := step_b ck c6
                go_wp2_with fail
                go_roundw
                case rel => exact ⟨k + 1, by omega, by go_num, by rw [HT.out], ck2⟩
                case measure => simp [RowKit.intOf]; omega
              | false =>
                rw [hk2, Bool.false_and] at HT
                clear hk2
                go_wp2_with fail
                go_roundw
                case rel => exact ⟨k + 1, by omega, by go_num, by rw [HT.out], ck⟩
                case measure => simp [RowKit.intOf]; omega
            · have e : k = l.length := by omega
              subst e
              rw [List.take_length, HA.out]
              have bk := step_b b5 ck
              go_wp2_with fail
              all_goals (go_ret; exact ⟨rfl, bk⟩)
    · have d3 : decide ((3000 : Int) < (b.size : Int)) = true := decide_eq_true (by omega)
      go_wp2
      go_ret
      exact ⟨rfl, b1⟩
end Go.Proofs.Ytjhllkjcaodcgaa
