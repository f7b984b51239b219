/-
  The library's compaction of operations, by the landed question.
-/
import Derived.Test.YtnndanpahcdmaaaStbl
import Derived.Test.YtnndanpahcdmaaaRSorted
import Derived.Test.YtnndanpahcdmaaaPkP
namespace Go.Proofs.Ytnndanpahcdmaaa
open Go.RowKit Go.Lib
set_option maxRecDepth 100000 in
set_option maxHeartbeats 4000000 in
theorem teq_any (a b : Opn) (w : World) :
    Calls Try.prog 64 #[OV a, OV b] w fun e w' => e = .returned (.bool (decide (eqA a b))) ∧ Below w.heap.size w w' := by
  obtain ⟨A, hA⟩ : ∃ A, A = w.alloc (.cells #[.int .i64 a.c, .int .i64 a.r, .int .i64 a.k, .int .i64 a.n, .int .i64 a.p, .string a.s, .string a.d] 26) := ⟨_, rfl⟩
  obtain ⟨C, hC⟩ : ∃ C, C = A.alloc (.cells #[.int .i64 b.c, .int .i64 b.r, .int .i64 b.k, .int .i64 b.n, .int .i64 b.p, .string b.s, .string b.d] 26) := ⟨_, rfl⟩
  have sA : A.heap.size = w.heap.size + 1 := by rw [hA]; simp
  have qA : Below w.heap.size w A := by rw [hA]; exact below_alloc _ _
  have qC : Below A.heap.size A C := by rw [hC]; exact below_alloc _ _
  have b0 := step_b qA qC
  have HA0 := Lib.hid ((by rw [hA]; exact hasO_new w a 26 : HasO A w.heap.size a).below qC)
  have hB : HasO C A.heap.size b := by rw [hC]; exact hasO_new A b 26
  rw [sA] at hB
  have HB0 := Lib.hid hB
  have HBe := Lib.hid b0
  obtain ⟨m0, m1, m2, m3, m4, m5, m6⟩ := HA0.out
  obtain ⟨n0, n1, n2, n3, n4, n5, n6⟩ := HB0.out
  rw [hA] at hC
  clear hB sA qA qC b0
  go_enter Try.func64, Try.ntmps64
  rcases stamp_ways a b with ⟨h1, h2, he⟩ | ⟨h1, he⟩ | ⟨h1, h2, he⟩
  · have HE := Lib.hid (decide_eq_true he)
    clear he
    go_wp2_with fail
    go_ret
    exact ⟨by rw [HE.out]; rfl, by rw [← hC]; exact HBe.out⟩
  · have HE := Lib.hid (decide_eq_false he)
    clear he
    go_wp2_with fail
    go_ret
    exact ⟨by rw [HE.out]; rfl, by rw [← hC]; exact HBe.out⟩
  · have HE := Lib.hid (decide_eq_false he)
    clear he
    go_wp2_with fail
    go_ret
    exact ⟨by rw [HE.out]; rfl, by rw [← hC]; exact HBe.out⟩
theorem cmpA_snoc (x : Opn) : ∀ (r : List Opn) (p : Opn), cmpA p (r ++ [x]) = if eqA x ((p :: r).getLast (by simp)) then cmpA p r else cmpA p r ++ [x]
  | [], p => by
    by_cases h : eqA x p <;> simp [cmpA, h]
  | y :: r, p => by
    have ih := cmpA_snoc x r y
    rw [List.getLast_cons (by simp)]
    simp only [List.cons_append, cmpA, ih]
    by_cases h : eqA y p
    · rw [if_pos h, if_pos h]
    · rw [if_neg h, if_neg h]
      split <;> rfl
theorem cmpt_snoc (x : Opn) (l : List Opn) (hl : l ≠ []) : cmpt (l ++ [x]) = if eqA x (l.getLast hl) then cmpt l else cmpt l ++ [x] := by
  cases l with
  | nil => exact absurd rfl hl
  | cons p r =>
    show p :: cmpA p (r ++ [x]) = _
    rw [cmpA_snoc]
    split <;> rfl
/-- One more that is looked at. -/
theorem cmpt_step {s : List Opn} {j : Nat} {x p : Opn} (hx : s[j + 1]? = some x) (hp : s[j]? = some p) : cmpt (s.take (j + 2)) = if eqA x p then cmpt (s.take (j + 1)) else cmpt (s.take (j + 1)) ++ [x] := by
  have e1 : s.take (j + 2) = s.take (j + 1) ++ [x] := by rw [show j + 2 = (j + 1) + 1 from rfl, List.take_add_one, hx]; rfl
  have e2 : s.take (j + 1) = s.take j ++ [p] := by rw [List.take_add_one, hp]; rfl
  have hne : s.take (j + 1) ≠ [] := by rw [e2]; simp
  have hl : (s.take (j + 1)).getLast hne = p := by
    simp only [e2]; simp
  rw [e1, cmpt_snoc _ _ hne, hl]
theorem cmpt_len (l : List Opn) : (cmpt l).length ≤ l.length := by
  have : ∀ (r : List Opn) (p : Opn), (cmpA p r).length ≤ r.length := by
    intro r
    induction r with
    | nil => intro p; simp [cmpA]
    | cons y r ih =>
      intro p
      unfold cmpA
      split
      · have := ih y; simp only [List.length_cons]; omega
      · have := ih y; simp only [List.length_cons]; omega
  cases l with
  | nil => simp [cmpt]
  | cons p r => unfold cmpt; have := this r p; simp only [List.length_cons]; omega
abbrev EqF : Value := .func (.func 64) #[] #[]
def CmptPost (B g c : Nat) (s : List Opn) (w : World) (e : Ending) (w' : World) : Prop := e = .returned (.slice (some ⟨g, 0, none⟩) (cmpt s).length c) ∧ OwnOp B (cmpt s) (.slice (some ⟨g, 0, none⟩) (cmpt s).length c) w' ∧ Below B w w'
theorem infoOpn : (Try.prog.info? 26).map (fun i => (i.zero, i.size, i.bytes)) = some (some (.agg #[.int .i64 0, .int .i64 0, .int .i64 0, .int .i64 0, .int .i64 0, .string ByteArray.empty, .string ByteArray.empty]), 7, 72) := infoOp
set_option maxRecDepth 100000 in
set_option maxHeartbeats 8000000 in
theorem tcompact_any (B g n c : Nat) (s : List Opn) (w : World) (h : OwnOp B s (.slice (some ⟨g, 0, none⟩) n c) w) (hn : n ≤ 100000) :
    Calls Try.prog 63 #[.slice (some ⟨g, 0, none⟩) n c, EqF] w (CmptPost B g c s w) := by
  obtain ⟨ii, hii, hz, hsz, hby⟩ := info_parts infoOp
  have hnl := h.len
  have hnc : n ≤ c := by
    obtain ⟨_, ⟨e, _⟩ | ⟨g', c', e, _, _, h3, _⟩⟩ := h
    · cases e
    · simp only [Value.slice.injEq] at e; rw [e.2.2, hnl]; exact h3
  have HNl := Lib.hid hnl
  have H0 := Lib.hid h
  clear h hnl
  by_cases h2 : n < 2
  · have HE := Lib.hid (show cmpt s = s by
      match s, HNl.out with
      | [], _ => rfl
      | [x], _ => rfl
      | x :: y :: r, e => simp at e; omega)
    have g0 : (n : Int) < 2 := by omega
    go_enter Try.func63, Try.ntmps63
    go_wp2_with fail
    go_ret
    exact ⟨by rw [HE.out, ← HNl.out]; rfl, by rw [HE.out, ← HNl.out]; exact H0.out, Below.refl _ _⟩
  · have g0 : ¬ (n : Int) < 2 := by omega
    have HOne := Lib.hid (show cmpt (s.take 1) = s.take 1 by
      match s, HNl.out with
      | [], _ => rfl
      | x :: r, _ => rfl)
    go_enter Try.func63, Try.ntmps63
    go_wp2_with fail
    go_loopw [5] (fun u w' => ∃ k : Nat, u = .int .i64 ((k : Int) + 1) ∧ k + 1 ≤ n ∧ cmpt (s.take (k + 1)) = s.take (k + 1) ∧ OwnOp B s (.slice (some ⟨g, 0, none⟩) n c) w' ∧ Below B w w') (fun u _ => n + 1 - (RowKit.intOf u).toNat)
    case atStart => exact ⟨0, rfl, by omega, HOne.out, H0.out, Below.refl _ _⟩
    case round =>
      obtain ⟨k, rfl, hkn, hd, hr, ck⟩ := hrel
      have HDn := Lib.hid hd
      have HR := Lib.hid hr
      clear hd hr
      by_cases hkl : k + 1 < n
      · obtain ⟨x, hx⟩ : ∃ x, s[k + 1]? = some x := ⟨_, List.getElem?_eq_getElem (by rw [← HNl.out]; exact hkl)⟩
        obtain ⟨y, hy⟩ : ∃ y, s[k]? = some y := ⟨_, List.getElem?_eq_getElem (by rw [← HNl.out]; omega)⟩
        have hr4 := HR.out
        have hc1 := hr4.cellsAt op_len hx
        have hc2 := hr4.cellsAt op_len hy
        obtain ⟨p0, p1, p2, p3, p4, p5, p6⟩ := atOp_of hc1.1
        obtain ⟨q0, q1, q2, q3, q4, q5, q6⟩ := atOp_of hc2.1
        have hgl := (hr4.lt g rfl).2
        have hgB := (hr4.lt g rfl).1
        have HEq := Lib.hid (fun w => teq_any x y w)
        have HSt := Lib.hid (cmpt_step hx hy)
        have HTk := Lib.hid (show s.take (k + 2) = s.take (k + 1) ++ [x] by rw [show k + 2 = (k + 1) + 1 from rfl, List.take_add_one, hx]; rfl)
        have g1 : (k : Int) + 1 < (n : Int) := by omega
        have g2 : (k : Int) < (n : Int) := by omega
        have g3 : ((k : Int) + 1).toNat = k + 1 := by omega
        have g4 : (0 : Int) ≤ (k : Int) + 1 := by omega
        obtain ⟨d, hd⟩ : ∃ d, decide (eqA x y) = d := ⟨_, rfl⟩
        rw [hd] at HEq
        have HDc := Lib.hid hd
        clear hd hc1 hc2 hr4 hx hy
        cases d with
        | false =>
          go_wp2_with fail
          refine wp_region_later (by kernel_rfl) (by kernel_rfl) (fun hL => ?_)
          repeat (go_big_quiet_step ((refine later_calls (HEq.out _))))
          intro w1 hw
          have b1 := later_out hw
          have HR1 := Lib.hid (OwnR.below HR.out b1)
          have HB1 := Lib.hid (ck.trans (b1.mono (by omega)))
          have HD2 := Lib.hid (show cmpt (s.take (k + 2)) = s.take (k + 2) by rw [HSt.out, if_neg (of_decide_eq_false HDc.out), HDn.out, HTk.out])
          clear hw hL p0 p1 p2 p3 p4 p5 p6 q0 q1 q2 q3 q4 q5 q6 b1
          go_wp2_with fail
          go_roundw
          case rel => exact ⟨k + 1, by go_num, by omega, HD2.out, HR1.out, HB1.out⟩
          case measure => simp [RowKit.intOf]; omega
        | true =>
          go_wp2_with fail
          refine wp_region_later (by kernel_rfl) (by kernel_rfl) (fun hL => ?_)
          repeat (go_big_quiet_step ((refine later_calls (HEq.out _))))
          intro w1 hw
          have b1 := later_out hw
          have HR1 := Lib.hid (OwnR.below HR.out b1)
          have HB1 := Lib.hid (ck.trans (b1.mono (by omega)))
          have HD2 := Lib.hid (show cmpt (s.take (k + 2)) = s.take (k + 1) by rw [HSt.out, if_pos (of_decide_eq_true HDc.out), HDn.out])
          have HTl := Lib.hid (show (s.take (k + 1)).length = k + 1 by rw [List.length_take, ← HNl.out]; omega)
          clear hw hL p0 p1 p2 p3 p4 p5 p6 q0 q1 q2 q3 q4 q5 q6 b1 HSt HTk HEq HDc HR
          have g5 : ¬ c = k + 1 := by omega
          have g6 : (k : Int) + 1 ≤ (n : Int) := by omega
          go_wp2_with fail
          go_loopw [5, 7] (fun u v w' => ∃ (t p : Nat), u = .int .i64 ((t : Int) + 1) ∧ v = .int .i64 ((p : Int) + 1) ∧ t ≤ k + p ∧ k + p + 2 ≤ n ∧ (cmpt (s.take (k + p + 2))).length = t + 1 ∧ OwnOp B (cmpt (s.take (k + p + 2)) ++ s.drop (t + 1)) (.slice (some ⟨g, 0, none⟩) n c) w' ∧ Below B w w') (fun _ v _ => n + 1 - (RowKit.intOf v).toNat)
          case atStart => exact ⟨k, 0, by go_num, rfl, by omega, by omega, by rw [HD2.out, HTl.out], by rw [HD2.out, List.take_append_drop]; exact HR1.out, HB1.out⟩
          case round =>
            obtain ⟨t, p, rfl, rfl, htp, hpn, hdl, hr3, ck3⟩ := hrel
            have HDl := Lib.hid hdl
            have HR3 := Lib.hid hr3
            clear hdl hr3
            by_cases hpl : k + p + 2 < n
            · obtain ⟨x2, hx2⟩ : ∃ x, s[k + p + 2]? = some x := ⟨_, List.getElem?_eq_getElem (by rw [← HNl.out]; exact hpl)⟩
              obtain ⟨y2, hy2⟩ : ∃ y, s[k + p + 1]? = some y := ⟨_, List.getElem?_eq_getElem (by rw [← HNl.out]; omega)⟩
              have hr4 := HR3.out
              have hat : ∀ (j : Nat) (z : Opn), t + 1 ≤ j → s[j]? = some z → (cmpt (s.take (k + p + 2)) ++ s.drop (t + 1))[j]? = some z := fun j z hj hz => by
                rw [List.getElem?_append_right (by rw [HDl.out]; exact hj), HDl.out, List.getElem?_drop, show t + 1 + (j - (t + 1)) = j by omega]; exact hz
              have hc1 := hr4.cellsAt op_len (hat _ _ (by omega) hx2)
              have hc2 := hr4.cellsAt op_len (hat _ _ (by omega) hy2)
              rw [show (k + p + 2) * 7 = (k + 1) * 7 + (p + 1) * 7 by omega] at hc1
              rw [show (k + p + 1) * 7 = (k + 1) * 7 + p * 7 by omega] at hc2
              have HC1 := Lib.hid hc1.1
              obtain ⟨p0, p1, p2, p3, p4, p5, p6⟩ := atOp_of hc1.1
              obtain ⟨q0, q1, q2, q3, q4, q5, q6⟩ := atOp_of hc2.1
              have hgl := (hr4.lt g rfl).2
              have hgB := (hr4.lt g rfl).1
              have HEq := Lib.hid (fun w => teq_any x2 y2 w)
              have HSt := Lib.hid (show cmpt (s.take (k + (p + 1) + 2)) = if eqA x2 y2 then cmpt (s.take (k + p + 2)) else cmpt (s.take (k + p + 2)) ++ [x2] from cmpt_step (j := k + p + 1) hx2 hy2)
              have HSet := Lib.hid (show (cmpt (s.take (k + p + 2)) ++ s.drop (t + 1)).set (t + 1) x2 = (cmpt (s.take (k + p + 2)) ++ [x2]) ++ s.drop (t + 1 + 1) by
                have hlt : t + 1 < s.length := by rw [← HNl.out]; omega
                rw [List.drop_eq_getElem_cons hlt]
                have := set_between (cmpt (s.take (k + p + 2))) (s.drop (t + 1 + 1)) s[t + 1] x2
                rw [HDl.out] at this
                rw [this]; simp)
              have HLen := Lib.hid (show (cmpt (s.take (k + p + 2)) ++ s.drop (t + 1)).length = n by rw [List.length_append, HDl.out, List.length_drop, ← HNl.out]; omega)
              have g1 : (p : Int) + 1 < ((n - (k + 1) : Nat) : Int) := by omega
              have g2 : (p : Int) < ((n - (k + 1) : Nat) : Int) := by omega
              have g3 : ((p : Int) + 1).toNat = p + 1 := by omega
              have g4 : (0 : Int) ≤ (p : Int) + 1 := by omega
              have g7 : (t : Int) + 1 < (n : Int) := by omega
              have g8 : ((t : Int) + 1).toNat = t + 1 := by omega
              have g9 : (0 : Int) ≤ (t : Int) + 1 := by omega
              obtain ⟨d2, hd2⟩ : ∃ d, decide (eqA x2 y2) = d := ⟨_, rfl⟩
              rw [hd2] at HEq
              have HDc := Lib.hid hd2
              clear hd2 hc1 hc2 hr4 hx2 hy2 hat
              cases d2 with
              | false =>
                go_wp2_with fail
                refine wp_region_later (by kernel_rfl) (by kernel_rfl) (fun hL => ?_)
                repeat (go_big_quiet_step ((refine later_calls (HEq.out _))))
                intro w2 hw
                have b1 := later_out hw
                have HR5 := Lib.hid (OwnR.below HR3.out b1)
                have HB5 := Lib.hid (ck3.trans (b1.mono (by omega)))
                have hbw : B ≤ w2.heap.size := by have := b1.size; omega
                have HD3 := Lib.hid (show cmpt (s.take (k + (p + 1) + 2)) = cmpt (s.take (k + p + 2)) ++ [x2] by rw [HSt.out, if_neg (of_decide_eq_false HDc.out)])
                have hat2 := HC1.out.keep (b1.block g hgl)
                clear hw hL p0 p1 p2 p3 p4 p5 p6 q0 q1 q2 q3 q4 q5 q6 b1
                obtain ⟨p0, p1, p2, p3, p4, p5, p6⟩ := atOp_of hat2
                clear hat2
                go_wp2_with (refine wpList_store_rec op_len op_one rfl rfl 26 _ _ rfl (by kernel_rfl) B g _ _ _ HR5.out (t + 1) (by rw [HLen.out]; omega) x2 _ rfl rfl rfl ?_)
                intro w3 ho3 c3 s3 _
                rw [HSet.out, ← HD3.out] at ho3
                have HO3 := Lib.hid ho3
                have HB3 := Lib.hid (HB5.out.trans c3)
                clear ho3 c3 s3 p0 p1 p2 p3 p4 p5 p6
                go_wp2_with fail
                go_roundw
                case rel => exact ⟨t + 1, p + 1, by go_num, by go_num, by omega, by omega, by rw [HD3.out, List.length_append, HDl.out]; rfl, HO3.out, HB3.out⟩
                case measure => simp [RowKit.intOf]; omega
              | true =>
                go_wp2_with fail
                refine wp_region_later (by kernel_rfl) (by kernel_rfl) (fun hL => ?_)
                repeat (go_big_quiet_step ((refine later_calls (HEq.out _))))
                intro w2 hw
                have b1 := later_out hw
                have HR5 := Lib.hid (OwnR.below HR3.out b1)
                have HB5 := Lib.hid (ck3.trans (b1.mono (by omega)))
                have HD3 := Lib.hid (show cmpt (s.take (k + (p + 1) + 2)) = cmpt (s.take (k + p + 2)) by rw [HSt.out, if_pos (of_decide_eq_true HDc.out)])
                clear hw hL p0 p1 p2 p3 p4 p5 p6 q0 q1 q2 q3 q4 q5 q6 b1
                go_wp2_with fail
                go_roundw
                case rel => exact ⟨t, p + 1, rfl, by go_num, by omega, by omega, by rw [HD3.out, HDl.out], by rw [HD3.out]; exact HR5.out, HB5.out⟩
                case measure => simp [RowKit.intOf]; omega
            · have hall : s.take (k + p + 2) = s := List.take_of_length_le (by rw [← HNl.out]; omega)
              have hr5 := HR3.out
              rw [hall] at hr5
              have hD := HDl.out
              rw [hall] at hD
              have hfr := OwnR.front op_len hr5 (t + 1) (by rw [List.length_append, hD]; omega)
              rw [List.take_left' hD] at hfr
              have HFr := Lib.hid hfr
              have HDc := Lib.hid hD
              have hgB := (hfr.lt g rfl)
              have g1 : ¬ (p : Int) + 1 < ((n - (k + 1) : Nat) : Int) := by omega
              have g7 : (t : Int) + 1 ≤ (n : Int) := by omega
              have g8 : ((t : Int) + 1).toNat = t + 1 := by omega
              have g9 : (0 : Int) ≤ (t : Int) + 1 := by omega
              have ga : ¬ c = t + 1 := by omega
              have gb : (t : Int) + 1 ≤ (c : Int) := by omega
              have hBw : B ≤ wr.heap.size := Nat.le_trans hgB.1 (Nat.le_of_lt hgB.2)
              have htn : t + 1 + (n - (t + 1)) ≤ c := by omega
              clear hall hr5 hD hfr
              go_wp2_with (refine wpList_clear_rec op_len rfl _ 22 rfl B 26 ii _ Try.underlying22 hii hz rfl (op_one ⟨0, 0, 0, 0, 0, emptyB, emptyB⟩) (by omega) g _ _ _ HFr.out (t + 1) _ (n - (t + 1)) _ rfl rfl (by rw [HDc.out]; exact Nat.le_refl _) htn hBw ?_)
              intro w3 ho3 c3 _
              have HO3 := Lib.hid ho3
              have HB3 := Lib.hid (ck3.trans c3)
              clear ho3 c3
              go_wp2_with fail
              go_ret
              exact ⟨by rw [HDc.out]; rfl, by rw [HDc.out]; exact HO3.out, HB3.out⟩
      · have hall : s.take (k + 1) = s := List.take_of_length_le (by rw [← HNl.out]; omega)
        have HE := Lib.hid (show cmpt s = s by have := HDn.out; rwa [hall] at this)
        have g1 : ¬ (k : Int) + 1 < (n : Int) := by omega
        clear hall
        go_wp2_with fail
        go_ret
        exact ⟨by rw [HE.out, ← HNl.out]; rfl, by rw [HE.out, ← HNl.out]; exact HR.out, ck⟩
end Go.Proofs.Ytnndanpahcdmaaa
