/-
  The landed package tree: slices.Delete of one node, and Back.
-/
import Derived.Test.YtnndanpahcdmaaaTDo
import Derived.Test.YtnndanpahcdmaaaPkR
import Derived.Test.YtnndanpahcdmaaaRFold
namespace Go.Proofs.Ytnndanpahcdmaaa
open Go.RowKit Go.Lib
/-- What is left in the row when the i-th is taken out. -/
def DelPost (B g c : Nat) (l : List Nod) (i : Nat) (w : World) (e : Ending) (w' : World) : Prop :=
  e = .returned (.slice (some ⟨g, 0, none⟩) (l.length - 1) c) ∧ OwnNd B (l.take i ++ l.drop (i + 1)) (.slice (some ⟨g, 0, none⟩) (l.length - 1) c) w' ∧ Below B w w' ∧ Rest w (some g) w'
set_option maxRecDepth 100000 in
set_option maxHeartbeats 4000000 in
theorem tdel_any (B : Nat) (l : List Nod) (g c i : Nat) (w : World) (h : OwnNd B l (.slice (some ⟨g, 0, none⟩) l.length c) w) (hB : B ≤ w.heap.size) (hi : i < l.length) (hl : l.length ≤ 100000) :
    Calls Try.prog 78 #[.slice (some ⟨g, 0, none⟩) l.length c, .int .i64 i, .int .i64 ((i : Int) + 1)] w (DelPost B g c l i w) := by
  obtain ⟨ii, hii, hz, hsz, hby⟩ := info_parts infoN
  obtain ⟨_, _, e0, hgB, hgl, hlc, hcm⟩ := h.row (by intro e; rw [e] at hi; simp at hi)
  simp only [Value.slice.injEq, Option.some.injEq, Addr.mk.injEq, and_true] at e0
  obtain ⟨rfl, _, rfl⟩ := e0
  obtain ⟨n, hn⟩ : ∃ n, l.length = n := ⟨_, rfl⟩
  have HN := Lib.hid hn
  have HF := Lib.hid (h.front nd_len i (by omega))
  have HR := Lib.hid (isR_drop (OwnR.isRv nd_len h) (i + 1))
  have HD := Lib.hid (show (l.drop (i + 1)).length = n - (i + 1) by rw [List.length_drop, hn])
  have HT := Lib.hid (show (l.take i).length = i by rw [List.length_take]; omega)
  have HE := Lib.hid (show i + (l.length - (i + 1)) = n - 1 by omega)
  have HLn := Lib.hid (show (l.take i ++ l.drop (i + 1)).length = n - 1 by rw [List.length_append, List.length_take, List.length_drop]; omega)
  unfold DelPost
  rw [hn] at hi hl hlc ⊢
  clear h hn
  have g0 : (0 : Int) ≤ (i : Int) + 1 := by omega
  have g1 : ((i : Int) + 1).toNat = i + 1 := by omega
  have g2 : (i : Int) + 1 ≤ (n : Int) := by omega
  have g3 : (n : Int) ≤ (c : Int) := by omega
  have g4 : (i : Int) + 1 ≤ (c : Int) := by omega
  have g5 : (i : Int) ≤ (i : Int) + 1 := by omega
  have g6 : ¬ n = i := by omega
  have g7 : ¬ c = i := by omega
  have g8 : (i : Int) ≤ (c : Int) := by omega
  have g9 : ((i : Int) == (i : Int) + 1) = false := by rw [beq_eq_false_iff_ne]; omega
  have ga : i ≤ i + 1 := by omega
  have gb : (((n - 1 : Nat)) : Int) ≤ (n : Int) := by omega
  have gc : ¬ c = n - 1 := by omega
  have gd : n - (n - 1) = 1 := by omega
  go_enter Try.func78, Try.ntmps78
  by_cases hci : c = i + 1
  · subst hci
    obtain rfl : n = i + 1 := by omega
    have HD0 := Lib.hid (show l.drop (i + 1) = [] from List.drop_of_length_le (by have := HN.out; omega))
    have gj : (i + 1) - (i + 1) = 0 := by omega
    have HLt := Lib.hid (show (l.take i ++ l.drop (i + 1)) = l.take i by rw [HD0.out, List.append_nil])
    go_wp2_with fail
    refine wp_region_t 6 (by kernel_rfl) (by kernel_rfl) ?_
    simp only [List.take_succ_cons, List.take_zero, List.drop_succ_cons, List.drop_zero]
    iterate 6 (refine wpL_pure (fun K hK => ?_); go_simp; (try go_ints); refine hK _ ?_; clear hK K)
    refine wpL_nil (fun xs nl _ => ?_)
    have HF1 := Lib.hid (OwnR.below HF.out nl.below)
    have HR1 := Lib.hid (HR.out.below nl.below)
    have hb1 := nl.below
    have hs1 := hb1.size
    generalize nl.w = w1 at HF1 HR1 hb1 hs1 ⊢
    have HO2 := HF1
    have HB2 := Lib.hid (hb1.mono hB)
    have R2 := Lib.hid (Rest.below hb1 (some g))
    clear HF1 HR1
    go_wp2_with (refine wpList_clear_rec nd_len rfl _ 30 rfl B 45 ii _ Try.underlying30 hii hz rfl (nd_one noNod) (by omega) g _ _ _ HO2.out i _ 1 _ rfl rfl (by rw [HT.out]; exact Nat.le_refl _) (by omega) (by omega) ?_)
    intro w3 ho3 c3 g3'
    have HO3 := Lib.hid ho3
    have HB3 := Lib.hid (HB2.out.trans c3)
    have R3 := Lib.hid (Rest.trans R2.out (Rest.of g3') (fun _ h => .inr h))
    clear ho3 c3 g3'
    go_wp2_with fail
    go_ret
    exact ⟨rfl, by rw [HLt.out]; exact HO3.out, HB3.out, R3.out⟩
  · skip
    go_wp2_with fail
    refine wp_region_t 6 (by kernel_rfl) (by kernel_rfl) ?_
    simp only [List.take_succ_cons, List.take_zero, List.drop_succ_cons, List.drop_zero]
    iterate 6 (refine wpL_pure (fun K hK => ?_); go_simp; (try go_ints); refine hK _ ?_; clear hK K)
    refine wpL_nil (fun xs nl _ => ?_)
    have HF1 := Lib.hid (OwnR.below HF.out nl.below)
    have HR1 := Lib.hid (HR.out.below nl.below)
    have hb1 := nl.below
    have hs1 := hb1.size
    generalize nl.w = w1 at HF1 HR1 hb1 hs1 ⊢
    go_wp2_with (at_builtin; refine wpList_append_room rfl _ _ 30 rfl B 45 ii _ 80 Try.underlying30 hii hz hsz hby rfl g i c (l.take i) (l.drop (i + 1)) rfl HF1.out _ rfl (by have := src_at (P := Try.prog) (t := 30) nd_len nd_one Try.underlying30 HR1.out (L := n - (i + 1)) HD.out.symm; rwa [Nat.zero_add] at this) (by rw [HD.out]; omega) (by rw [HD.out, HT.out]; omega) (by omega) ?_)
    intro w2 ho2 c2 g2'
    rw [HE.out] at ho2 ⊢
    have HO2 := Lib.hid ho2
    have HB2 := Lib.hid ((hb1.mono hB).trans c2)
    have R2 := Lib.hid (Rest.trans (Rest.below hb1 (some g)) (Rest.of g2') (fun _ h => .inr h))
    have hs2 := c2.size
    have hs2b := g2'.size
    clear ho2 c2 g2' HF1 HR1 hb1
    go_wp2_with (refine wpList_clear_rec nd_len rfl _ 30 rfl B 45 ii _ Try.underlying30 hii hz rfl (nd_one noNod) (by omega) g _ _ _ HO2.out (n - 1) _ 1 _ rfl rfl (by rw [HLn.out]; exact Nat.le_refl _) (by omega) (by omega) ?_)
    intro w3 ho3 c3 g3'
    have HO3 := Lib.hid ho3
    have HB3 := Lib.hid (HB2.out.trans c3)
    have R3 := Lib.hid (Rest.trans R2.out (Rest.of g3') (fun _ h => .inr h))
    clear ho3 c3 g3'
    go_wp2_with fail
    go_ret
    exact ⟨rfl, HO3.out, HB3.out, R3.out⟩
theorem back_not {l : List Nod} {o : Opn} {u : Und} (h : chkN l = false ∨ u.did = false) : backN l o u = l := by
  unfold backN
  rcases h with h | h <;> simp [h]
def undB (o : Opn) (u : Und) : Bool := u.had && (decide (u.was.id = o.n) && isN o.n)
theorem back_with {l : List Nod} {o : Opn} {u : Und} (h : chkN l = true) (hd : u.did = true) (hu : undB o u = true) : backN l o u = (without l o.n).take (posN l o.n) ++ u.was :: (without l o.n).drop (posN l o.n) := by
  have e : u.was.id = o.n := by
    unfold undB at hu
    simp only [Bool.and_eq_true, decide_eq_true_eq] at hu
    exact hu.2.1
  unfold backN
  rw [h, hd, if_pos (by rfl), if_pos (by exact hu), with_after (chkN_iff.1 h) u.was, e]
theorem back_without {l : List Nod} {o : Opn} {u : Und} (h : chkN l = true) (hd : u.did = true) (hu : undB o u = false) : backN l o u = without l o.n := by
  unfold backN
  rw [h, hd, if_pos (by rfl), if_neg (by unfold undB at hu; rw [hu]; simp)]
def NodsOwn (r : List Nod) (w : World) (e : Ending) (w' : World) : Prop := ∃ a c, e = .returned (.slice a r.length c) ∧ OwnNd w.heap.size r (.slice a r.length c) w' ∧ Below w.heap.size w w'
set_option maxRecDepth 100000 in
set_option maxHeartbeats 8000000 in
theorem tback_own (a : Option Addr) (c : Nat) (l : List Nod) (o : Opn) (u : Und) (w : World) (h : IsNd w a c l) (hl : l.length ≤ 1000) (hr : RgNs l) (hro : RgO o) (_hu : RgN u.was) :
    Calls Try.prog 68 #[.slice a l.length c, OV o, UV u] w (NodsOwn (backN l o u) w) := by
  obtain ⟨A, hA⟩ : ∃ A, A = w.alloc (.cells #[.int .i64 o.c, .int .i64 o.r, .int .i64 o.k, .int .i64 o.n, .int .i64 o.p, .string o.s, .string o.d] 26) := ⟨_, rfl⟩
  obtain ⟨C, hC⟩ : ∃ C, C = A.alloc (.cells #[.bool u.did, .bool u.had, .int .i64 u.was.id, .int .i64 u.was.p, .string u.was.s, .int .i64 u.was.mc, .int .i64 u.was.mr, .string u.was.d, .int .i64 u.was.wc, .int .i64 u.was.wr] 47) := ⟨_, rfl⟩
  have sA : A.heap.size = w.heap.size + 1 := by rw [hA]; simp
  have sC : C.heap.size = w.heap.size + 2 := by rw [hC]; simp [sA]
  have qA : Below w.heap.size w A := by rw [hA]; exact below_alloc _ _
  have qC : Below A.heap.size A C := by rw [hC]; exact below_alloc _ _
  have b0 := step_b qA qC
  have HO0 := Lib.hid ((by rw [hA]; exact hasO_new w o 26 : HasO A w.heap.size o).below qC)
  have hU : Cells C A.heap.size (cellsU u) := by rw [hC]; exact cells_new A (cellsU u) 47
  rw [sA] at hU
  have HU0 := Lib.hid hU
  have HL0 := Lib.hid (h.below b0)
  have HB0 := Lib.hid b0
  have HRg := Lib.hid hr
  have hrn := hro.2.2.2.1
  rw [hA] at hC
  clear h hU qA qC sA b0 hr hro
  obtain ⟨k1, hk1⟩ : ∃ b, chkN l = b := ⟨_, rfl⟩
  obtain ⟨k2, hk2⟩ : ∃ b, u.did = b := ⟨_, rfl⟩
  have HK1 := Lib.hid hk1
  have HK2 := Lib.hid hk2
  clear hk1 hk2
  have HOw := Lib.hid (town_any a c l C HL0.out (by omega))
  go_enter Try.func68, Try.ntmps68
  go_wp2_with fail
  rw [← hC]
  clear hC hA
  refine (HOw.out).mono ?_
  rintro e w1 ⟨v, rfl, hown, c1⟩
  have HN1 := Lib.hid hown
  have HL1 := Lib.hid (HL0.out.below c1)
  have HU1 := Lib.hid (HU0.out.below c1)
  have HO1 := Lib.hid (HO0.out.below c1)
  have HB1 := Lib.hid (step_b HB0.out c1)
  have hs1 := c1.size
  obtain ⟨av, cv, rfl, _⟩ := OwnR.isR nd_len hown
  clear hown c1 HOw
  go_wp2_with fail
  refine (tchk_any a c l w1 HL1.out (by omega) HRg.out).mono ?_
  rintro e w2 ⟨rfl, c2⟩
  rw [HK1.out]
  have HN2 := Lib.hid (OwnR.below HN1.out c2)
  have HU2 := Lib.hid (HU1.out.below c2)
  have HO2 := Lib.hid (HO1.out.below c2)
  have HB2 := Lib.hid (step_b HB1.out c2)
  have hs2 := c2.size
  clear c2 HN1 HU1 HO1 HB1 HL1
  obtain ⟨u0, u1, u2, u3, u4, u5, u6, u7, u8, u9⟩ := cellU_cells HU2.out
  obtain ⟨m0, m1, m2, m3, m4, m5, m6⟩ := HO2.out
  cases k1 with
  | false =>
    have HD := Lib.hid (back_not (o := o) (u := u) (.inl HK1.out))
    go_wp2_with fail
    go_ret
    exact ⟨av, cv, by rw [HD.out]; rfl, by rw [HD.out]; exact OwnR.mono HN2.out HB0.out.size, HB2.out⟩
  | true =>
    rw [HK2.out] at u0
    cases k2 with
    | false =>
      have HD := Lib.hid (back_not (l := l) (o := o) (.inr HK2.out))
      go_wp2_with fail
      go_ret
      exact ⟨av, cv, by rw [HD.out]; rfl, by rw [HD.out]; exact OwnR.mono HN2.out HB0.out.size, HB2.out⟩
    | true =>
      have HM := Lib.hid (chkN_iff.1 HK1.out)
      have HPl := Lib.hid (tplace_any av cv l o.n w2 (OwnR.isRv nd_len HN2.out) HM.out (by omega))
      have hpl := posN_le l o.n
      have HIs := Lib.hid (fun w => tisnum_any o.n hrn w)
      obtain ⟨isn, hisn⟩ : ∃ b, isN o.n = b := ⟨_, rfl⟩
      rw [hisn] at HIs
      have HIN := Lib.hid hisn
      obtain ⟨hd, hhd⟩ : ∃ b, u.had = b := ⟨_, rfl⟩
      have HHD := Lib.hid hhd
      obtain ⟨eq, heq⟩ : ∃ b, (u.was.id == o.n) = b := ⟨_, rfl⟩
      have HEQ := Lib.hid heq
      have HEQD := Lib.hid (show decide (u.was.id = o.n) = eq by rw [← heq]; rfl)
      clear hisn hhd heq
      cases hg : getN l o.n with
      | none =>
        rw [hg] at HPl
        have HW := Lib.hid (without_none (getN_none hg))
        obtain ⟨i, hi⟩ : ∃ i, posN l o.n = i := ⟨_, rfl⟩
        have HI := Lib.hid hi
        rw [hi] at HPl hpl
        clear hg hi
        have hi1 : i ≤ l.length := hpl
        go_wp2_with fail
        refine (HPl.out).mono ?_
        rintro e w4 ⟨rfl, c4⟩
        have HN4 := Lib.hid (OwnR.below HN2.out c4)
        have HU4 := Lib.hid (HU2.out.below c4)
        have HO4 := Lib.hid (HO2.out.below c4)
        have HB4 := Lib.hid (step_b HB2.out c4)
        have hs4 := c4.size
        clear c4 HPl HN2 HU2 HO2 HB2 u0 u1 u2 u3 u4 u5 u6 u7 u8 u9 m0 m1 m2 m3 m4 m5 m6
        obtain ⟨u0, u1, u2, u3, u4, u5, u6, u7, u8, u9⟩ := cellU_cells HU4.out
        obtain ⟨m0, m1, m2, m3, m4, m5, m6⟩ := HO4.out
        rw [HHD.out] at u1
        have heq2 := HEQ.out
        cases hd with
        | false =>
          have HD := Lib.hid (back_without HK1.out HK2.out (show undB o u = false by unfold undB; rw [HHD.out]; rfl))
          go_wp2_with fail
          go_ret
          exact ⟨av, cv, by rw [HD.out, HW.out]; rfl, by rw [HD.out, HW.out]; exact OwnR.mono HN4.out HB0.out.size, HB4.out⟩
        | true =>
          cases eq with
          | false =>
            have HD := Lib.hid (back_without HK1.out HK2.out (show undB o u = false by unfold undB; rw [HHD.out, HEQD.out]; rfl))
            go_wp2_with fail
            go_ret
            exact ⟨av, cv, by rw [HD.out, HW.out]; rfl, by rw [HD.out, HW.out]; exact OwnR.mono HN4.out HB0.out.size, HB4.out⟩
          | true =>
            cases isn with
            | false =>
              have HD := Lib.hid (back_without HK1.out HK2.out (show undB o u = false by unfold undB; rw [HHD.out, HEQD.out, HIN.out]; rfl))
              go_wp2_with fail
              refine (HIs.out _).mono ?_
              rintro e w5 ⟨rfl, c5⟩
              have HN5 := Lib.hid (OwnR.below HN4.out c5)
              have HB5 := Lib.hid (step_b HB4.out c5)
              clear c5
              go_wp2_with fail
              go_ret
              exact ⟨av, cv, by rw [HD.out, HW.out]; rfl, by rw [HD.out, HW.out]; exact OwnR.mono HN5.out HB0.out.size, HB5.out⟩
            | true =>
              have HD := Lib.hid (back_with HK1.out HK2.out (show undB o u = true by unfold undB; rw [HHD.out, HEQD.out, HIN.out]; rfl))
              go_wp2_with fail
              refine (HIs.out _).mono ?_
              rintro e w5 ⟨rfl, c5⟩
              have HN5 := Lib.hid (OwnR.below HN4.out c5)
              have HU5 := Lib.hid (HU4.out.below c5)
              have HB5 := Lib.hid (step_b HB4.out c5)
              have hs5 := c5.size
              clear c5 heq2 u0 u1 u2 u3 u4 u5 u6 u7 u8 u9 m0 m1 m2 m3 m4 m5 m6
              obtain ⟨u0, u1, u2, u3, u4, u5, u6, u7, u8, u9⟩ := cellU_cells HU5.out
              have hLay := (tlay_any C.heap.size l u.was i av cv w5 HN5.out (by omega) hi1 (by omega))
              have HLay := Lib.hid hLay
              clear hLay
              go_wp2_with fail
              refine (HLay.out).mono ?_
              rintro e w6 ⟨v6, rfl, hl6, c6, _⟩
              have HB6 := Lib.hid (HB5.out.trans (c6.mono (by omega)))
              obtain ⟨l2, hl2⟩ : ∃ l2, (l.take i ++ u.was :: l.drop i) = l2 := ⟨_, rfl⟩
              rw [hl2] at hl6
              have HL2 := Lib.hid hl2
              clear hl2
              have HL6 := Lib.hid hl6
              obtain ⟨a6, k6, rfl, _⟩ := OwnR.isR nd_len hl6
              clear hl6 c6
              go_wp2_with fail
              go_ret
              exact ⟨a6, k6, by rw [HD.out, HW.out, HI.out, HL2.out]; rfl, by rw [HD.out, HW.out, HI.out, HL2.out]; exact OwnR.mono HL6.out HB0.out.size, HB6.out⟩
      | some x =>
        rw [hg] at HPl
        have HW := Lib.hid (without_some HM.out hg)
        have hx := pos_some HM.out hg
        obtain ⟨i, hi⟩ : ∃ i, posN l o.n = i := ⟨_, rfl⟩
        have HI := Lib.hid hi
        rw [hi] at HPl hpl hx
        rw [hi] at HW
        have hilt := (List.getElem?_eq_some_iff.1 hx).1
        clear hg hi hx
        obtain ⟨g, cg, e, hg1, hg2, _⟩ := HN2.out.row (by intro e; rw [e] at hilt; simp at hilt)
        simp only [Value.slice.injEq] at e
        obtain ⟨rfl, _, rfl⟩ := e
        go_wp2_with fail
        refine (HPl.out).mono ?_
        rintro e w3 ⟨rfl, c3⟩
        have HN3 := Lib.hid (OwnR.below HN2.out c3)
        have HU3 := Lib.hid (HU2.out.below c3)
        have HO3 := Lib.hid (HO2.out.below c3)
        have HB3 := Lib.hid (step_b HB2.out c3)
        have hs3 := c3.size
        have hi63 : (i : Int) + 1 ≤ 9223372036854775807 := by omega
        have HDel := Lib.hid (tdel_any C.heap.size l g cv i w3 HN3.out (by have := HB3.out.size; omega) hilt (by omega))
        clear c3 HPl HN2 HU2 HO2 HB2 u0 u1 u2 u3 u4 u5 u6 u7 u8 u9 m0 m1 m2 m3 m4 m5 m6
        go_wp2_with fail
        refine (HDel.out).mono ?_
        rintro e w4 ⟨rfl, hn4, c4, r4⟩
        have hgC : C.heap.size ≤ g := hg1
        have HU4 := Lib.hid (HU3.out.keep r4.1 (r4.block HU3.out.lt (fun e => by cases e; omega)))
        have HO4 := Lib.hid (HO3.out.keep (r4.block HO3.out.lt (fun e => by cases e; omega)))
        have HB4 := Lib.hid (HB3.out.trans (c4.mono (by omega)))
        have HN4 := Lib.hid hn4
        have hs4 := r4.1
        obtain ⟨l1, hl1⟩ : ∃ l1, l.take i ++ l.drop (i + 1) = l1 := ⟨_, rfl⟩
        have hlen1 : l1.length = l.length - 1 := by rw [← hl1]; simp only [List.length_append, List.length_take, List.length_drop]; omega
        rw [hl1] at HN4 HW
        have hi1 : i ≤ l1.length := by omega
        have hll1 : l1.length ≤ 100000 := by omega
        have HLen := Lib.hid hlen1
        clear hl1 hlen1 hn4 c4 r4 HDel HN3 HU3 HO3 HB3
        obtain ⟨u0, u1, u2, u3, u4, u5, u6, u7, u8, u9⟩ := cellU_cells HU4.out
        obtain ⟨m0, m1, m2, m3, m4, m5, m6⟩ := HO4.out
        rw [HHD.out] at u1
        have heq2 := HEQ.out
        cases hd with
        | false =>
          have HD := Lib.hid (back_without HK1.out HK2.out (show undB o u = false by unfold undB; rw [HHD.out]; rfl))
          go_wp2_with fail
          go_ret
          exact ⟨(some ⟨g, 0, none⟩), cv, by rw [HD.out, HW.out]; rw [HLen.out]; rfl, by rw [HD.out, HW.out, HLen.out]; exact OwnR.mono HN4.out HB0.out.size, HB4.out⟩
        | true =>
          cases eq with
          | false =>
            have HD := Lib.hid (back_without HK1.out HK2.out (show undB o u = false by unfold undB; rw [HHD.out, HEQD.out]; rfl))
            go_wp2_with fail
            go_ret
            exact ⟨(some ⟨g, 0, none⟩), cv, by rw [HD.out, HW.out]; rw [HLen.out]; rfl, by rw [HD.out, HW.out, HLen.out]; exact OwnR.mono HN4.out HB0.out.size, HB4.out⟩
          | true =>
            cases isn with
            | false =>
              have HD := Lib.hid (back_without HK1.out HK2.out (show undB o u = false by unfold undB; rw [HHD.out, HEQD.out, HIN.out]; rfl))
              go_wp2_with fail
              refine (HIs.out _).mono ?_
              rintro e w5 ⟨rfl, c5⟩
              have HN5 := Lib.hid (OwnR.below HN4.out c5)
              have HB5 := Lib.hid (step_b HB4.out c5)
              clear c5
              go_wp2_with fail
              go_ret
              exact ⟨(some ⟨g, 0, none⟩), cv, by rw [HD.out, HW.out]; rw [HLen.out]; rfl, by rw [HD.out, HW.out, HLen.out]; exact OwnR.mono HN5.out HB0.out.size, HB5.out⟩
            | true =>
              have HD := Lib.hid (back_with HK1.out HK2.out (show undB o u = true by unfold undB; rw [HHD.out, HEQD.out, HIN.out]; rfl))
              go_wp2_with fail
              refine (HIs.out _).mono ?_
              rintro e w5 ⟨rfl, c5⟩
              have HN5 := Lib.hid (OwnR.below HN4.out c5)
              have HU5 := Lib.hid (HU4.out.below c5)
              have HB5 := Lib.hid (step_b HB4.out c5)
              have hs5 := c5.size
              clear c5 heq2 u0 u1 u2 u3 u4 u5 u6 u7 u8 u9 m0 m1 m2 m3 m4 m5 m6
              obtain ⟨u0, u1, u2, u3, u4, u5, u6, u7, u8, u9⟩ := cellU_cells HU5.out
              have hLay := (tlay_any C.heap.size l1 u.was i (some ⟨g, 0, none⟩) cv w5 (by rw [HLen.out]; exact HN5.out) (by omega) hi1 (by omega))
              rw [HLen.out] at hLay
              have HLay := Lib.hid hLay
              clear hLay
              go_wp2_with fail
              refine (HLay.out).mono ?_
              rintro e w6 ⟨v6, rfl, hl6, c6, _⟩
              have HB6 := Lib.hid (HB5.out.trans (c6.mono (by omega)))
              obtain ⟨l2, hl2⟩ : ∃ l2, (l1.take i ++ u.was :: l1.drop i) = l2 := ⟨_, rfl⟩
              rw [hl2] at hl6
              have HL2 := Lib.hid hl2
              clear hl2
              have HL6 := Lib.hid hl6
              obtain ⟨a6, k6, rfl, _⟩ := OwnR.isR nd_len hl6
              clear hl6 c6
              go_wp2_with fail
              go_ret
              exact ⟨a6, k6, by rw [HD.out, HW.out, HI.out, HL2.out]; rfl, by rw [HD.out, HW.out, HI.out, HL2.out]; exact OwnR.mono HL6.out HB0.out.size, HB6.out⟩
theorem tback_any (a : Option Addr) (c : Nat) (l : List Nod) (o : Opn) (u : Und) (w : World) (h : IsNd w a c l) (hl : l.length ≤ 1000) (hr : RgNs l) (hro : RgO o) (hu : RgN u.was) :
    Calls Try.prog 68 #[.slice a l.length c, OV o, UV u] w (NodsPost (backN l o u) w) := (tback_own a c l o u w h hl hr hro hu).mono fun _ _ ⟨a', c', he, hv, hb⟩ => ⟨a', c', he, OwnR.isRv nd_len hv, hb⟩
end Go.Proofs.Ytnndanpahcdmaaa
