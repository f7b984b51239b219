/-
  MergeOps: behind an operation that is added a log has that one more, at its place, and all others as they were.
-/
import Derived.Test.YtnndanpahcdmaaaMRel
namespace Go.Proofs.Ytnndanpahcdmaaa
open Go.RowKit Go.Lib
theorem mspl_at (S : List Opn) (o : Opn) (k : Nat) (hk : k ≤ S.length) : (S.take k ++ o :: S.drop k)[k]? = some o := by
  rw [List.getElem?_append_right (by rw [List.length_take]; omega), List.length_take, Nat.min_eq_left hk, Nat.sub_self]; rfl
theorem mspl_drop (S : List Opn) (o : Opn) (k : Nat) (hk : k ≤ S.length) : (S.take k ++ o :: S.drop k).drop (k + 1) = S.drop k := by
  rw [List.drop_append, List.length_take, Nat.min_eq_left hk, List.drop_of_length_le (by rw [List.length_take]; omega), List.nil_append, show k + 1 - k = 1 by omega]; rfl
theorem AtOp.below_of {w w' : World} {b off : Nat} {o : Opn} (h : AtOp w b off o) (hb : b < w.heap.size) (hbw : Below w.heap.size w w') : AtOp w' b off o := by
  obtain ⟨m0, m1, m2, m3, m4, m5, m6⟩ := h
  have e : ∀ j, w'.cell? ⟨b, j, none⟩ = w.cell? ⟨b, j, none⟩ := fun j => hbw.cell (p := ⟨b, j, none⟩) hb
  exact ⟨(e _).trans m0, (e _).trans m1, (e _).trans m2, (e _).trans m3, (e _).trans m4, (e _).trans m5, (e _).trans m6⟩
set_option maxRecDepth 100000 in
theorem slice_same {w' : World} {gi oi : Nat} {aw : Option Addr} {ci cw tl k : Nat} {S T : List Opn} (h1 : IsOp w' (some ⟨gi, oi, none⟩) ci T) (h2 : IsOp w' aw cw S) (hT : T.drop (k + 1) = S.drop k) (htl : T.length = tl) (hn : tl = S.length + 1) (hk : k ≤ S.length) (hS : S.length ≤ 1000) (X Y : Option Addr) (hX1 : ci = k + 1 → X = some ⟨gi, oi, none⟩) (hX2 : ¬ ci = k + 1 → X = some ⟨gi, oi + (k + 1) * 7, none⟩) (hY1 : cw = k → Y = aw) (hY2 : ¬ cw = k → Y = Option.map (fun x => x.add (k * 7)) aw) :
    Calls Try.prog 18 #[.slice X (tl - (k + 1)) (ci - (k + 1)), .slice Y (S.length - k) (cw - k)] w' fun e w'' => e = .returned (.bool true) ∧ Below w'.heap.size w' w'' := by
  have g1 := isR_slice h1 (k + 1) (by omega)
  have g2 := isR_slice h2 k hk
  rw [hT] at g1
  have e : (if ci = k + 1 then some (⟨gi, oi, none⟩ : Addr) else Option.map (fun x : Addr => x.add ((k + 1) * 7)) (some ⟨gi, oi, none⟩)) = (if ci = k + 1 then some ⟨gi, oi, none⟩ else some ⟨gi, oi + (k + 1) * 7, none⟩) := by simp [Addr.add]
  rw [e] at g1
  have eX : X = (if ci = k + 1 then some ⟨gi, oi, none⟩ else some ⟨gi, oi + (k + 1) * 7, none⟩) := by
    by_cases h : ci = k + 1
    · rw [if_pos h]; exact hX1 h
    · rw [if_neg h]; exact hX2 h
  have eY : Y = (if cw = k then aw else Option.map (fun x => x.add (k * 7)) aw) := by
    by_cases h : cw = k
    · rw [if_pos h]; exact hY1 h
    · rw [if_neg h]; exact hY2 h
  rw [← eX] at g1
  rw [← eY] at g2
  have := osame_yes _ _ _ _ (S.drop k) w' g1 g2 (by rw [List.length_drop]; omega)
  rw [show (S.drop k).length = S.length - k from List.length_drop] at this
  rw [show tl - (k + 1) = S.length - k by omega]
  exact this
theorem split_at_time {s : List Opn} (hs : Srt s) {o : Opn} {k : Nat} (hk : k ≤ s.length) (h1 : ∀ (j : Nat) y, j < k → s[j]? = some y → ltA y o = true) (h2 : ∀ y, s[k]? = some y → ltA y o = false) (hn : ∀ y ∈ s, ¬ eqA y o) : insS o s = s.take k ++ o :: s.drop k := by
  conv => lhs; rw [← List.take_append_drop k s]
  refine insS_at (fun x hx => ?_) (fun x hx => ?_)
  · obtain ⟨j, hj, rfl⟩ := List.mem_iff_getElem.1 hx
    rw [List.length_take] at hj
    rw [List.getElem_take]
    exact h1 j _ (by omega) (List.getElem?_eq_getElem (by omega))
  · obtain ⟨j, hj, rfl⟩ := List.mem_iff_getElem.1 hx
    rw [List.length_drop] at hj
    rw [List.getElem_drop]
    have hkl : k < s.length := by omega
    have hkk : ltA o s[k] = true := by
      have h3 := h2 _ (List.getElem?_eq_getElem hkl)
      have h4 := hn s[k] (List.getElem_mem hkl)
      rw [ltA_iff]
      have h5 : ¬ (s[k].c < o.c ∨ (s[k].c = o.c ∧ s[k].r < o.r)) := fun h => by rw [ltA_iff.2 h] at h3; cases h3
      unfold eqA at h4
      omega
    rcases Nat.eq_zero_or_pos j with rfl | hj0
    · exact hkk
    · exact ltA_trans hkk (List.pairwise_iff_getElem.1 hs k (k + j) hkl (by omega) (by omega))
theorem insS_new_len (o : Opn) : ∀ l : List Opn, (∀ y ∈ l, ¬ eqA y o) → (insS o l).length = l.length + 1
  | [], _ => rfl
  | y :: r, h => by
    unfold insS
    split
    · rw [List.length_cons, insS_new_len o r (fun z hz => h z (by simp [hz])), List.length_cons]
    · rw [if_neg (h y (by simp))]; rfl
set_option maxRecDepth 100000 in
set_option maxHeartbeats 16000000 in
theorem mops_walk (a : Option Addr) (ca : Nat) (l : List Opn) (o : Opn) (w : World) (hl : IsOp w a ca l ∧ l.length ≤ maxLen ∧ (∀ x ∈ l, InO x)) (ho : InO o) (hsz : l.length * 72 ≤ 140737488351232) :
    Calls Try.prog 8 #[.slice a l.length ca, OV o] w fun e w' => e = .returned (.bool true) ∧ Below w.heap.size w w' := by
  obtain ⟨hi, hlm, hin⟩ := hl
  have GOs := Lib.hid (show RgOs l from fun x hx => (hin x hx).1)
  have GO := Lib.hid ho.1
  have HLm := Lib.hid hlm
  have HSz := Lib.hid hsz
  have HI := Lib.hid hi
  obtain ⟨iO, hiO, hzO, hszO, hbyO⟩ := info_parts infoOp
  obtain ⟨fb, hfb⟩ : ∃ x, fewOp (l ++ [o]) 61 = x := ⟨_, rfl⟩
  have HF := Lib.hid hfb
  have hl61 : l.length + 1 ≤ maxLen := by have := hsz; unfold maxLen; omega
  clear hi hlm hin hfb
  obtain ⟨A, hA⟩ : ∃ A, A = w.alloc (.cells #[.int .i64 o.c, .int .i64 o.r, .int .i64 o.k, .int .i64 o.n, .int .i64 o.p, .string o.s, .string o.d] 26) := ⟨_, rfl⟩
  have hO : HasO A w.heap.size o := by rw [hA]; exact hasO_new w o 26
  have b0 : Below w.heap.size w A := by rw [hA]; exact below_alloc _ _
  have sA : w.heap.size < A.heap.size := by rw [hA]; simp
  have HO := Lib.hid hO
  have HIA := Lib.hid (IsR.below HI.out b0)
  clear hO
  go_enter Try.func8, Try.ntmps8
  go_wp2_with fail
  rw [← hA]
  clear hA
  refine (awake_any _).mono ?_
  rintro e W1 ⟨rfl, c1⟩
  have b1 := step_b b0 c1
  have hw1 : w.heap.size < W1.heap.size := Nat.lt_of_lt_of_le sA c1.size
  have HI1 := Lib.hid (HIA.out.below c1)
  have HO1 := Lib.hid (HO.out.below c1)
  clear c1 HIA HO b0 HI
  go_upto_region 2 with fail
  refine wp_region_l (by kernel_rfl) (by kernel_rfl) ?_
  refine wpL_make (OwnOp W1.heap.size []) (fun v w w' h hk => h.stay v w w' hk) (fun xs n _ => ?_) (fun K hK => ?_)
  · unfold relOp; go_simp; simp only [relUpon]
    exact ⟨ownR_empty cellsOp 7 _ _ _ n.below.size, below_alloc _ _, new_own _ _ _ _⟩
  go_simp; (try go_ints); refine hK _ ?_; clear hK K
  refine wpL_pure (fun K hK => ?_); go_simp; (try go_ints); refine hK _ ?_; clear hK K
  refine wpL_take 0 (OwnOp W1.heap.size l) (fun v w w' h hk => h.stay v w w' hk) rfl (by kernel_rfl) (by kernel_rfl) (fun xs n hf => ?_) (fun K hK => ?_)
  · rw [if_pos (by rfl)]
    have h0 := factL hf 0 rfl (by kernel_rfl)
    have hsrc := src_rec op_len op_one Try.underlying22 (HI1.out.below n.below)
    obtain ⟨v', w', hrun, q1, q2, q3⟩ := run_append_rec (m := l) cellsOp n.w 22 22 26 iO _ 72 Try.underlying22 hiO hzO hszO hbyO rfl h0 _ hsrc (by have := HLm.out; simp; omega) (by have := HSz.out; simp; omega) n.below.size
    exact relOp_append _ _ _ _ rfl rfl rfl hrun ⟨q1, q2, q3⟩
  go_simp; (try go_ints); refine hK _ ?_; clear hK K
  refine wpL_use (OV o) (fun xs n hf => ?_) (fun K hK => ?_)
  · obtain ⟨k0, k1, k2, k3, k4, k5, k6⟩ := HO1.out.below n.below
    go_simp
  go_simp; (try go_ints); refine hK _ ?_; clear hK K
  refine wpL_make (OwnOp W1.heap.size [o]) (fun v w w' h hk => h.stay v w w' hk) (fun xs n _ => ?_) (fun K hK => ?_)
  · unfold relOp; go_simp; simp only [relUpon]
    exact ⟨ownR_made op_len _ n.w _ n.below.size [o] (by simp) _ rfl, below_alloc _ _, new_own _ _ _ _⟩
  go_simp; (try go_ints); refine hK _ ?_; clear hK K
  refine wpL_take 1 (OwnOp W1.heap.size (l ++ [o])) (fun v w w' h hk => h.stay v w w' hk) rfl (by kernel_rfl) (by kernel_rfl) (fun xs n hf => ?_) (fun K hK => ?_)
  · rw [if_pos (by rfl)]
    have h0 := factL hf 1 rfl (by kernel_rfl)
    obtain ⟨a5, c5, e5, hi5⟩ := (factL hf 0 rfl (by kernel_rfl)).isR op_len
    have hsrc := src_rec op_len op_one Try.underlying22 hi5
    obtain ⟨v', w', hrun, q1, q2, q3⟩ := run_append_rec (m := [o]) cellsOp n.w 22 22 26 iO _ 72 Try.underlying22 hiO hzO hszO hbyO rfl h0 _ hsrc (by have := hl61; simp; omega) (by have := HSz.out; simp; omega) n.below.size
    exact relOp_append _ _ _ _ rfl rfl e5 hrun ⟨q1, q2, q3⟩
  go_simp; (try go_ints); refine hK _ ?_; clear hK K
  refine wpL_use (.bool fb) (fun xs n hf => ?_) (fun K hK => ?_)
  · have h6 := ofew_own HF.out (factL hf 0 rfl (by kernel_rfl)) (by rw [List.length_append]; exact hl61)
    go_simp
  go_simp; (try go_ints); refine hK _ ?_; clear hK K
  refine wpL_pure (fun K hK => ?_); go_simp; (try go_ints); refine hK _ ?_; clear hK K
  refine wpL_nil (fun xs n _ => ?_)
  have b2 := step_b b1 n.below
  have hw2 : w.heap.size < n.w.heap.size := Nat.lt_of_lt_of_le hw1 n.below.size
  have HI2 := Lib.hid (HI1.out.below n.below)
  have HO2 := Lib.hid (HO1.out.below n.below)
  clear HI1 HO1 b1
  generalize n.w = w2 at b2 HI2 HO2 hw2 ⊢
  cases fb with
  | false =>
    go_wp2_with fail
    go_ret
    exact ⟨rfl, b2⟩
  | true =>
    have hfw := fewOp_of HF.out
    have hll : l.length ≤ 60 := by have := hfw.2; rw [List.length_append, List.length_singleton] at this; omega
    have HSl := Lib.hid (fun x (hx : x ∈ l) => hfw.1 x (List.mem_append_left _ hx))
    have HSo := Lib.hid (hfw.1 o (by simp))
    have hsl := sort_len l
    have hok := sort_ok (l := l) (by omega) HSl.out GOs.out
    have HOf := of_is (a := a) (c := ca) (l := l) w2 HI2.out (by omega) HSl.out GOs.out
    obtain ⟨S, hS⟩ : ∃ S, sortO l = S := ⟨_, rfl⟩
    rw [hS] at hok hsl HOf
    have HOk := Lib.hid hok
    have HOf0 := Lib.hid HOf
    obtain ⟨⟨T, er⟩, hTe⟩ : ∃ r, addL S o = r := ⟨_, rfl⟩
    have hTl : T.length ≤ 61 := by have := addL_more S o; rw [hTe] at this; simp only [] at this; omega
    have HTe := Lib.hid hTe
    clear hfw hok HOf hS hTe
    go_wp2_with fail
    refine (HOf0.out).mono ?_
    rintro e v1 ⟨a1, n1, c1, e1, m1, d1, rfl, h1, k1⟩
    have q1 := below_alloc v1 (.cells #[.slice a1 n1 c1, .slice e1 m1 d1] 32)
    have K1 := Lib.hid (cells_new v1 [.slice a1 n1 c1, .slice e1 m1 d1] 32)
    have P1 := Lib.hid (k1.trans (q1.mono k1.size))
    have L1 := Lib.hid (h1.below q1)
    have HO3 := Lib.hid (HO2.out.below P1.out)
    obtain ⟨o0, o1, o2, o3, o4, o5, o6⟩ := HO3.out
    have HA1 := Lib.hid (add_is _ L1.out HOk.out HSo.out GO.out)
    rw [HTe.out] at HA1
    clear k1 q1 h1
    go_wp2_with fail
    refine (HA1.out).mono ?_
    rintro e v2 ⟨a2, n2, c2, e2, m2, d2, rfl, h2, k2⟩
    simp only [] at h2
    have q2 := below_alloc v2 (.cells #[.slice a2 n2 c2, .slice e2 m2 d2] 32)
    have K2 := Lib.hid (cells_new v2 [.slice a2 n2 c2, .slice e2 m2 d2] 32)
    have j2 := k2.trans (q2.mono k2.size)
    have P2 := Lib.hid (P1.out.trans (j2.mono P1.out.size))
    have L2 := Lib.hid (h2.below q2)
    have K1' := Lib.hid (K1.out.below j2)
    have L1' := Lib.hid (L1.out.below j2)
    have x0 := K1'.out.cell 0 _ rfl
    have x1 := K1'.out.cell 1 _ rfl
    have HOp1 := Lib.hid (ops_is _ L1'.out (by omega))
    clear k2 q2 h2 j2 P1 K1 L1 o0 o1 o2 o3 o4 o5 o6 HA1 HO3
    go_wp2_with fail
    refine (HOp1.out).mono ?_
    rintro e v3 ⟨aw, cw, rfl, hw3, k3⟩
    have P3 := Lib.hid (P2.out.trans (k3.mono P2.out.size))
    have HWas := Lib.hid hw3
    have K2' := Lib.hid (K2.out.below k3)
    have L2' := Lib.hid (L2.out.below k3)
    have K1 := Lib.hid (K1'.out.below k3)
    have L1 := Lib.hid (L1'.out.below k3)
    have HOp2 := Lib.hid (ops_is _ L2'.out (by omega))
    clear k3 hw3 x0 x1 P2 K1' L1' K2 L2 HOp1
    have x0 := K2'.out.cell 0 _ rfl
    have x1 := K2'.out.cell 1 _ rfl
    go_wp2_with fail
    refine (HOp2.out).mono ?_
    rintro e v4 ⟨ai, ci, rfl, hi4, k4⟩
    have P4 := Lib.hid (P3.out.trans (k4.mono P3.out.size))
    have HWas4 := Lib.hid (IsR.below HWas.out k4)
    have HIs := Lib.hid hi4
    have K2 := Lib.hid (K2'.out.below k4)
    have L2 := Lib.hid (lgF_of (L2'.out.below k4))
    have K1' := Lib.hid (K1.out.below k4)
    have L1' := Lib.hid (L1.out.below k4)
    clear k4 hi4 x0 x1 P3 K1 L1 K2' L2' HOp2 HWas
    have HO4 := Lib.hid (HO2.out.below P4.out)
    have B4 := Lib.hid (step_b b2 P4.out)
    have x0 := K1'.out.cell 0 _ rfl
    have x1 := K1'.out.cell 1 _ rfl
    have y0 := K2.out.cell 0 _ rfl
    have y1 := K2.out.cell 1 _ rfl
    obtain ⟨o0, o1, o2, o3, o4, o5, o6⟩ := HO4.out
    have HHas := Lib.hid (has_is (x := o.c) (y := o.r) v4 L1'.out (by omega))
    obtain ⟨m1', hm1⟩ : ∃ z, mayO o = z := ⟨_, rfl⟩
    obtain ⟨m2', hm2⟩ : ∃ z, hasS S o.c o.r = z := ⟨_, rfl⟩
    have HM1 := Lib.hid hm1
    have HM2 := Lib.hid hm2
    rw [hm2] at HHas
    have HCk := Lib.hid (fun w => ochk_any o w (by have := HSo.out.1; unfold maxLen; omega) GO.out.2.2.2.1 GO.out.2.2.2.2)
    rw [hm1] at HCk
    clear hm1 hm2 b2
    cases m1' with
    | false =>
      have hadd := HTe.out
      unfold addL at hadd
      rw [HM1.out, if_neg (by simp), Prod.mk.injEq] at hadd
      obtain ⟨rfl, rfl⟩ := hadd
      have HSm := Lib.hid (lsame_f L2.out (lgF_of L1'.out) rfl (by omega))
      go_wp2_with fail
      refine (HSm.out).mono ?_
      rintro e v5 ⟨rfl, k5⟩
      have B5 := Lib.hid (step_b B4.out k5)
      have HO5 := Lib.hid (HO4.out.below k5)
      clear k5 x0 x1 y0 y1 o0 o1 o2 o3 o4 o5 o6
      obtain ⟨o0, o1, o2, o3, o4, o5, o6⟩ := HO5.out
      go_wp2_with fail
      refine (HCk.out _).mono ?_
      rintro e v6 ⟨rfl, k6⟩
      have B6 := Lib.hid (step_b B5.out k6)
      go_wp2_with fail
      go_ret
      exact ⟨rfl, B6.out⟩
    | true =>
      cases m2' with
      | true =>
        have hadd := HTe.out
        unfold addL at hadd
        rw [HM1.out, HM2.out, if_pos rfl, if_pos rfl, Prod.mk.injEq] at hadd
        obtain ⟨rfl, rfl⟩ := hadd
        go_wp2_with fail
        refine (HHas.out).mono ?_
        rintro e v5 ⟨rfl, k5⟩
        have B5 := Lib.hid (step_b B4.out k5)
        have K2'' := Lib.hid (K2.out.below k5)
        have K1'' := Lib.hid (K1'.out.below k5)
        have HSm := Lib.hid (lsame_f (L2.out.stable _ _ _ _ k5) ((lgF_of L1'.out).stable _ _ _ _ k5) rfl (by omega))
        clear k5 x0 x1 y0 y1 o0 o1 o2 o3 o4 o5 o6
        have x0 := K1''.out.cell 0 _ rfl
        have x1 := K1''.out.cell 1 _ rfl
        have y0 := K2''.out.cell 0 _ rfl
        have y1 := K2''.out.cell 1 _ rfl
        go_wp2_with fail
        refine (HSm.out).mono ?_
        rintro e v6 ⟨rfl, k6⟩
        have B6 := Lib.hid (step_b B5.out k6)
        go_wp2_with fail
        go_ret
        exact ⟨rfl, B6.out⟩
      | false =>
        have hask : askB S o = true := by unfold askB; rw [HM1.out, HM2.out]; simp; omega
        have hadd := HTe.out
        rw [add_yes hask, Prod.mk.injEq] at hadd
        obtain ⟨rfl, rfl⟩ := hadd
        have hnone : ∀ y ∈ S, ¬ eqA y o := fun y hy he => by
          have := hasS_iff.2 ⟨y, hy, he⟩
          rw [HM2.out] at this; cases this
        have HNone := Lib.hid hnone
        have htl := insS_new_len o S hnone
        obtain ⟨T, hT⟩ : ∃ T, insS o S = T := ⟨_, rfl⟩
        have HTt := Lib.hid hT
        rw [hT] at HIs htl hTl ⊢
        obtain ⟨tl, htl2⟩ : ∃ tl, T.length = tl := ⟨_, rfl⟩
        have HTl := Lib.hid htl2
        rw [htl2] at htl hTl ⊢
        have HTl2 := Lib.hid htl
        have hti : (tl : Int) - 1 = (S.length : Int) := by omega
        have htie : ((tl : Int) == (S.length : Int) + 1) = true := by rw [beq_iff_eq]; omega
        clear hnone hT htl2 htl
        go_wp2_with fail
        refine (HHas.out).mono ?_
        rintro e v5 ⟨rfl, k5⟩
        have B5 := Lib.hid (step_b B4.out k5)
        have hw5 : w.heap.size < v5.heap.size := Nat.lt_of_lt_of_le hw2 (Nat.le_trans P4.out.size k5.size)
        have HO5 := Lib.hid (HO4.out.below k5)
        have HWas5 := Lib.hid (IsR.below HWas4.out k5)
        have HIs5 := Lib.hid (IsR.below HIs.out k5)
        clear k5 x0 x1 y0 y1 o0 o1 o2 o3 o4 o5 o6 K1' L1' K2 L2 HHas HWas4 HIs HO4
        go_wp2_with fail
        go_loopw [11] (fun x11 w' => ∃ k : Nat, k ≤ S.length ∧ x11 = .int .i64 k ∧ (∀ (j : Nat) y, j < k → S[j]? = some y → ltA y o = true) ∧ Below v5.heap.size v5 w') (fun x11 _ => S.length - (RowKit.intOf x11).toNat)
        case atStart => exact ⟨0, Nat.zero_le _, rfl, (fun j y hj => absurd hj (Nat.not_lt_zero _)), Below.refl _ _⟩
        case round =>
          obtain ⟨k, hk, rfl, hlo, ck⟩ := hrel
          have HLo := Lib.hid hlo
          have HO6 := Lib.hid (HO5.out.below ck)
          have hwr := Nat.lt_of_lt_of_le hw5 ck.size
          have HWr := Lib.hid (IsR.below HWas5.out ck)
          clear hlo
          by_cases hks : k < S.length
          · obtain ⟨y, hy⟩ : ∃ y, S[k]? = some y := ⟨_, List.getElem?_eq_getElem hks⟩
            have hks2 : (k : Int) < (S.length : Int) := by omega
            have HLs := Lib.hid (fun w => sless_any y.c y.r o.c o.r w)
            obtain ⟨g, off, rfl, hg, hc⟩ := HWr.out.opn hy
            obtain ⟨m0, m1, _⟩ := hc k y hy
            have o0 := HO6.out.1
            have o1 := HO6.out.2.1
            have HY := Lib.hid hy
            obtain ⟨q, hq⟩ : ∃ q, lessS y.c y.r o.c o.r = q := ⟨_, rfl⟩
            have HQ := Lib.hid hq
            rw [hq] at HLs
            clear hc hy hq
            cases q with
            | true =>
              go_wp2_with fail
              refine wp_region_later (by kernel_rfl) (by kernel_rfl) (fun hL => ?_)
              repeat (go_big_quiet_step ((first | (go_at_call 23; with_reducible refine later_calls (HLs.out _)))))
              first | (intro w8 hw8) | (refine wpQuiet_nil ?_; intro w8 hw8)
              have c8 := ck.trans ((later_out hw8).mono ck.size)
              clear hw8 hL m0 m1 o0 o1
              go_wp2_with fail
              go_roundw
              case rel => exact ⟨k + 1, by omega, by go_num, (fun j z hj hz => by
                rcases Nat.lt_or_eq_of_le (Nat.le_of_lt_succ hj) with h | h
                · exact HLo.out j z h hz
                · subst h
                  rw [HY.out] at hz
                  cases hz
                  exact HQ.out), c8⟩
              case measure => simp [RowKit.intOf]; omega
            | false =>
              go_wp2_with fail
              refine wp_region_later (by kernel_rfl) (by kernel_rfl) (fun hL => ?_)
              repeat (go_big_quiet_step ((first | (go_at_call 23; with_reducible refine later_calls (HLs.out _)))))
              first | (intro w8 hw8) | (refine wpQuiet_nil ?_; intro w8 hw8)
              have c8 := ck.trans ((later_out hw8).mono ck.size)
              clear hw8 hL m0 m1 o0 o1
              go_upto_region 13 with fail
              obtain ⟨aw2, haw2⟩ : ∃ z : Option Addr, some (⟨g, off, none⟩ : Addr) = z := ⟨_, rfl⟩
              rw [haw2] at HWas5 ⊢
              clear haw2 HWr
              have hsplit := split_at_time (o := o) (k := k) HOk.out.lg.1 (by omega) HLo.out (fun z hz => by rw [HY.out] at hz; cases hz; exact HQ.out) HNone.out
              rw [HTt.out] at hsplit
              have hTk : T[k]? = some o := by rw [hsplit]; exact mspl_at S o k (by omega)
              have hT1 : T.take k = S.take k := by rw [hsplit, List.take_append_of_le_length (by rw [List.length_take]; omega), List.take_take, Nat.min_self]
              have hT2 : T.drop (k + 1) = S.drop k := by rw [hsplit]; exact mspl_drop S o k (by omega)
              have BW := Lib.hid (step_b B5.out c8)
              have HO8 := Lib.hid (HO5.out.below c8)
              have HW8 := Lib.hid (IsR.below HWas5.out c8)
              have HI8 := Lib.hid (IsR.below HIs5.out c8)
              have hci : tl ≤ ci := by have := HI8.out.1; have := HTl.out; omega
              have hcw := HW8.out.1
              have htl3 := HTl2.out
              obtain ⟨gi, oi, eai, hgi, hci2⟩ := HI8.out.opn hTk
              subst eai
              have HSa := Lib.hid (fun (w' : World) (hb : Below w8.heap.size w8 w') => (show Calls Try.prog 18 #[.slice (some ⟨gi, oi, none⟩) k ci, .slice aw2 k cw] w' fun e w'' => e = .returned (.bool true) ∧ Below w'.heap.size w' w'' from by
                have h1 := isR_take (IsR.below HI8.out hb) k
                rw [hT1] at h1
                have := osame_yes (some ⟨gi, oi, none⟩) aw2 ci cw (S.take k) w' h1 (isR_take (IsR.below HW8.out hb) k) (by rw [List.length_take]; omega)
                rw [show (S.take k).length = k by rw [List.length_take]; omega] at this
                exact this))
              have HSb := Lib.hid (fun (w' : World) (hb : Below w8.heap.size w8 w') => slice_same (aw := aw2) (k := k) (IsR.below HI8.out hb) (IsR.below HW8.out hb) hT2 HTl.out htl3 (by omega) (by omega))
              have hkt : (k : Int) < (tl : Int) := by omega
              have hmin1 : min (k : Int) (S.length : Int) = (k : Int) := by omega
              have hmin2 : min (k : Int) (tl : Int) = (k : Int) := by omega
              have hmin3 : min ((k : Int) + 1) (tl : Int) = (k : Int) + 1 := by omega
              have hkc : (k : Int) ≤ (ci : Int) := by omega
              have hkc1 : (k : Int) + 1 ≤ (ci : Int) := by omega
              have hkc2 : (k : Int) + 1 ≤ (tl : Int) := by omega
              have hkw : (k : Int) ≤ (cw : Int) := by omega
              have hks3 : (k : Int) ≤ (S.length : Int) := by omega
              have hz1 : (0 : Int) ≤ (k : Int) + 1 := by omega
              have HCe := Lib.hid (hci2 k o hTk)
              clear hsplit hTk hT1 hT2 hci2 HLo HO6 htl3
              refine wp_region_r (by kernel_rfl) (by kernel_rfl) ?_
              refine wpR_pure (fun K hK => ?_); go_simp; (try go_ints); refine hK _ ?_; clear hK K
              refine wpR_pure (fun K hK => ?_); go_simp; (try go_ints); refine hK _ ?_; clear hK K
              refine wpR_pure (fun K hK => ?_); go_simp; (try go_ints); refine hK _ ?_; clear hK K
              refine wpR_pure (fun K hK => ?_); go_simp; (try go_ints); refine hK _ ?_; clear hK K
              refine wpR_pure (fun K hK => ?_); go_simp; (try go_ints); refine hK _ ?_; clear hK K
              refine wpR_pure (fun K hK => ?_); go_simp; (try go_ints); refine hK _ ?_; clear hK K
              refine wpR_pure (fun K hK => ?_); go_simp; (try go_ints); refine hK _ ?_; clear hK K
              refine wpR_pure (fun K hK => ?_); go_simp; (try go_ints); refine hK _ ?_; clear hK K
              refine wpR_pure (fun K hK => ?_); go_simp; (try go_ints); refine hK _ ?_; clear hK K
              refine wpR_pure (fun K hK => ?_); go_simp; (try go_ints); refine hK _ ?_; clear hK K
              refine wpR_pure (fun K hK => ?_); go_simp; (try go_ints); refine hK _ ?_; clear hK K
              refine wpR_pure (fun K hK => ?_); go_simp; (try go_ints); refine hK _ ?_; clear hK K
              refine wpR_pure (fun K hK => ?_); go_simp; (try go_ints); refine hK _ ?_; clear hK K
              refine wpR_pure (fun K hK => ?_); go_simp; (try go_ints); refine hK _ ?_; clear hK K
              refine wpR_pure (fun K hK => ?_); go_simp; (try go_ints); refine hK _ ?_; clear hK K
              refine wpR_pure (fun K hK => ?_); go_simp; (try go_ints); refine hK _ ?_; clear hK K
              refine wpR_pure (fun K hK => ?_); go_simp; (try go_ints); refine hK _ ?_; clear hK K
              refine wpR_use (OV o) (fun xs n hf => ?_) (fun K hK => ?_)
              · obtain ⟨k0, k1, k2, k3, k4, k5, k6⟩ := HCe.out.below_of hgi n.below
                go_simp
              go_simp; (try go_ints); refine hK _ ?_; clear hK K
              refine wpR_use (OV o) (fun xs n hf => ?_) (fun K hK => ?_)
              · obtain ⟨k0, k1, k2, k3, k4, k5, k6⟩ := HO8.out.below n.below
                go_simp
              go_simp; (try go_ints); refine hK _ ?_; clear hK K
              refine wpR_pure (fun K hK => ?_); go_simp; (try go_ints); refine hK _ ?_; clear hK K
              refine wpR_pure (fun K hK => ?_); go_simp; (try go_ints); refine hK _ ?_; clear hK K
              refine wpR_pure (fun K hK => ?_); go_simp; (try go_ints); refine hK _ ?_; clear hK K
              refine wpR_pure (fun K hK => ?_); go_simp; (try go_ints); refine hK _ ?_; clear hK K
              refine wpR_pure (fun K hK => ?_); go_simp; (try go_ints); refine hK _ ?_; clear hK K
              refine wpR_pure (fun K hK => ?_); go_simp; (try go_ints); refine hK _ ?_; clear hK K
              refine wpR_pure (fun K hK => ?_); go_simp; (try go_ints); refine hK _ ?_; clear hK K
              refine wpR_pure (fun K hK => ?_); go_simp; (try go_ints); refine hK _ ?_; clear hK K
              refine wpR_pure (fun K hK => ?_); go_simp; (try go_ints); refine hK _ ?_; clear hK K
              refine wpR_pure (fun K hK => ?_); go_simp; (try go_ints); refine hK _ ?_; clear hK K
              refine wpR_pure (fun K hK => ?_); go_simp; (try go_ints); refine hK _ ?_; clear hK K
              refine wpR_pure (fun K hK => ?_); go_simp; (try go_ints); refine hK _ ?_; clear hK K
              refine wpR_pure (fun K hK => ?_)
              go_simp
              apply Exists.intro
              refine ⟨fun m => ?_, hK _ ?_⟩
              · go_at_call 18; exact HSa.out m.w m.below
              clear hK K
              refine wpR_pure (fun K hK => ?_); go_simp; (try go_ints); refine hK _ ?_; clear hK K
              refine wpR_pure (fun K hK => ?_); go_simp; (try go_ints); refine hK _ ?_; clear hK K
              refine wpR_pure (fun K hK => ?_); go_simp; (try go_ints); refine hK _ ?_; clear hK K
              refine wpR_pure (fun K hK => ?_); go_simp; (try go_ints); refine hK _ ?_; clear hK K
              refine wpR_pure (fun K hK => ?_); go_simp; (try go_ints); refine hK _ ?_; clear hK K
              refine wpR_pure (fun K hK => ?_); go_simp; (try go_ints); refine hK _ ?_; clear hK K
              refine wpR_pure (fun K hK => ?_); go_simp; (try go_ints); refine hK _ ?_; clear hK K
              refine wpR_pure (fun K hK => ?_); go_simp; (try go_ints); refine hK _ ?_; clear hK K
              refine wpR_pure (fun K hK => ?_); go_simp; (try go_ints); refine hK _ ?_; clear hK K
              refine wpR_pure (fun K hK => ?_); go_simp; (try go_ints); refine hK _ ?_; clear hK K
              refine wpR_pure (fun K hK => ?_); go_simp; (try go_ints); refine hK _ ?_; clear hK K
              refine wpR_pure (fun K hK => ?_); go_simp; (try go_ints); refine hK _ ?_; clear hK K
              refine wpR_pure (fun K hK => ?_)
              go_simp
              apply Exists.intro
              refine ⟨fun m => ?_, hK _ ?_⟩
              · go_at_call 18; refine HSb.out m.w m.below _ _ (fun h => if_pos h) (fun h => if_neg h) (fun h => if_pos h) (fun h => if_neg h)
              clear hK K
              refine wpR_pure (fun K hK => ?_); go_simp; (try go_ints); refine hK _ ?_; clear hK K
              refine wpR_pure (fun K hK => ?_); go_simp; (try go_ints); refine hK _ ?_; clear hK K
              refine wpR_nil (fun xs n _ => ?_)
              have b9 := step_b BW.out n.below
              go_wp2_with fail
              all_goals exact bodyPost_ret (v := .bool true) (by simp [results, Try.results8, go_sem]) rfl ⟨rfl, b9⟩
          · have hke : k = S.length := by omega
            have HKe := Lib.hid hke
            have hks2 : ¬ (k : Int) < (S.length : Int) := by omega
            clear hke
            go_wp2_with fail
            refine wp_region_later (by kernel_rfl) (by kernel_rfl) (fun hL => ?_)
            repeat (go_big_quiet_step (fail))
            first | (intro w8 hw8) | (refine wpQuiet_nil ?_; intro w8 hw8)
            have c8 := ck.trans ((later_out hw8).mono ck.size)
            clear hw8 hL
            go_upto_region 13 with fail
            have hsplit := split_at_time (o := o) (k := k) HOk.out.lg.1 (by omega) HLo.out (fun z hz => by rw [HKe.out, List.getElem?_eq_none (Nat.le_refl _)] at hz; cases hz) HNone.out
            rw [HTt.out] at hsplit
            have hTk : T[k]? = some o := by rw [hsplit]; exact mspl_at S o k (by omega)
            have hT1 : T.take k = S.take k := by rw [hsplit, List.take_append_of_le_length (by rw [List.length_take]; omega), List.take_take, Nat.min_self]
            have hT2 : T.drop (k + 1) = S.drop k := by rw [hsplit]; exact mspl_drop S o k (by omega)
            have BW := Lib.hid (step_b B5.out c8)
            have HO8 := Lib.hid (HO5.out.below c8)
            have HW8 := Lib.hid (IsR.below HWas5.out c8)
            have HI8 := Lib.hid (IsR.below HIs5.out c8)
            have hci : tl ≤ ci := by have := HI8.out.1; have := HTl.out; omega
            have hcw := HW8.out.1
            have htl3 := HTl2.out
            obtain ⟨gi, oi, eai, hgi, hci2⟩ := HI8.out.opn hTk
            subst eai
            have HSa := Lib.hid (fun (w' : World) (hb : Below w8.heap.size w8 w') => (show Calls Try.prog 18 #[.slice (some ⟨gi, oi, none⟩) k ci, .slice aw k cw] w' fun e w'' => e = .returned (.bool true) ∧ Below w'.heap.size w' w'' from by
              have h1 := isR_take (IsR.below HI8.out hb) k
              rw [hT1] at h1
              have := osame_yes (some ⟨gi, oi, none⟩) aw ci cw (S.take k) w' h1 (isR_take (IsR.below HW8.out hb) k) (by rw [List.length_take]; omega)
              rw [show (S.take k).length = k by rw [List.length_take]; omega] at this
              exact this))
            have HSb := Lib.hid (fun (w' : World) (hb : Below w8.heap.size w8 w') => slice_same (aw := aw) (k := k) (IsR.below HI8.out hb) (IsR.below HW8.out hb) hT2 HTl.out htl3 (by omega) (by omega))
            have hkt : (k : Int) < (tl : Int) := by omega
            have hmin1 : min (k : Int) (S.length : Int) = (k : Int) := by omega
            have hmin2 : min (k : Int) (tl : Int) = (k : Int) := by omega
            have hmin3 : min ((k : Int) + 1) (tl : Int) = (k : Int) + 1 := by omega
            have hkc : (k : Int) ≤ (ci : Int) := by omega
            have hkc1 : (k : Int) + 1 ≤ (ci : Int) := by omega
            have hkc2 : (k : Int) + 1 ≤ (tl : Int) := by omega
            have hkw : (k : Int) ≤ (cw : Int) := by omega
            have hks3 : (k : Int) ≤ (S.length : Int) := by omega
            have hz1 : (0 : Int) ≤ (k : Int) + 1 := by omega
            have HCe := Lib.hid (hci2 k o hTk)
            clear hsplit hTk hT1 hT2 hci2 HLo HWr HO6 htl3
            refine wp_region_r (by kernel_rfl) (by kernel_rfl) ?_
            refine wpR_pure (fun K hK => ?_); go_simp; (try go_ints); refine hK _ ?_; clear hK K
            refine wpR_pure (fun K hK => ?_); go_simp; (try go_ints); refine hK _ ?_; clear hK K
            refine wpR_pure (fun K hK => ?_); go_simp; (try go_ints); refine hK _ ?_; clear hK K
            refine wpR_pure (fun K hK => ?_); go_simp; (try go_ints); refine hK _ ?_; clear hK K
            refine wpR_pure (fun K hK => ?_); go_simp; (try go_ints); refine hK _ ?_; clear hK K
            refine wpR_pure (fun K hK => ?_); go_simp; (try go_ints); refine hK _ ?_; clear hK K
            refine wpR_pure (fun K hK => ?_); go_simp; (try go_ints); refine hK _ ?_; clear hK K
            refine wpR_pure (fun K hK => ?_); go_simp; (try go_ints); refine hK _ ?_; clear hK K
            refine wpR_pure (fun K hK => ?_); go_simp; (try go_ints); refine hK _ ?_; clear hK K
            refine wpR_pure (fun K hK => ?_); go_simp; (try go_ints); refine hK _ ?_; clear hK K
            refine wpR_pure (fun K hK => ?_); go_simp; (try go_ints); refine hK _ ?_; clear hK K
            refine wpR_pure (fun K hK => ?_); go_simp; (try go_ints); refine hK _ ?_; clear hK K
            refine wpR_pure (fun K hK => ?_); go_simp; (try go_ints); refine hK _ ?_; clear hK K
            refine wpR_pure (fun K hK => ?_); go_simp; (try go_ints); refine hK _ ?_; clear hK K
            refine wpR_pure (fun K hK => ?_); go_simp; (try go_ints); refine hK _ ?_; clear hK K
            refine wpR_pure (fun K hK => ?_); go_simp; (try go_ints); refine hK _ ?_; clear hK K
            refine wpR_pure (fun K hK => ?_); go_simp; (try go_ints); refine hK _ ?_; clear hK K
            refine wpR_use (OV o) (fun xs n hf => ?_) (fun K hK => ?_)
            · obtain ⟨k0, k1, k2, k3, k4, k5, k6⟩ := HCe.out.below_of hgi n.below
              go_simp
            go_simp; (try go_ints); refine hK _ ?_; clear hK K
            refine wpR_use (OV o) (fun xs n hf => ?_) (fun K hK => ?_)
            · obtain ⟨k0, k1, k2, k3, k4, k5, k6⟩ := HO8.out.below n.below
              go_simp
            go_simp; (try go_ints); refine hK _ ?_; clear hK K
            refine wpR_pure (fun K hK => ?_); go_simp; (try go_ints); refine hK _ ?_; clear hK K
            refine wpR_pure (fun K hK => ?_); go_simp; (try go_ints); refine hK _ ?_; clear hK K
            refine wpR_pure (fun K hK => ?_); go_simp; (try go_ints); refine hK _ ?_; clear hK K
            refine wpR_pure (fun K hK => ?_); go_simp; (try go_ints); refine hK _ ?_; clear hK K
            refine wpR_pure (fun K hK => ?_); go_simp; (try go_ints); refine hK _ ?_; clear hK K
            refine wpR_pure (fun K hK => ?_); go_simp; (try go_ints); refine hK _ ?_; clear hK K
            refine wpR_pure (fun K hK => ?_); go_simp; (try go_ints); refine hK _ ?_; clear hK K
            refine wpR_pure (fun K hK => ?_); go_simp; (try go_ints); refine hK _ ?_; clear hK K
            refine wpR_pure (fun K hK => ?_); go_simp; (try go_ints); refine hK _ ?_; clear hK K
            refine wpR_pure (fun K hK => ?_); go_simp; (try go_ints); refine hK _ ?_; clear hK K
            refine wpR_pure (fun K hK => ?_); go_simp; (try go_ints); refine hK _ ?_; clear hK K
            refine wpR_pure (fun K hK => ?_); go_simp; (try go_ints); refine hK _ ?_; clear hK K
            refine wpR_pure (fun K hK => ?_)
            go_simp
            apply Exists.intro
            refine ⟨fun m => ?_, hK _ ?_⟩
            · go_at_call 18; exact HSa.out m.w m.below
            clear hK K
            refine wpR_pure (fun K hK => ?_); go_simp; (try go_ints); refine hK _ ?_; clear hK K
            refine wpR_pure (fun K hK => ?_); go_simp; (try go_ints); refine hK _ ?_; clear hK K
            refine wpR_pure (fun K hK => ?_); go_simp; (try go_ints); refine hK _ ?_; clear hK K
            refine wpR_pure (fun K hK => ?_); go_simp; (try go_ints); refine hK _ ?_; clear hK K
            refine wpR_pure (fun K hK => ?_); go_simp; (try go_ints); refine hK _ ?_; clear hK K
            refine wpR_pure (fun K hK => ?_); go_simp; (try go_ints); refine hK _ ?_; clear hK K
            refine wpR_pure (fun K hK => ?_); go_simp; (try go_ints); refine hK _ ?_; clear hK K
            refine wpR_pure (fun K hK => ?_); go_simp; (try go_ints); refine hK _ ?_; clear hK K
            refine wpR_pure (fun K hK => ?_); go_simp; (try go_ints); refine hK _ ?_; clear hK K
            refine wpR_pure (fun K hK => ?_); go_simp; (try go_ints); refine hK _ ?_; clear hK K
            refine wpR_pure (fun K hK => ?_); go_simp; (try go_ints); refine hK _ ?_; clear hK K
            refine wpR_pure (fun K hK => ?_); go_simp; (try go_ints); refine hK _ ?_; clear hK K
            refine wpR_pure (fun K hK => ?_)
            go_simp
            apply Exists.intro
            refine ⟨fun m => ?_, hK _ ?_⟩
            · go_at_call 18; refine HSb.out m.w m.below _ _ (fun h => if_pos h) (fun h => if_neg h) (fun h => if_pos h) (fun h => if_neg h)
            clear hK K
            refine wpR_pure (fun K hK => ?_); go_simp; (try go_ints); refine hK _ ?_; clear hK K
            refine wpR_pure (fun K hK => ?_); go_simp; (try go_ints); refine hK _ ?_; clear hK K
            refine wpR_nil (fun xs n _ => ?_)
            have b9 := step_b BW.out n.below
            go_wp2_with fail
            all_goals exact bodyPost_ret (v := .bool true) (by simp [results, Try.results8, go_sem]) rfl ⟨rfl, b9⟩
end Go.Proofs.Ytnndanpahcdmaaa
