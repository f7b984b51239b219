/-
  MergeFolds: the nodes of a log are what its operations make, whenever they came.
-/
import Derived.Test.YtnndanpahcdmaaaMRel
namespace Go.Proofs.Ytnndanpahcdmaaa
open Go.RowKit Go.Lib
theorem srt_step {s : List Opn} (h : Srt s) {p : Nat} {x y : Opn} (hx : s[p]? = some x) (hy : s[p + 1]? = some y) : lessS x.c x.r y.c y.r = true := by
  obtain ⟨hp, ex⟩ := List.getElem?_eq_some_iff.1 hx
  obtain ⟨hq, ey⟩ := List.getElem?_eq_some_iff.1 hy
  have := List.pairwise_iff_getElem.1 h p (p + 1) hp hq (by omega)
  rw [ex, ey] at this
  exact this
set_option maxRecDepth 100000 in
set_option maxHeartbeats 8000000 in
theorem mfolds_walk (a : Option Addr) (ca : Nat) (l : List Opn) (w : World) (hl : IsOp w a ca l ∧ l.length ≤ maxLen ∧ (∀ x ∈ l, InO x)) :
    Calls Try.prog 4 #[.slice a l.length ca] w fun e w' => e = .returned (.bool true) ∧ Below w.heap.size w w' := by
  obtain ⟨hi, hlm, hin⟩ := hl
  have GOs := Lib.hid (show RgOs l from fun x hx => (hin x hx).1)
  have HLm := Lib.hid hlm
  have HI := Lib.hid hi
  clear hi hlm hin
  obtain ⟨fa, hfa⟩ : ∃ x, fewOp l 60 = x := ⟨_, rfl⟩
  have HFa := Lib.hid hfa
  clear hfa
  go_enter Try.func4, Try.ntmps4
  go_wp2_with fail
  refine (awake_any _).mono ?_
  rintro e w1 ⟨rfl, b1⟩
  have HI1 := Lib.hid (HI.out.below b1)
  clear HI
  go_wp2_with fail
  refine (ofew_is HFa.out _ HI1.out HLm.out).mono ?_
  rintro e w2 ⟨rfl, rfl⟩
  cases fa with
  | false =>
    go_wp2_with fail
    go_ret
    exact ⟨rfl, b1⟩
  | true =>
    have hll : l.length ≤ 60 := by have := (fewOp_of HFa.out).2; omega
    have HSl := Lib.hid (small_of HFa.out)
    have hok := sort_ok (l := l) (by omega) HSl.out GOs.out
    have hsl := sort_len l
    have hfold : foldN l = doAll [] (sortO l) := rfl
    go_wp2_with fail
    refine (of_is _ HI1.out (by omega) HSl.out GOs.out).mono ?_
    rintro e w4 ⟨a4, n4, c4, b4, m4, d4, rfl, h4, k4⟩
    obtain ⟨s, hs⟩ : ∃ s, sortO l = s := ⟨_, rfl⟩
    rw [hs] at h4 hok hsl hfold
    have HOk := Lib.hid hok
    have HFo := Lib.hid hfold
    obtain ⟨hi4, rfl, hm4⟩ := h4
    have HM4 := Lib.hid hm4
    have q4 := below_alloc w4 (.cells #[.slice a4 s.length c4, .slice b4 m4 d4] 32)
    obtain ⟨W, hW⟩ : ∃ W, W = w4.alloc (.cells #[.slice a4 s.length c4, .slice b4 m4 d4] 32) := ⟨_, rfl⟩
    have hG : Cells W w4.heap.size [.slice a4 s.length c4, .slice b4 m4 d4] := by rw [hW]; exact cells_new w4 [.slice a4 s.length c4, .slice b4 m4 d4] 32
    have hE : IsEn W a4 c4 (ents s) := by rw [hW]; exact IsR.below hi4.1 q4
    have hN : IsNd W b4 d4 (doAll [] s) := by rw [hW]; exact IsR.below hi4.2 q4
    have hB : Below w.heap.size w W := by rw [hW]; exact (step_b b1 k4).trans (q4.mono (Nat.le_trans b1.size k4.size))
    have hIW : IsOp W a ca l := by rw [hW]; exact IsR.below (IsR.below HI1.out k4) q4
    have HG := Lib.hid hG
    have HE := Lib.hid hE
    have HN := Lib.hid hN
    have HB := Lib.hid hB
    have HIW := Lib.hid hIW
    clear hG hE hN hB hIW k4 q4 hi4 hm4 hok hs HI1 hfold b1
    go_wp2_with fail
    rw [← hW]
    clear hW
    go_loopw [5, 6] (fun x5 x6 w' => ∃ (k : Nat) (a5 : Option Addr) (c5 : Nat), k ≤ s.length ∧ x6 = .int .i64 k ∧ x5 = .slice a5 (doAll [] (s.take k)).length c5 ∧ IsNd w' a5 c5 (doAll [] (s.take k)) ∧ Below W.heap.size W w') (fun _ x6 _ => s.length - (RowKit.intOf x6).toNat)
    case atStart => exact ⟨0, none, 0, Nat.zero_le _, rfl, rfl, isR_nil _ _ _, Below.refl _ _⟩
    case round =>
      obtain ⟨k, a5, c5, hk, rfl, rfl, hnd, ck⟩ := hrel
      have HNd := Lib.hid hnd
      have hnk := nodes_few HOk.out.few k
      have hrk := HOk.out.nodes k
      have HRk := Lib.hid hrk
      have CK := Lib.hid ck
      have G := Lib.hid (HG.out.below ck)
      have x0 := G.out.cell 0 _ rfl
      have x1 := G.out.cell 1 _ rfl
      clear hnd hrk
      by_cases hks : k < s.length
      · obtain ⟨o, ho⟩ : ∃ o, s[k]? = some o := ⟨s[k], List.getElem?_eq_getElem hks⟩
        have hks2 : (k : Int) < (s.length : Int) := by omega
        have hee := ents_at ho
        obtain ⟨g, off, rfl, hg, hc⟩ := (IsR.below HE.out ck).ent hee
        have hAt := atEn_of (hc k _ hee)
        have hmem := List.mem_of_getElem? ho
        have hnext : doAll [] (s.take (k + 1)) = (doN (doAll [] (s.take k)) o).1 := by rw [List.take_add_one, ho]; exact doAll_snoc [] _ o
        have HDo := Lib.hid (fun (w' : World) (hb : Below wr.heap.size wr w') => tdo_any a5 c5 (doAll [] (s.take k)) o w' (IsR.below HNd.out hb) (by omega) (HOk.out.small o hmem).1 (HOk.out.small o hmem).2 HRk.out (HOk.out.rng o hmem))
        obtain ⟨⟨tn, u⟩, htu⟩ : ∃ x, doN (doAll [] (s.take k)) o = x := ⟨_, rfl⟩
        rw [htu] at hAt HDo hnext
        have HNext := Lib.hid hnext
        have HHo := Lib.hid ho
        obtain ⟨m0, m1, m2, m3, m4', m5, m6, m7, m8, m9, m10, m11, m12, m13, m14, m15, m16⟩ := hAt
        simp only [] at m0 m1 m2 m3 m4' m5 m6 m7 m8 m9 m10 m11 m12 m13 m14 m15 m16
        obtain ⟨tl, htl⟩ : ∃ tl, (doAll [] (s.take k)).length = tl := ⟨_, rfl⟩
        rw [htl] at HDo hnk ⊢
        have qn := below_alloc wr (.cells #[.int .i64 o.c, .int .i64 o.r, .int .i64 o.k, .int .i64 o.n, .int .i64 o.p, .string o.s, .string o.d, .bool u.did, .bool u.had, .int .i64 u.was.id, .int .i64 u.was.p, .string u.was.s, .int .i64 u.was.mc, .int .i64 u.was.mr, .string u.was.d, .int .i64 u.was.wc, .int .i64 u.was.wr] 49)
        have HEb := Lib.hid (cells_new wr (cellsE ⟨o, u⟩) 49)
        have HD1 := Lib.hid (HDo.out _ qn)
        clear hc hee ho hmem hnext htu htl
        go_wp2_with fail
        refine (HD1.out).mono ?_
        rintro e w5 ⟨a6, c6, rfl, hn6, k6⟩
        have E5 := Lib.hid (HEb.out.below k6)
        have c56 := qn.trans (k6.mono qn.size)
        have G5 := Lib.hid (G.out.below c56)
        have N5 := Lib.hid hn6
        have C56 := Lib.hid c56
        have q5 := below_alloc w5 (.cells #[.bool u.did, .bool u.had, .int .i64 u.was.id, .int .i64 u.was.p, .string u.was.s, .int .i64 u.was.mc, .int .i64 u.was.mr, .string u.was.d, .int .i64 u.was.wc, .int .i64 u.was.wr] 47)
        have HU5 := Lib.hid (cells_new w5 (cellsU u) 47)
        obtain ⟨WX, hWX⟩ : ∃ WX, WX = w5.alloc (.cells #[.bool u.did, .bool u.had, .int .i64 u.was.id, .int .i64 u.was.p, .string u.was.s, .int .i64 u.was.mc, .int .i64 u.was.mr, .string u.was.d, .int .i64 u.was.wc, .int .i64 u.was.wr] 47) := ⟨_, rfl⟩
        have hUX := HU5.out
        change Cells (w5.alloc (.cells #[.bool u.did, .bool u.had, .int .i64 u.was.id, .int .i64 u.was.p, .string u.was.s, .int .i64 u.was.mc, .int .i64 u.was.mr, .string u.was.d, .int .i64 u.was.wc, .int .i64 u.was.wr] 47)) _ _ at hUX
        have hEX := E5.out.below q5
        have hGX := G5.out.below q5
        have hNX := IsR.below N5.out q5
        have hCX := C56.out.trans (q5.mono C56.out.size)
        rw [← hWX] at hUX hEX hGX hNX hCX
        have UX := Lib.hid hUX
        have EX := Lib.hid hEX
        have GX := Lib.hid hGX
        have NX := Lib.hid hNX
        have CX := Lib.hid (CK.out.trans (hCX.mono CK.out.size))
        have CX0 := Lib.hid hCX
        clear hUX hEX hGX hNX hCX q5 k6 c56 qn hn6 m0 m1 m2 m3 m4' m5 m6 m7 m8 m9 m10 m11 m12 m13 m14 m15 m16 HD1 HDo E5 G5 N5 HU5 HEb C56
        go_upto_region 12 with fail
        rw [← hWX]
        clear hWX
        cases k with
        | zero =>
          have x0 := GX.out.cell 0 _ rfl
          obtain ⟨u0, u1, u2, u3, u4, u5, u6, u7, u8, u9⟩ := cellU_cells UX.out
          have ltu := UX.out.lt
          have lte := EX.out.lt
          have ltg := GX.out.lt
          have v0 := EX.out.cell 0 _ rfl
          have v1 := EX.out.cell 1 _ rfl
          have v7 := EX.out.cell 7 _ rfl
          have v8 := EX.out.cell 8 _ rfl
          have v9 := EX.out.cell 9 _ rfl
          have v10 := EX.out.cell 10 _ rfl
          have v11 := EX.out.cell 11 _ rfl
          have v12 := EX.out.cell 12 _ rfl
          have v13 := EX.out.cell 13 _ rfl
          have v14 := EX.out.cell 14 _ rfl
          have v15 := EX.out.cell 15 _ rfl
          have v16 := EX.out.cell 16 _ rfl
          refine wp_region_later (by kernel_rfl) (by kernel_rfl) (fun hL => ?_)
          repeat (go_big_quiet_step (fail))
          first | (intro w8 hw8) | (refine wpQuiet_nil ?_; intro w8 hw8)
          have c8 := later_out hw8
          have N8 := Lib.hid (IsR.below NX.out c8)
          have C8 := Lib.hid (CX.out.trans (c8.mono CX.out.size))
          clear hw8 hL c8 ltu lte ltg x0 u0 u1 u2 u3 u4 u5 u6 u7 u8 u9 v0 v1 v7 v8 v9 v10 v11 v12 v13 v14 v15 v16
          go_wp2_with fail
          go_roundw
          case rel => exact ⟨0 + 1, a6, c6, by omega, by go_num, by rw [HNext.out], by rw [HNext.out]; exact N8.out, C8.out⟩
          case measure => simp [RowKit.intOf]; omega
        | succ p =>
          obtain ⟨y, hy⟩ : ∃ y, s[p]? = some y := ⟨_, List.getElem?_eq_getElem (by omega)⟩
          have HLs := Lib.hid (fun w => sless_any y.c y.r o.c o.r w)
          rw [srt_step HOk.out.lg.1 hy HHo.out] at HLs
          have hey := ents_at hy
          obtain ⟨gy, oy, ey, hgy, hcy⟩ := (IsR.below HE.out CX.out).ent hey
          cases ey
          have y0 := (atEn_of (hcy p _ hey)).1
          have y1 := (atEn_of (hcy p _ hey)).2.1
          simp only [] at y0 y1
          have hpl : (p : Int) < (s.length : Int) := by omega
          clear hey hcy hy
          have x0 := GX.out.cell 0 _ rfl
          obtain ⟨u0, u1, u2, u3, u4, u5, u6, u7, u8, u9⟩ := cellU_cells UX.out
          have ltu := UX.out.lt
          have lte := EX.out.lt
          have ltg := GX.out.lt
          have v0 := EX.out.cell 0 _ rfl
          have v1 := EX.out.cell 1 _ rfl
          have v7 := EX.out.cell 7 _ rfl
          have v8 := EX.out.cell 8 _ rfl
          have v9 := EX.out.cell 9 _ rfl
          have v10 := EX.out.cell 10 _ rfl
          have v11 := EX.out.cell 11 _ rfl
          have v12 := EX.out.cell 12 _ rfl
          have v13 := EX.out.cell 13 _ rfl
          have v14 := EX.out.cell 14 _ rfl
          have v15 := EX.out.cell 15 _ rfl
          have v16 := EX.out.cell 16 _ rfl
          refine wp_region_later (by kernel_rfl) (by kernel_rfl) (fun hL => ?_)
          repeat (go_big_quiet_step ((first | (go_at_call 23; with_reducible refine later_calls (HLs.out _)))))
          first | (intro w8 hw8) | (refine wpQuiet_nil ?_; intro w8 hw8)
          have c8 := later_out hw8
          have N8 := Lib.hid (IsR.below NX.out c8)
          have C8 := Lib.hid (CX.out.trans (c8.mono CX.out.size))
          clear hw8 hL c8 ltu lte ltg x0 u0 u1 u2 u3 u4 u5 u6 u7 u8 u9 v0 v1 v7 v8 v9 v10 v11 v12 v13 v14 v15 v16
          go_wp2_with fail
          go_roundw
          case rel => exact ⟨p + 1 + 1, a6, c6, by omega, by go_num, by rw [HNext.out], by rw [HNext.out]; exact N8.out, C8.out⟩
          case measure => simp [RowKit.intOf]; omega
      · obtain rfl : k = s.length := by omega
        have hks2 : ¬ (s.length : Int) < (s.length : Int) := by omega
        have hnd := HNd.out
        rw [List.take_length] at hnd hnk ⊢
        have hN1 : NdF (doAll [] s) (.slice b4 m4 d4) wr := ⟨b4, d4, by rw [HM4.out], IsR.below HN.out ck⟩
        have hN2 : NdF (doAll [] s) (.slice a5 (doAll [] s).length c5) wr := ⟨a5, c5, rfl, hnd⟩
        obtain ⟨tl, htl⟩ : ∃ tl, (doAll [] s).length = tl := ⟨_, rfl⟩
        rw [htl] at hN2 hnk ⊢
        have HN1 := Lib.hid hN1
        have HN2 := Lib.hid hN2
        have HTl := Lib.hid htl
        have HIr := Lib.hid (IsR.below HIW.out ck)
        have hle : (s.length : Int) ≤ (l.length : Int) := by omega
        clear hnd hN1 hN2 htl HNd HRk
        go_upto_region 14 with fail
        clear x0 x1
        refine wp_region_r (by kernel_rfl) (by kernel_rfl) ?_
        refine wpR_pure (fun K hK => ?_); go_simp; (try go_ints); refine hK _ ?_; clear hK K
        refine wpR_pure (fun K hK => ?_); go_simp; (try go_ints); refine hK _ ?_; clear hK K
        refine wpR_pure (fun K hK => ?_); go_simp; (try go_ints); refine hK _ ?_; clear hK K
        refine wpR_use (.slice b4 m4 d4) (fun xs n hf => ?_) (fun K hK => ?_)
        · have q1 := (G.out.below n.below).cell 1 _ rfl
          go_simp
        go_simp; (try go_ints); refine hK _ ?_; clear hK K
        refine wpR_pure (fun K hK => ?_); go_simp; (try go_ints); refine hK _ ?_; clear hK K
        refine wpR_use (.bool true) (fun xs n hf => ?_) (fun K hK => ?_)
        · have h6 := nsame_f (HN1.out.stable _ _ _ _ n.below) (HN2.out.stable _ _ _ _ n.below) rfl (by have := HTl.out; omega)
          go_simp
        go_simp; (try go_ints); refine hK _ ?_; clear hK K
        refine wpR_pure (fun K hK => ?_); go_simp; (try go_ints); refine hK _ ?_; clear hK K
        refine wpR_pure (fun K hK => ?_); go_simp; (try go_ints); refine hK _ ?_; clear hK K
        refine wpR_pure (fun K hK => ?_); go_simp; (try go_ints); refine hK _ ?_; clear hK K
        refine wpR_use (.slice b4 m4 d4) (fun xs n hf => ?_) (fun K hK => ?_)
        · have q1 := (G.out.below n.below).cell 1 _ rfl
          go_simp
        go_simp; (try go_ints); refine hK _ ?_; clear hK K
        refine wpR_pure (fun K hK => ?_); go_simp; (try go_ints); refine hK _ ?_; clear hK K
        refine wpR_make (NdF (doAll [] s)) (NdF.stable _) (fun xs n _ => ?_) (fun K hK => ?_)
        · unfold relOp; go_simp; simp only [relUpon]
          rw [← HFo.out]
          exact (tfold_any a ca l n.w (IsR.below HIr.out n.below) (by omega) HSl.out GOs.out).mono fun e w' h => nods_f h
        go_simp; (try go_ints); refine hK _ ?_; clear hK K
        refine wpR_use (.bool true) (fun xs n hf => ?_) (fun K hK => ?_)
        · have h6 := nsame_f (HN1.out.stable _ _ _ _ n.below) (fact_at hf 0 rfl (by kernel_rfl)) rfl (by have := HTl.out; omega)
          go_simp
        go_simp; (try go_ints); refine hK _ ?_; clear hK K
        refine wpR_pure (fun K hK => ?_); go_simp; (try go_ints); refine hK _ ?_; clear hK K
        refine wpR_pure (fun K hK => ?_); go_simp; (try go_ints); refine hK _ ?_; clear hK K
        refine wpR_pure (fun K hK => ?_); go_simp; (try go_ints); refine hK _ ?_; clear hK K
        refine wpR_use (.slice a4 s.length c4) (fun xs n hf => ?_) (fun K hK => ?_)
        · have q0 := (G.out.below n.below).cell 0 _ rfl
          go_simp
        go_simp; (try go_ints); refine hK _ ?_; clear hK K
        refine wpR_pure (fun K hK => ?_); go_simp; (try go_ints); refine hK _ ?_; clear hK K
        refine wpR_pure (fun K hK => ?_); go_simp; (try go_ints); refine hK _ ?_; clear hK K
        refine wpR_pure (fun K hK => ?_); go_simp; (try go_ints); refine hK _ ?_; clear hK K
        refine wpR_pure (fun K hK => ?_); go_simp; (try go_ints); refine hK _ ?_; clear hK K
        refine wpR_pure (fun K hK => ?_); go_simp; (try go_ints); refine hK _ ?_; clear hK K
        refine wpR_pure (fun K hK => ?_); go_simp; (try go_ints); refine hK _ ?_; clear hK K
        refine wpR_nil (fun xs n _ => ?_)
        have b13 := step_b HB.out (ck.trans (n.below.mono ck.size))
        go_wp2_with fail
        go_ret
        exact ⟨rfl, b13⟩
end Go.Proofs.Ytnndanpahcdmaaa
