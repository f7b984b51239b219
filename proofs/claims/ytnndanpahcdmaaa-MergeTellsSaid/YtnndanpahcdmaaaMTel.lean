/-
  MergeTells: the log of any operations, one more, and those of it, are what the document says, or its error.
-/
import Derived.Test.YtnndanpahcdmaaaMRel
namespace Go.Proofs.Ytnndanpahcdmaaa
open Go.RowKit Go.Lib
set_option maxRecDepth 100000 in
set_option maxHeartbeats 16000000 in
theorem mtells_walk (a : Option Addr) (ca : Nat) (l : List Opn) (o : Opn) (x y : Int) (w : World) (hl : IsOp w a ca l ∧ l.length ≤ maxLen ∧ (∀ x ∈ l, InO x)) (ho : InO o) (_hst : I64 x ∧ I64 y) (hsz : l.length * 72 ≤ 140737488351232) :
    Calls Try.prog 3 #[.slice a l.length ca, OV o, .agg #[.int .i64 x, .int .i64 y]] w fun e w' => e = .returned (.bool true) ∧ Below w.heap.size w w' := by
  obtain ⟨hi, hlm, hin⟩ := hl
  have GOs := Lib.hid (show RgOs l from fun x hx => (hin x hx).1)
  have GO := Lib.hid ho.1
  have HLm := Lib.hid hlm
  have HSz := Lib.hid hsz
  have HI := Lib.hid hi
  obtain ⟨iO, hiO, hzO, hszO, hbyO⟩ := info_parts infoOp
  obtain ⟨fb, hfb⟩ : ∃ x, fewOp (l ++ [o]) 61 = x := ⟨_, rfl⟩
  have HF := Lib.hid hfb
  have hl61 : l.length + 1 ≤ maxLen := by have := hsz; unfold maxLen; omega
  clear hi hlm hin hfb
  obtain ⟨A, hA⟩ : ∃ A, A = (w.alloc (.cells #[.int .i64 o.c, .int .i64 o.r, .int .i64 o.k, .int .i64 o.n, .int .i64 o.p, .string o.s, .string o.d] 26)).alloc (.cells #[.int .i64 x, .int .i64 y] 24) := ⟨_, rfl⟩
  have hO : HasO A w.heap.size o := by rw [hA]; exact (hasO_new w o 26).below (below_alloc _ _)
  have hT : Cells A (w.heap.size + 1) [.int .i64 x, .int .i64 y] := by
    rw [hA]
    have q := cells_new (w.alloc (.cells #[.int .i64 o.c, .int .i64 o.r, .int .i64 o.k, .int .i64 o.n, .int .i64 o.p, .string o.s, .string o.d] 26)) [.int .i64 x, .int .i64 y] 24
    rw [show (w.alloc (.cells #[.int .i64 o.c, .int .i64 o.r, .int .i64 o.k, .int .i64 o.n, .int .i64 o.p, .string o.s, .string o.d] 26)).heap.size = w.heap.size + 1 by simp] at q
    exact q
  have b0 : Below w.heap.size w A := by rw [hA]; exact ((Below.refl w.heap.size w).alloc (Nat.le_refl _) _).alloc (by simp) _
  have HO := Lib.hid hO
  have HT := Lib.hid hT
  have HIA := Lib.hid (IsR.below HI.out b0)
  clear hO hT
  go_enter Try.func3, Try.ntmps3
  go_wp2_with fail
  rw [← hA]
  clear hA
  refine (awake_any _).mono ?_
  rintro e W1 ⟨rfl, c1⟩
  have b1 := step_b b0 c1
  have HI1 := Lib.hid (HIA.out.below c1)
  have HO1 := Lib.hid (HO.out.below c1)
  have HT1 := Lib.hid (HT.out.below c1)
  clear c1 HIA HO HT b0 HI
  go_upto_region 2 with fail
  refine wp_region_l (by kernel_rfl) (by kernel_rfl) ?_
  refine wpL_make (OwnOp W1.heap.size []) (fun v w w' h hk => h.stay v w w' hk) (fun xs n _ => ?_) (fun K hK => ?_)
  · unfold relOp; go_simp; simp only [relUpon]
    exact ⟨ownR_empty cellsOp 7 _ _ _ n.below.size, below_alloc _ _, new_own _ _ _ _⟩
  go_simp; (try go_ints); refine hK _ ?_; clear hK K
  refine wpL_pure (fun K hK => ?_); go_simp; (try go_ints); refine hK _ ?_; clear hK K
  refine wpL_take 0 (OwnOp W1.heap.size l) (fun v w w' h hk => h.stay v w w' hk) rfl (by kernel_rfl) (by kernel_rfl) (fun xs n hf => ?_) (fun K hK => ?_)
  · rw [if_pos (by rfl)]
    have h0 := factL hf 0 rfl (by kernel_rfl)
    have hsrc := src_rec op_len op_one Try.underlying22 (HI1.out.below n.below)
    obtain ⟨v', w', hrun, q1, q2, q3⟩ := run_append_rec (m := l) cellsOp n.w 22 22 26 iO _ 72 Try.underlying22 hiO hzO hszO hbyO rfl h0 _ hsrc (by have := HLm.out; simp; omega) (by have := HSz.out; simp; omega) n.below.size
    exact relOp_append _ _ _ _ rfl rfl rfl hrun ⟨q1, q2, q3⟩
  go_simp; (try go_ints); refine hK _ ?_; clear hK K
  refine wpL_use (OV o) (fun xs n hf => ?_) (fun K hK => ?_)
  · obtain ⟨k0, k1, k2, k3, k4, k5, k6⟩ := HO1.out.below n.below
    go_simp
  go_simp; (try go_ints); refine hK _ ?_; clear hK K
  refine wpL_make (OwnOp W1.heap.size [o]) (fun v w w' h hk => h.stay v w w' hk) (fun xs n _ => ?_) (fun K hK => ?_)
  · unfold relOp; go_simp; simp only [relUpon]
    exact ⟨ownR_made op_len _ n.w _ n.below.size [o] (by simp) _ rfl, below_alloc _ _, new_own _ _ _ _⟩
  go_simp; (try go_ints); refine hK _ ?_; clear hK K
  refine wpL_take 1 (OwnOp W1.heap.size (l ++ [o])) (fun v w w' h hk => h.stay v w w' hk) rfl (by kernel_rfl) (by kernel_rfl) (fun xs n hf => ?_) (fun K hK => ?_)
  · rw [if_pos (by rfl)]
    have h0 := factL hf 1 rfl (by kernel_rfl)
    obtain ⟨a5, c5, e5, hi5⟩ := (factL hf 0 rfl (by kernel_rfl)).isR op_len
    have hsrc := src_rec op_len op_one Try.underlying22 hi5
    obtain ⟨v', w', hrun, q1, q2, q3⟩ := run_append_rec (m := [o]) cellsOp n.w 22 22 26 iO _ 72 Try.underlying22 hiO hzO hszO hbyO rfl h0 _ hsrc (by have := hl61; simp; omega) (by have := HSz.out; simp; omega) n.below.size
    exact relOp_append _ _ _ _ rfl rfl e5 hrun ⟨q1, q2, q3⟩
  go_simp; (try go_ints); refine hK _ ?_; clear hK K
  refine wpL_use (.bool fb) (fun xs n hf => ?_) (fun K hK => ?_)
  · have h6 := ofew_own HF.out (factL hf 0 rfl (by kernel_rfl)) (by rw [List.length_append]; exact hl61)
    go_simp
  go_simp; (try go_ints); refine hK _ ?_; clear hK K
  refine wpL_pure (fun K hK => ?_); go_simp; (try go_ints); refine hK _ ?_; clear hK K
  refine wpL_nil (fun xs n _ => ?_)
  have b2 := step_b b1 n.below
  have HI2 := Lib.hid (HI1.out.below n.below)
  have HO2 := Lib.hid (HO1.out.below n.below)
  have HT2 := Lib.hid (HT1.out.below n.below)
  clear HI1 HO1 HT1 b1
  generalize n.w = w2 at b2 HI2 HO2 HT2 ⊢
  cases fb with
  | false =>
    go_wp2_with fail
    go_ret
    exact ⟨rfl, b2⟩
  | true =>
    have hfw := fewOp_of HF.out
    have hll : l.length ≤ 60 := by have := hfw.2; rw [List.length_append, List.length_singleton] at this; omega
    have HSl := Lib.hid (fun x (hx : x ∈ l) => hfw.1 x (List.mem_append_left _ hx))
    have HSo := Lib.hid (hfw.1 o (by simp))
    have hsl := sort_len l
    have hok := sort_ok (l := l) (by omega) HSl.out GOs.out
    have hall := all_sort (l := l) (by omega)
    have HOf := of_is (a := a) (c := ca) (l := l)
    obtain ⟨S, hS⟩ : ∃ S, sortO l = S := ⟨_, rfl⟩
    rw [hS] at hok hall hsl HOf
    have HOk := Lib.hid hok
    have HAll := Lib.hid hall
    have HOf0 := Lib.hid HOf
    obtain ⟨⟨T, er⟩, hTe⟩ : ∃ r, addL S o = r := ⟨_, rfl⟩
    have hTl : T.length ≤ 61 := by have := addL_more S o; rw [hTe] at this; simp only [] at this; omega
    have HTe := Lib.hid hTe
    have hwr : wrongN l ≤ 60 := Nat.le_trans (List.length_filter_le _ _) hll
    clear hfw hok hall HOf hS hTe
    have H1 := Lib.hid (fun (w' : World) (hb : Below w2.heap.size w2 w') => (show Calls Try.prog 11 #[LW none 0 0 none 0 0, .slice a l.length ca] w' (LgEP (S, (wrongN l : Int)) w') from by
      have := all_is w' (lgAt_nil w') okS_nil (IsR.below HI2.out hb) (by omega) HSl.out GOs.out
      rw [HAll.out] at this
      exact this))
    have H2 := Lib.hid (fun (w' : World) (hb : Below w2.heap.size w2 w') => (show Calls Try.prog 12 #[LW none 0 0 none 0 0, .slice a l.length ca] w' (LgEP (S, (wrongN l : Int)) w') from by
      have := rall_is w' (lgAt_nil w') okS_nil (IsR.below HI2.out hb) (by omega) HSl.out
      rw [HAll.out] at this
      exact this))
    obtain ⟨wn, hwn⟩ : ∃ wn : Nat, wrongN l = wn := ⟨_, rfl⟩
    rw [hwn] at H1 H2 hwr
    clear hwn
    go_wp2_with fail
    refine (H1.out _ (Below.refl _ _)).mono ?_
    rintro e v1 ⟨a1, n1, c1, e1, m1, d1, rfl, h1, k1⟩
    simp only [] at h1
    have q1 := below_alloc v1 (.cells #[.slice a1 n1 c1, .slice e1 m1 d1] 32)
    have K1 := Lib.hid (cells_new v1 [.slice a1 n1 c1, .slice e1 m1 d1] 32)
    have P1 := Lib.hid (k1.trans (q1.mono k1.size))
    have L1 := Lib.hid (h1.below q1)
    clear k1 q1 h1
    go_wp2_with fail
    refine (H2.out _ P1.out).mono ?_
    rintro e v2 ⟨a2, n2, c2, e2, m2, d2, rfl, h2, k2⟩
    simp only [] at h2
    have q2 := below_alloc v2 (.cells #[.slice a2 n2 c2, .slice e2 m2 d2] 32)
    have K2 := Lib.hid (cells_new v2 [.slice a2 n2 c2, .slice e2 m2 d2] 32)
    have j2 := k2.trans (q2.mono k2.size)
    have P2 := Lib.hid (P1.out.trans (j2.mono P1.out.size))
    have L2 := Lib.hid (h2.below q2)
    have K1' := Lib.hid (K1.out.below j2)
    have L1' := Lib.hid (L1.out.below j2)
    have HO3 := Lib.hid (HO2.out.below P2.out)
    have x0 := K1'.out.cell 0 _ rfl
    have x1 := K1'.out.cell 1 _ rfl
    obtain ⟨o0, o1, o2, o3, o4, o5, o6⟩ := HO3.out
    have HA1 := Lib.hid (add_is _ L1'.out HOk.out HSo.out GO.out)
    rw [HTe.out] at HA1
    clear k2 q2 h2 j2 P1 K1 L1
    go_wp2_with fail
    refine (HA1.out).mono ?_
    rintro e v3 ⟨a3, n3, c3, b3, m3, d3, rfl, h3, k3⟩
    simp only [] at h3
    have q3 := below_alloc v3 (.cells #[.slice a3 n3 c3, .slice b3 m3 d3] 32)
    have K3 := Lib.hid (cells_new v3 [.slice a3 n3 c3, .slice b3 m3 d3] 32)
    have j3 := k3.trans (q3.mono k3.size)
    have P3 := Lib.hid (P2.out.trans (j3.mono P2.out.size))
    have L3 := Lib.hid (h3.below q3)
    have K1 := Lib.hid (K1'.out.below j3)
    have L1 := Lib.hid (L1'.out.below j3)
    have K2' := Lib.hid (K2.out.below j3)
    have L2' := Lib.hid (L2.out.below j3)
    clear x0 x1 o0 o1 o2 o3 o4 o5 o6 k3 q3 h3 j3 P2 K1' L1' K2 L2 HA1
    have HO4 := Lib.hid (HO2.out.below P3.out)
    have x0 := K2'.out.cell 0 _ rfl
    have x1 := K2'.out.cell 1 _ rfl
    obtain ⟨o0, o1, o2, o3, o4, o5, o6⟩ := HO4.out
    have HA2 := Lib.hid (radd_is _ L2'.out HOk.out HSo.out)
    rw [HTe.out] at HA2
    go_wp2_with fail
    refine (HA2.out).mono ?_
    rintro e v4 ⟨a4, n4, c4, b4, m4, d4, rfl, h4, k4⟩
    simp only [] at h4
    have q4 := below_alloc v4 (.cells #[.slice a4 n4 c4, .slice b4 m4 d4] 32)
    obtain ⟨W8, hW8⟩ : ∃ W8, W8 = v4.alloc (.cells #[.slice a4 n4 c4, .slice b4 m4 d4] 32) := ⟨_, rfl⟩
    have j4 := k4.trans (q4.mono k4.size)
    have hK4 : Cells W8 v4.heap.size [.slice a4 n4 c4, .slice b4 m4 d4] := by rw [hW8]; exact cells_new v4 [.slice a4 n4 c4, .slice b4 m4 d4] 32
    have hL4 := h4.below q4
    have hP := P3.out.trans (j4.mono P3.out.size)
    have hK1 := K1.out.below j4
    have hK2 := K2'.out.below j4
    have hK3 := K3.out.below j4
    have hL1 := L1.out.below j4
    have hL2 := L2'.out.below j4
    have hL3 := L3.out.below j4
    rw [← hW8] at hL4 hP hK1 hK2 hK3 hL1 hL2 hL3
    clear K1 K2' K3 L1 L2' L3 P3 x0 x1 o0 o1 o2 o3 o4 o5 o6 k4 q4 h4 j4 HA2 HO3 HO4
    have K1 := Lib.hid hK1
    have K2 := Lib.hid hK2
    have K3 := Lib.hid hK3
    have K4 := Lib.hid hK4
    have L1 := Lib.hid (lgF_of hL1)
    have L2 := Lib.hid (lgF_of hL2)
    have L3 := Lib.hid (lgF_of hL3)
    have L4 := Lib.hid (lgF_of hL4)
    have B8 := Lib.hid (step_b b2 hP)
    have HT8 := Lib.hid (HT2.out.below hP)
    have HI8 := Lib.hid (IsR.below HI2.out hP)
    have HHas := Lib.hid (fun (w' : World) (hb : Below W8.heap.size W8 w') => has_is (x := x) (y := y) w' (hL1.below hb) (by omega))
    have HRas := Lib.hid (fun (w' : World) (hb : Below W8.heap.size W8 w') => rhas_is (x := x) (y := y) w' (hL2.below hb) (by omega))
    have HOps := Lib.hid (fun (w' : World) (hb : Below W8.heap.size W8 w') => (ops_is w' (hL1.below hb) (by omega)).mono fun e w' h => ops_f h)
    have HRps := Lib.hid (fun (w' : World) (hb : Below W8.heap.size W8 w') => (rops_is w' (hL2.below hb) (by omega)).mono fun e w' h => ops_f h)
    have HOf := Lib.hid (fun (w' : World) (hb : Below W8.heap.size W8 w') => (HOf0.out w' (IsR.below HI8.out hb) (by omega) HSl.out GOs.out).mono fun e w' h => lg_f h)
    obtain ⟨hb, hhb⟩ : ∃ hb, hasS S x y = hb := ⟨_, rfl⟩
    rw [hhb] at HHas HRas
    clear hhb hL1 hL2 hL3 hL4 hK1 hK2 hK3 hK4 hP b2 HI2 HO2 HT2 HOf0 H1 H2
    go_upto_region 8 with fail
    rw [← hW8]
    clear hW8
    refine wp_region_r (by kernel_rfl) (by kernel_rfl) ?_
    refine wpR_pure (fun K hK => ?_); go_simp; (try go_ints); refine hK _ ?_; clear hK K
    refine wpR_pure (fun K hK => ?_); go_simp; (try go_ints); refine hK _ ?_; clear hK K
    refine wpR_use (LW a1 n1 c1 e1 m1 d1) (fun xs n hf => ?_) (fun K hK => ?_)
    · have q0 := (K1.out.below n.below).cell 0 _ rfl
      have q1 := (K1.out.below n.below).cell 1 _ rfl
      go_simp
    go_simp; (try go_ints); refine hK _ ?_; clear hK K
    refine wpR_use (LW a2 n2 c2 e2 m2 d2) (fun xs n hf => ?_) (fun K hK => ?_)
    · have q0 := (K2.out.below n.below).cell 0 _ rfl
      have q1 := (K2.out.below n.below).cell 1 _ rfl
      go_simp
    go_simp; (try go_ints); refine hK _ ?_; clear hK K
    refine wpR_use (.bool true) (fun xs n hf => ?_) (fun K hK => ?_)
    · have h6 := lsame_f ((L1.out.stable _ _ _ _ n.below)) ((L2.out.stable _ _ _ _ n.below)) rfl (by omega)
      go_simp
    go_simp; (try go_ints); refine hK _ ?_; clear hK K
    refine wpR_pure (fun K hK => ?_); go_simp; (try go_ints); refine hK _ ?_; clear hK K
    refine wpR_pure (fun K hK => ?_); go_simp; (try go_ints); refine hK _ ?_; clear hK K
    refine wpR_pure (fun K hK => ?_); go_simp; (try go_ints); refine hK _ ?_; clear hK K
    refine wpR_pure (fun K hK => ?_); go_simp; (try go_ints); refine hK _ ?_; clear hK K
    refine wpR_pure (fun K hK => ?_); go_simp; (try go_ints); refine hK _ ?_; clear hK K
    refine wpR_pure (fun K hK => ?_); go_simp; (try go_ints); refine hK _ ?_; clear hK K
    refine wpR_pure (fun K hK => ?_); go_simp; (try go_ints); refine hK _ ?_; clear hK K
    refine wpR_use (LW a3 n3 c3 b3 m3 d3) (fun xs n hf => ?_) (fun K hK => ?_)
    · have q0 := (K3.out.below n.below).cell 0 _ rfl
      have q1 := (K3.out.below n.below).cell 1 _ rfl
      go_simp
    go_simp; (try go_ints); refine hK _ ?_; clear hK K
    refine wpR_use (LW a4 n4 c4 b4 m4 d4) (fun xs n hf => ?_) (fun K hK => ?_)
    · have q0 := (K4.out.below n.below).cell 0 _ rfl
      have q1 := (K4.out.below n.below).cell 1 _ rfl
      go_simp
    go_simp; (try go_ints); refine hK _ ?_; clear hK K
    refine wpR_use (.bool true) (fun xs n hf => ?_) (fun K hK => ?_)
    · have h6 := lsame_f ((L3.out.stable _ _ _ _ n.below)) ((L4.out.stable _ _ _ _ n.below)) rfl (by omega)
      go_simp
    go_simp; (try go_ints); refine hK _ ?_; clear hK K
    refine wpR_pure (fun K hK => ?_); go_simp; (try go_ints); refine hK _ ?_; clear hK K
    refine wpR_pure (fun K hK => ?_); go_simp; (try go_ints); refine hK _ ?_; clear hK K
    refine wpR_pure (fun K hK => ?_); go_simp; (try go_ints); refine hK _ ?_; clear hK K
    refine wpR_pure (fun K hK => ?_); go_simp; (try go_ints); refine hK _ ?_; clear hK K
    refine wpR_pure (fun K hK => ?_); go_simp; (try go_ints); refine hK _ ?_; clear hK K
    refine wpR_pure (fun K hK => ?_); go_simp; (try go_ints); refine hK _ ?_; clear hK K
    refine wpR_pure (fun K hK => ?_); go_simp; (try go_ints); refine hK _ ?_; clear hK K
    refine wpR_use (LW a1 n1 c1 e1 m1 d1) (fun xs n hf => ?_) (fun K hK => ?_)
    · have q0 := (K1.out.below n.below).cell 0 _ rfl
      have q1 := (K1.out.below n.below).cell 1 _ rfl
      go_simp
    go_simp; (try go_ints); refine hK _ ?_; clear hK K
    refine wpR_use (.agg #[.int .i64 x, .int .i64 y]) (fun xs n hf => ?_) (fun K hK => ?_)
    · have q0 := (HT8.out.below n.below).cell 0 _ rfl
      have q1 := (HT8.out.below n.below).cell 1 _ rfl
      go_simp
    go_simp; (try go_ints); refine hK _ ?_; clear hK K
    refine wpR_use (.bool hb) (fun xs n hf => ?_) (fun K hK => ?_)
    · have h6 := HHas.out _ n.below
      go_simp
    go_simp; (try go_ints); refine hK _ ?_; clear hK K
    refine wpR_use (LW a2 n2 c2 e2 m2 d2) (fun xs n hf => ?_) (fun K hK => ?_)
    · have q0 := (K2.out.below n.below).cell 0 _ rfl
      have q1 := (K2.out.below n.below).cell 1 _ rfl
      go_simp
    go_simp; (try go_ints); refine hK _ ?_; clear hK K
    refine wpR_use (.agg #[.int .i64 x, .int .i64 y]) (fun xs n hf => ?_) (fun K hK => ?_)
    · have q0 := (HT8.out.below n.below).cell 0 _ rfl
      have q1 := (HT8.out.below n.below).cell 1 _ rfl
      go_simp
    go_simp; (try go_ints); refine hK _ ?_; clear hK K
    refine wpR_use (.bool hb) (fun xs n hf => ?_) (fun K hK => ?_)
    · have h6 := HRas.out _ n.below
      go_simp
    go_simp; (try go_ints); refine hK _ ?_; clear hK K
    refine wpR_pure (fun K hK => ?_); go_simp; (try go_ints); refine hK _ ?_; clear hK K
    refine wpR_pure (fun K hK => ?_); go_simp; (try go_ints); refine hK _ ?_; clear hK K
    refine wpR_pure (fun K hK => ?_); go_simp; (try go_ints); refine hK _ ?_; clear hK K
    refine wpR_use (LW a1 n1 c1 e1 m1 d1) (fun xs n hf => ?_) (fun K hK => ?_)
    · have q0 := (K1.out.below n.below).cell 0 _ rfl
      have q1 := (K1.out.below n.below).cell 1 _ rfl
      go_simp
    go_simp; (try go_ints); refine hK _ ?_; clear hK K
    refine wpR_make (OpF S) (OpF.stable _) (fun xs n _ => ?_) (fun K hK => ?_)
    · unfold relOp; go_simp; simp only [relUpon]
      exact (HOps.out _ n.below)
    go_simp; (try go_ints); refine hK _ ?_; clear hK K
    refine wpR_use (LW a2 n2 c2 e2 m2 d2) (fun xs n hf => ?_) (fun K hK => ?_)
    · have q0 := (K2.out.below n.below).cell 0 _ rfl
      have q1 := (K2.out.below n.below).cell 1 _ rfl
      go_simp
    go_simp; (try go_ints); refine hK _ ?_; clear hK K
    refine wpR_make (OpF S) (OpF.stable _) (fun xs n _ => ?_) (fun K hK => ?_)
    · unfold relOp; go_simp; simp only [relUpon]
      exact (HRps.out _ n.below)
    go_simp; (try go_ints); refine hK _ ?_; clear hK K
    refine wpR_use (.bool true) (fun xs n hf => ?_) (fun K hK => ?_)
    · have h6 := osame_f (fact_at hf 1 rfl (by kernel_rfl)) (fact_at hf 0 rfl (by kernel_rfl)) rfl (by omega)
      go_simp
    go_simp; (try go_ints); refine hK _ ?_; clear hK K
    refine wpR_pure (fun K hK => ?_); go_simp; (try go_ints); refine hK _ ?_; clear hK K
    refine wpR_pure (fun K hK => ?_); go_simp; (try go_ints); refine hK _ ?_; clear hK K
    refine wpR_pure (fun K hK => ?_); go_simp; (try go_ints); refine hK _ ?_; clear hK K
    refine wpR_make (LgF S) (LgF.stable _) (fun xs n _ => ?_) (fun K hK => ?_)
    · unfold relOp; go_simp; simp only [relUpon]
      exact (HOf.out _ n.below)
    go_simp; (try go_ints); refine hK _ ?_; clear hK K
    refine wpR_use (LW a1 n1 c1 e1 m1 d1) (fun xs n hf => ?_) (fun K hK => ?_)
    · have q0 := (K1.out.below n.below).cell 0 _ rfl
      have q1 := (K1.out.below n.below).cell 1 _ rfl
      go_simp
    go_simp; (try go_ints); refine hK _ ?_; clear hK K
    refine wpR_use (.bool true) (fun xs n hf => ?_) (fun K hK => ?_)
    · have h6 := lsame_f (fact_at hf 0 rfl (by kernel_rfl)) (L1.out.stable _ _ _ _ n.below) rfl (by omega)
      go_simp
    go_simp; (try go_ints); refine hK _ ?_; clear hK K
    refine wpR_pure (fun K hK => ?_); go_simp; (try go_ints); refine hK _ ?_; clear hK K
    refine wpR_pure (fun K hK => ?_); go_simp; (try go_ints); refine hK _ ?_; clear hK K
    refine wpR_nil (fun xs n _ => ?_)
    have b9 := step_b B8.out n.below
    go_wp2_with fail
    go_ret
    exact ⟨rfl, b9⟩
end Go.Proofs.Ytnndanpahcdmaaa
