/-
  TreeUp: what is above a node that was moved is its directory, and what is above that.
-/
import Derived.Test.YtefbkhgnhcllbaaTForest
namespace Go.Proofs.Ytefbkhgnhcllbaa
open Go.RowKit Go.Lib
set_option maxRecDepth 100000 in
theorem nums_is {l m : List Int} {v u : Value} {W : World} {B D : Nat} (h1 : OwnInt B l v W) (h2 : OwnInt D m u W) (e : l = m) (hl : l.length ≤ 1000000) :
    Calls Try.prog 19 #[v, u] W fun e w' => e = .returned (.bool true) ∧ Below W.heap.size W w' := by
  obtain ⟨a, c, rfl, ha⟩ := h1.isR ci_len
  obtain ⟨b, d, rfl, hb⟩ := h2.isR ci_len
  have := rnums_any a b c d l m W ha hb hl
  rw [show sameI l m = true from decide_eq_true e] at this
  exact this
set_option maxRecDepth 100000 in
theorem above_own {a : Option Addr} {c : Nat} {l : List Nod} {i : Int} {r : List Int} (e : aboveN l i = r) (w : World) (h : IsNd w a c l) (hl : l.length ≤ 1000) (hr : RgNs l) (hi : I64 i) :
    Calls Try.prog 20 #[.slice a l.length c, .int .i64 i] w fun e w' => ∃ v, e = .returned v ∧ OwnInt 0 r v w' ∧ Below w.heap.size w w' ∧ ∀ g, v.ownBlock = some g → w.heap.size ≤ g ∧ g < w'.heap.size := by
  refine (tabove_any a c l i w h hl hr hi).mono ?_
  rw [e]
  rintro e w' ⟨v, rfl, ho, hb⟩
  exact ⟨v, rfl, OwnR.mono ho (Nat.zero_le _), hb, fun g hg => OwnC.lt ho g hg⟩
set_option maxRecDepth 100000 in
set_option maxHeartbeats 8000000 in
theorem tup_walk (a : Option Addr) (cap : Nat) (l : List Opn) (o : Opn) (w : World) (hl : IsOp w a cap l ∧ l.length ≤ maxLen ∧ (∀ x ∈ l, InO x)) (_ho : InO o) :
    Calls Try.prog 9 #[.slice a l.length cap, OV o] w fun e w' => e = .returned (.bool true) ∧ Below w.heap.size w w' := by
  obtain ⟨hi, hlm, hin⟩ := hl
  have GOs := Lib.hid (show RgOs l from fun x hx => (hin x hx).1)
  clear hin
  have GO := Lib.hid (show RgO o from _ho.1)
  obtain ⟨ii, hii, hz, hsz, hby⟩ := info_parts infoI
  have HLm := Lib.hid hlm
  have HI := Lib.hid (hi.below (below_alloc w (.cells (cellsOp o).toArray 26)))
  have HO := Lib.hid (cells_new w (cellsOp o) 26)
  clear hi hlm _ho
  obtain ⟨fb, hfb⟩ : ∃ x, fewOp l 60 = x := ⟨_, rfl⟩
  obtain ⟨gb, hgb⟩ : ∃ x, fewOp [o] 1 = x := ⟨_, rfl⟩
  have HF := Lib.hid hfb
  have HG := Lib.hid hgb
  clear hfb hgb
  go_enter Try.func9, Try.ntmps9
  go_wp2_with fail
  refine (awake_any _).mono ?_
  rintro e w1 ⟨rfl, c1⟩
  have b1 := step_a (Below.refl _ _) c1
  have HI1 := Lib.hid (HI.out.below c1)
  have HO1 := Lib.hid (HO.out.below c1)
  clear c1 HI HO
  go_wp2_with fail
  refine (ofew_is HF.out _ HI1.out HLm.out).mono ?_
  rintro e w2 ⟨rfl, rfl⟩
  obtain ⟨m0, m1, m2, m3, m4, m5, m6⟩ := atOp_of HO1.out.atC
  rw [Nat.zero_add] at m1 m2 m3 m4 m5 m6
  cases fb with
  | false =>
    go_wp2_with fail
    go_ret
    exact ⟨rfl, b1⟩
  | true =>
    go_wp2_with fail
    refine (ofew_one HG.out _ _ rfl).mono ?_
    rintro e w3 ⟨rfl, rfl⟩
    have b3 := b1.alloc b1.size (.cells (cellsOp o).toArray 26)
    have HI3 := Lib.hid (HI1.out.below (below_alloc w2 (.cells (cellsOp o).toArray 26)))
    have HO3 := Lib.hid (HO1.out.below (below_alloc w2 (.cells (cellsOp o).toArray 26)))
    clear m0 m1 m2 m3 m4 m5 m6 HI1 HO1 b1
    generalize w2.alloc (.cells (cellsOp o).toArray 26) = w3 at *
    obtain ⟨m0, m1, m2, m3, m4, m5, m6⟩ := atOp_of HO3.out.atC
    rw [Nat.zero_add] at m1 m2 m3 m4 m5 m6
    cases gb with
    | false =>
      go_wp2_with fail
      go_ret
      exact ⟨rfl, b3⟩
    | true =>
      by_cases hk : o.k = 1
      · have hso := (fewOp_of HG.out).1 o (by simp)
        have hkb : (o.k != 1) = false := by simp [hk]
        have HK := Lib.hid (show o.k ≠ 2 by omega)
        have HFold := Lib.hid (tfold_any a cap l w3 HI3.out (by have := (fewOp_of HF.out).2; omega) (fewOp_of HF.out).1 GOs.out)
        have GN := Lib.hid (foldN_rng GOs.out)
        have HT := Lib.hid (tree_fold l)
        have htl : (foldN l).length ≤ 60 := by have := foldN_len l; have := (fewOp_of HF.out).2; omega
        have HSo := Lib.hid hso
        clear hk hso
        generalize foldN l = t at HFold HT htl GN
        go_wp2_with fail
        refine HFold.out.mono ?_
        rintro e w4 ⟨a2, d2, rfl, h2, c4⟩
        have b4 := step_b b3 c4
        have HR4 := Lib.hid h2
        have HO4 := Lib.hid (HO3.out.below c4)
        clear c4 b3 HI3 HO3 h2 HFold m0 m1 m2 m3 m4 m5 m6
        obtain ⟨m0, m1, m2, m3, m4, m5, m6⟩ := atOp_of HO4.out.atC
        rw [Nat.zero_add] at m1 m2 m3 m4 m5 m6
        have HDo := Lib.hid (tdo_any a2 d2 t o w4 HR4.out (by omega) HSo.out.1 HSo.out.2 GN.out GO.out)
        have GR := Lib.hid (doN_rng GN.out GO.out).1
        have HUp := Lib.hid (fun h => up_do HT.out (o := o) HK.out h)
        have ht2 : (doN t o).1.length ≤ 61 := by have := doN_len t o; omega
        generalize doN t o = r at HDo HUp ht2 GR
        obtain ⟨t2, u⟩ := r
        go_wp2_with fail
        refine HDo.out.mono ?_
        rintro e w5 ⟨a3, d3, rfl, h3, c5⟩
        have b5 := step_b b4 c5
        have HR5 := Lib.hid ((HR4.out.below c5).below (below_alloc w5 (.cells (cellsU u).toArray 30)))
        have HT5 := Lib.hid (IsR.below h3 (below_alloc w5 (.cells (cellsU u).toArray 30)))
        have HO5 := Lib.hid ((HO4.out.below c5).below (below_alloc w5 (.cells (cellsU u).toArray 30)))
        have b6 := b5.alloc b5.size (.cells (cellsU u).toArray 30)
        clear c5 b4 HR4 HO4 h3 HDo m0 m1 m2 m3 m4 m5 m6
        obtain ⟨did, had, was⟩ := u
        cases did with
        | false =>
          go_wp2_with fail
          go_ret
          exact ⟨rfl, b6⟩
        | true =>
          have hup := HUp.out rfl
          have H1 := Lib.hid hup.1
          have H2 := Lib.hid hup.2
          obtain ⟨A, hA⟩ : ∃ A, aboveN t o.p = A := ⟨_, rfl⟩
          rw [hA] at H1 H2
          have HA := Lib.hid hA
          have hAl : A.length ≤ 60 := by rw [← hA]; exact Nat.le_trans (aboveN_len _ _) htl
          clear hup hA HUp
          go_wp2_with fail
          obtain ⟨w6, hw6⟩ : ∃ w6, w5.alloc (.cells (cellsU ⟨true, had, was⟩).toArray 30) = w6 := ⟨_, rfl⟩
          rw [hw6] at HR5 HT5 HO5 b6
          change Code.wp _ _ _ _ (w5.alloc (.cells (cellsU ⟨true, had, was⟩).toArray 30))
          rw [hw6]
          clear hw6 b5
          refine wp_region_l (by kernel_rfl) (by kernel_rfl) ?_
          refine wpL_pure (fun K hK => ?_); go_simp; (try go_ints); refine hK _ ?_; clear hK K
          refine wpL_pure (fun K hK => ?_); go_simp; (try go_ints); refine hK _ ?_; clear hK K
          refine wpL_pure (fun K hK => ?_); go_simp; (try go_ints); refine hK _ ?_; clear hK K
          refine wpL_pure (fun K hK => ?_); go_simp; (try go_ints); refine hK _ ?_; clear hK K
          refine wpL_use (.int .i64 o.n) (fun xs n hf => ?_) (fun K hK => ?_)
          · obtain ⟨k0, k1, k2, k3, k4, k5, k6⟩ := atOp_of (HO5.out.below n.below).atC
            rw [Nat.zero_add] at k1 k2 k3 k4 k5 k6
            go_simp
          go_simp; (try go_ints); refine hK _ ?_; clear hK K
          refine wpL_make (OwnInt 0 (o.p :: A)) (fun v w w' h hk => h.stay v w w' hk) (fun xs n _ => ?_) (fun K hK => ?_)
          · unfold relOp; go_simp; simp only [relUpon]
            exact above_own H1.out n.w (HT5.out.below n.below) (by omega) GR.out GO.out.2.2.2.1
          go_simp; (try go_ints); refine hK _ ?_; clear hK K
          refine wpL_pure (fun K hK => ?_); go_simp; (try go_ints); refine hK _ ?_; clear hK K
          refine wpL_use (.int .i64 o.p) (fun xs n hf => ?_) (fun K hK => ?_)
          · obtain ⟨k0, k1, k2, k3, k4, k5, k6⟩ := atOp_of (HO5.out.below n.below).atC
            rw [Nat.zero_add] at k1 k2 k3 k4 k5 k6
            go_simp
          go_simp; (try go_ints); refine hK _ ?_; clear hK K
          refine wpL_make (OwnInt 0 [o.p]) (fun v w w' h hk => h.stay v w w' hk) (fun xs n _ => ?_) (fun K hK => ?_)
          · unfold relOp; go_simp; simp only [relUpon]
            exact ⟨ownR_made ci_len _ n.w _ (Nat.zero_le _) [o.p] (by simp) _ rfl, below_alloc _ _, new_own _ _ _ _⟩
          go_simp; (try go_ints); refine hK _ ?_; clear hK K
          refine wpL_pure (fun K hK => ?_); go_simp; (try go_ints); refine hK _ ?_; clear hK K
          refine wpL_pure (fun K hK => ?_); go_simp; (try go_ints); refine hK _ ?_; clear hK K
          refine wpL_use (.int .i64 o.p) (fun xs n hf => ?_) (fun K hK => ?_)
          · obtain ⟨k0, k1, k2, k3, k4, k5, k6⟩ := atOp_of (HO5.out.below n.below).atC
            rw [Nat.zero_add] at k1 k2 k3 k4 k5 k6
            go_simp
          go_simp; (try go_ints); refine hK _ ?_; clear hK K
          refine wpL_make (OwnInt 0 (A)) (fun v w w' h hk => h.stay v w w' hk) (fun xs n _ => ?_) (fun K hK => ?_)
          · unfold relOp; go_simp; simp only [relUpon]
            exact above_own HA.out n.w (HR5.out.below n.below) (by omega) GN.out GO.out.2.2.2.2
          go_simp; (try go_ints); refine hK _ ?_; clear hK K
          refine wpL_take 1 (OwnInt 0 (o.p :: A)) (fun v w w' h hk => h.stay v w w' hk) rfl (by kernel_rfl) (by kernel_rfl) (fun xs n hf => ?_) (fun K hK => ?_)
          · rw [if_pos (by rfl)]
            have h0 := factL hf 1 rfl (by kernel_rfl)
            obtain ⟨a7, c7, e7, hi7⟩ := (factL hf 0 rfl (by kernel_rfl)).isR ci_len
            obtain ⟨v', w', hrun, q1, q2, q3⟩ := run_append_rec (m := A) cellI n.w 41 41 3 ii _ 8 Try.underlying41 hii hz hsz hby rfl h0 _ (src_rec ci_len ci_one Try.underlying41 hi7) (by unfold maxLen; (try simp) <;> (try omega)) (by (try simp) <;> (try omega)) (Nat.zero_le _)
            exact relOp_append _ _ _ _ rfl rfl e7 hrun ⟨q1, q2, q3⟩
          go_simp; (try go_ints); refine hK _ ?_; clear hK K
          refine wpL_use (.bool true) (fun xs n hf => ?_) (fun K hK => ?_)
          · have h6 := nums_is (factL hf 2 rfl (by kernel_rfl)) (factL hf 0 rfl (by kernel_rfl)) rfl (by simp; omega)
            go_simp
          go_simp; (try go_ints); refine hK _ ?_; clear hK K
          refine wpL_pure (fun K hK => ?_); go_simp; (try go_ints); refine hK _ ?_; clear hK K
          refine wpL_pure (fun K hK => ?_); go_simp; (try go_ints); refine hK _ ?_; clear hK K
          refine wpL_pure (fun K hK => ?_); go_simp; (try go_ints); refine hK _ ?_; clear hK K
          refine wpL_pure (fun K hK => ?_); go_simp; (try go_ints); refine hK _ ?_; clear hK K
          refine wpL_use (.int .i64 o.p) (fun xs n hf => ?_) (fun K hK => ?_)
          · obtain ⟨k0, k1, k2, k3, k4, k5, k6⟩ := atOp_of (HO5.out.below n.below).atC
            rw [Nat.zero_add] at k1 k2 k3 k4 k5 k6
            go_simp
          go_simp; (try go_ints); refine hK _ ?_; clear hK K
          refine wpL_make (OwnInt 0 (A)) (fun v w w' h hk => h.stay v w w' hk) (fun xs n _ => ?_) (fun K hK => ?_)
          · unfold relOp; go_simp; simp only [relUpon]
            exact above_own H2.out n.w (HT5.out.below n.below) (by omega) GR.out GO.out.2.2.2.2
          go_simp; (try go_ints); refine hK _ ?_; clear hK K
          refine wpL_pure (fun K hK => ?_); go_simp; (try go_ints); refine hK _ ?_; clear hK K
          refine wpL_pure (fun K hK => ?_); go_simp; (try go_ints); refine hK _ ?_; clear hK K
          refine wpL_use (.int .i64 o.p) (fun xs n hf => ?_) (fun K hK => ?_)
          · obtain ⟨k0, k1, k2, k3, k4, k5, k6⟩ := atOp_of (HO5.out.below n.below).atC
            rw [Nat.zero_add] at k1 k2 k3 k4 k5 k6
            go_simp
          go_simp; (try go_ints); refine hK _ ?_; clear hK K
          refine wpL_make (OwnInt 0 (A)) (fun v w w' h hk => h.stay v w w' hk) (fun xs n _ => ?_) (fun K hK => ?_)
          · unfold relOp; go_simp; simp only [relUpon]
            exact above_own HA.out n.w (HR5.out.below n.below) (by omega) GN.out GO.out.2.2.2.2
          go_simp; (try go_ints); refine hK _ ?_; clear hK K
          refine wpL_use (.bool true) (fun xs n hf => ?_) (fun K hK => ?_)
          · have h6 := nums_is (factL hf 1 rfl (by kernel_rfl)) (factL hf 0 rfl (by kernel_rfl)) rfl (by omega)
            go_simp
          go_simp; (try go_ints); refine hK _ ?_; clear hK K
          refine wpL_pure (fun K hK => ?_); go_simp; (try go_ints); refine hK _ ?_; clear hK K
          refine wpL_pure (fun K hK => ?_); go_simp; (try go_ints); refine hK _ ?_; clear hK K
          refine wpL_nil (fun xs n _ => ?_)
          have b7 := step_b b6 n.below
          go_wp2_with fail
          go_ret
          exact ⟨rfl, b7⟩
      · have hkb : (o.k != 1) = true := by simp [hk]
        go_wp2_with fail
        go_ret
        exact ⟨rfl, b3⟩
end Go.Proofs.Ytefbkhgnhcllbaa
