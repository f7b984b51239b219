/-
  TreeTells: whether nodes may be, any one of them, what is above any number, an operation done, and taken back, and the nodes that operations make, are what the document says.
-/
import Derived.Test.YtefbkhgnhcllbaaTUp
namespace Go.Proofs.Ytefbkhgnhcllbaa
open Go.RowKit Go.Lib
set_option maxRecDepth 100000 in
theorem nfew_own {l : List Nod} {n : Int} {b : Bool} {v : Value} {W : World} {B : Nat} (hb : fewN l n = b) (h : OwnNd B l v W) (hl : l.length ≤ maxLen) :
    Calls Try.prog 11 #[v, .int .i64 n] W fun e w' => e = .returned (.bool b) ∧ Below W.heap.size W w' := by
  obtain ⟨a, c, rfl, hi⟩ := h.isR nd_len
  exact (nfew_is hb W hi hl).mono fun e w' ⟨h1, h2⟩ => ⟨h1, by rw [h2]; exact Below.refl _ _⟩
set_option maxRecDepth 100000 in
theorem ofew_own {l : List Opn} {n : Int} {b : Bool} {v : Value} {W : World} {B : Nat} (hb : fewOp l n = b) (h : OwnOp B l v W) (hl : l.length ≤ maxLen) :
    Calls Try.prog 12 #[v, .int .i64 n] W fun e w' => e = .returned (.bool b) ∧ Below W.heap.size W w' := by
  obtain ⟨a, c, rfl, hi⟩ := h.isR op_len
  exact (ofew_is hb W hi hl).mono fun e w' ⟨h1, h2⟩ => ⟨h1, by rw [h2]; exact Below.refl _ _⟩
set_option maxRecDepth 100000 in
theorem rfind_is {a : Option Addr} {c : Nat} {l : List Nod} {i : Int} {r : Option Nod} (w : World) (h : IsNd w a c l) (hl : l.length ≤ 1000) (hg : findN l i = r) :
    Calls Try.prog 16 #[.slice a l.length c, .int .i64 i] w fun e w' => e = .returned (.tuple #[NV (r.getD noNod), .bool r.isSome]) ∧ Below w.heap.size w w' := by
  have hlm : l.length ≤ maxLen := by unfold maxLen; omega
  cases r with
  | none => exact rfind_none w h hlm hg
  | some x => exact rfind_some w h hlm hg
def NdF (r : List Nod) (v : Value) (w : World) : Prop := ∃ a c, v = .slice a r.length c ∧ IsNd w a c r
set_option maxRecDepth 100000 in
theorem NdF.stable (r : List Nod) (v : Value) (w w' : World) (h : NdF r v w) (hb : Below w.heap.size w w') : NdF r v w' := by
  obtain ⟨a, c, e, h⟩ := h
  exact ⟨a, c, e, h.below hb⟩
set_option maxRecDepth 100000 in
theorem nods_f {r : List Nod} {w w' : World} {e : Ending} (h : NodsPost r w e w') : ∃ v, e = .returned v ∧ NdF r v w' ∧ Below w.heap.size w w' := by
  obtain ⟨a, c, rfl, h, hb⟩ := h
  exact ⟨_, rfl, ⟨a, c, rfl, h⟩, hb⟩
set_option maxRecDepth 100000 in
theorem nsame_f {l m : List Nod} {v y : Value} {W : World} (h1 : NdF l v W) (h2 : NdF m y W) (e : l = m) (hl : l.length ≤ 1000000) :
    Calls Try.prog 22 #[v, y] W fun e w' => e = .returned (.bool true) ∧ Below W.heap.size W w' := by
  obtain ⟨a, c, rfl, ha⟩ := h1
  obtain ⟨b, d, rfl, hb⟩ := h2
  exact nsame_is e W ha hb hl
set_option maxRecDepth 100000 in
theorem backN_len (l : List Nod) (o : Opn) (u : Und) : (backN l o u).length ≤ l.length + 1 := by
  unfold backN
  repeat' split
  all_goals first
    | exact Nat.le_succ _
    | exact withN_len _ _
    | exact Nat.le_succ_of_le (without_len _ _)
set_option maxRecDepth 100000 in
set_option maxHeartbeats 16000000 in
theorem ttells_walk (a : Option Addr) (cap : Nat) (l : List Nod) (o : Opn) (u : Und) (b : Option Addr) (cb : Nat) (m : List Opn) (id : Int) (w : World) (hl : IsNd w a cap l ∧ l.length ≤ maxLen ∧ (∀ x ∈ l, InN x)) (_ho : InO o) (_hu : InN u.was)
    (hm : IsOp w b cb m ∧ m.length ≤ maxLen ∧ (∀ x ∈ m, InO x)) (_hid : (Lit.int .i64 id).wf = true) (hzl : l.length * 80 ≤ 140737488351232) (hzm : m.length * 72 ≤ 140737488351232) :
    Calls Try.prog 3 #[.slice a l.length cap, OV o, UV u, .slice b m.length cb, .int .i64 id] w fun e w' => e = .returned (.bool true) ∧ Below w.heap.size w w' := by
  obtain ⟨hi, _, hin⟩ := hl
  obtain ⟨hj, _, hjn⟩ := hm
  have GN := Lib.hid (show RgNs l from fun x hx => (hin x hx).1)
  have GM := Lib.hid (show RgOs m from fun x hx => (hjn x hx).1)
  have GO := Lib.hid (show RgO o from _ho.1)
  have GU := Lib.hid (show RgN u.was from _hu.1)
  have GI := Lib.hid (show I64 id from i64_wf _hid)
  clear hin hjn
  obtain ⟨iN, hiN, hzN, hszN, hbyN⟩ := info_parts infoN
  obtain ⟨iO, hiO, hzO, hszO, hbyO⟩ := info_parts infoOp
  have bo := ((Below.refl w.heap.size w).alloc (Nat.le_refl _) (.cells (cellsOp o).toArray 26)).alloc (by simp) (.cells (cellsU u).toArray 30)
  have HI := Lib.hid (hi.below bo)
  have HM := Lib.hid (hj.below bo)
  have HO := Lib.hid ((cells_new w (cellsOp o) 26).below (below_alloc _ (.cells (cellsU u).toArray 30)))
  have HU := Lib.hid (cells_at (w.alloc (.cells (cellsOp o).toArray 26)) (w.heap.size + 1) (by simp) (cellsU u) 30)
  clear hi hj _ho _hu _hid
  obtain ⟨fb, hfb⟩ : ∃ x, fewN (l ++ [u.was]) 101 = x := ⟨_, rfl⟩
  obtain ⟨gb, hgb⟩ : ∃ x, fewOp (m ++ [o]) 101 = x := ⟨_, rfl⟩
  have HF := Lib.hid hfb
  have HG := Lib.hid hgb
  clear hfb hgb
  go_enter Try.func3, Try.ntmps3
  go_wp2_with fail
  refine (awake_any _).mono ?_
  rintro e w1 ⟨rfl, c1⟩
  have b1 := bo.trans (c1.mono bo.size)
  have HI1 := Lib.hid (HI.out.below c1)
  have HM1 := Lib.hid (HM.out.below c1)
  have HO1 := Lib.hid (HO.out.below c1)
  have HU1 := Lib.hid (HU.out.below c1)
  clear c1 HI HM HO HU bo
  go_wp2_with fail
  cases fb with
  | false =>
    refine wp_region_l (by kernel_rfl) (by kernel_rfl) ?_
    refine wpL_make (OwnNd w1.heap.size []) (fun v w w' h hk => h.stay v w w' hk) (fun xs n _ => ?_) (fun K hK => ?_)
    · unfold relOp; go_simp; simp only [relUpon]
      exact ⟨ownR_empty cellsNd 8 _ _ _ n.below.size, below_alloc _ _, new_own _ _ _ _⟩
    go_simp; (try go_ints); refine hK _ ?_; clear hK K
    refine wpL_pure (fun K hK => ?_); go_simp; (try go_ints); refine hK _ ?_; clear hK K
    refine wpL_take 0 (OwnNd w1.heap.size (l)) (fun v w w' h hk => h.stay v w w' hk) rfl (by kernel_rfl) (by kernel_rfl) (fun xs n hf => ?_) (fun K hK => ?_)
    · rw [if_pos (by rfl)]
      have h0 := factL hf 0 rfl (by kernel_rfl)
      have hsrc := src_rec nd_len nd_one Try.underlying22 (HI1.out.below n.below)
      obtain ⟨v', w', hrun, q1, q2, q3⟩ := run_append_rec (m := l) cellsNd n.w 22 22 28 iN _ 80 Try.underlying22 hiN hzN hszN hbyN rfl h0 _ hsrc (by unfold maxLen; (try simp) <;> (try omega)) (by (try simp) <;> (try omega)) n.below.size
      exact relOp_append _ _ _ _ rfl rfl rfl hrun ⟨q1, q2, q3⟩
    go_simp; (try go_ints); refine hK _ ?_; clear hK K
    refine wpL_pure (fun K hK => ?_); go_simp; (try go_ints); refine hK _ ?_; clear hK K
    refine wpL_use (NV u.was) (fun xs n hf => ?_) (fun K hK => ?_)
    · obtain ⟨k0, k1, k2, k3, k4, k5, k6, k7, k8, k9⟩ := cellU_cells (HU1.out.below n.below)
      go_simp
    go_simp; (try go_ints); refine hK _ ?_; clear hK K
    refine wpL_make (OwnNd w1.heap.size [u.was]) (fun v w w' h hk => h.stay v w w' hk) (fun xs n _ => ?_) (fun K hK => ?_)
    · unfold relOp; go_simp; simp only [relUpon]
      exact ⟨ownR_made nd_len _ n.w _ n.below.size [u.was] (by simp) _ rfl, below_alloc _ _, new_own _ _ _ _⟩
    go_simp; (try go_ints); refine hK _ ?_; clear hK K
    refine wpL_take 1 (OwnNd w1.heap.size (l ++ [u.was])) (fun v w w' h hk => h.stay v w w' hk) rfl (by kernel_rfl) (by kernel_rfl) (fun xs n hf => ?_) (fun K hK => ?_)
    · rw [if_pos (by rfl)]
      have h0 := factL hf 1 rfl (by kernel_rfl)
      obtain ⟨a5, c5, e5, hi5⟩ := (factL hf 0 rfl (by kernel_rfl)).isR nd_len
      have hsrc := src_rec nd_len nd_one Try.underlying22 hi5
      obtain ⟨v', w', hrun, q1, q2, q3⟩ := run_append_rec (m := [u.was]) cellsNd n.w 22 22 28 iN _ 80 Try.underlying22 hiN hzN hszN hbyN rfl h0 _ hsrc (by unfold maxLen; (try simp) <;> (try omega)) (by (try simp) <;> (try omega)) n.below.size
      exact relOp_append _ _ _ _ rfl rfl e5 hrun ⟨q1, q2, q3⟩
    go_simp; (try go_ints); refine hK _ ?_; clear hK K
    refine wpL_use (.bool false) (fun xs n hf => ?_) (fun K hK => ?_)
    · have h6 := nfew_own HF.out (factL hf 0 rfl (by kernel_rfl)) (by unfold maxLen; simp; omega)
      go_simp
    go_simp; (try go_ints); refine hK _ ?_; clear hK K
    refine wpL_pure (fun K hK => ?_); go_simp; (try go_ints); refine hK _ ?_; clear hK K
    refine wpL_pure (fun K hK => ?_); go_simp; (try go_ints); refine hK _ ?_; clear hK K
    refine wpL_pure (fun K hK => ?_); go_simp; (try go_ints); refine hK _ ?_; clear hK K
    refine wpL_pure (fun K hK => ?_); go_simp; (try go_ints); refine hK _ ?_; clear hK K
    refine wpL_pure (fun K hK => ?_); go_simp; (try go_ints); refine hK _ ?_; clear hK K
    refine wpL_pure (fun K hK => ?_); go_simp; (try go_ints); refine hK _ ?_; clear hK K
    refine wpL_pure (fun K hK => ?_); go_simp; (try go_ints); refine hK _ ?_; clear hK K
    refine wpL_pure (fun K hK => ?_); go_simp; (try go_ints); refine hK _ ?_; clear hK K
    refine wpL_pure (fun K hK => ?_); go_simp; (try go_ints); refine hK _ ?_; clear hK K
    refine wpL_pure (fun K hK => ?_); go_simp; (try go_ints); refine hK _ ?_; clear hK K
    refine wpL_pure (fun K hK => ?_); go_simp; (try go_ints); refine hK _ ?_; clear hK K
    refine wpL_nil (fun xs n _ => ?_)
    have b2 := step_b b1 n.below
    have HI2 := Lib.hid (HI1.out.below n.below)
    have HM2 := Lib.hid (HM1.out.below n.below)
    have HO2 := Lib.hid (HO1.out.below n.below)
    have HU2 := Lib.hid (HU1.out.below n.below)
    clear HI1 HM1 HO1 HU1 b1
    generalize n.w = w2 at b2 HI2 HM2 HO2 HU2 ⊢
    go_wp2_with fail
    go_ret
    exact ⟨rfl, b2⟩
  | true =>
    cases gb with
    | false =>
      refine wp_region_l (by kernel_rfl) (by kernel_rfl) ?_
      refine wpL_make (OwnNd w1.heap.size []) (fun v w w' h hk => h.stay v w w' hk) (fun xs n _ => ?_) (fun K hK => ?_)
      · unfold relOp; go_simp; simp only [relUpon]
        exact ⟨ownR_empty cellsNd 8 _ _ _ n.below.size, below_alloc _ _, new_own _ _ _ _⟩
      go_simp; (try go_ints); refine hK _ ?_; clear hK K
      refine wpL_pure (fun K hK => ?_); go_simp; (try go_ints); refine hK _ ?_; clear hK K
      refine wpL_take 0 (OwnNd w1.heap.size (l)) (fun v w w' h hk => h.stay v w w' hk) rfl (by kernel_rfl) (by kernel_rfl) (fun xs n hf => ?_) (fun K hK => ?_)
      · rw [if_pos (by rfl)]
        have h0 := factL hf 0 rfl (by kernel_rfl)
        have hsrc := src_rec nd_len nd_one Try.underlying22 (HI1.out.below n.below)
        obtain ⟨v', w', hrun, q1, q2, q3⟩ := run_append_rec (m := l) cellsNd n.w 22 22 28 iN _ 80 Try.underlying22 hiN hzN hszN hbyN rfl h0 _ hsrc (by unfold maxLen; (try simp) <;> (try omega)) (by (try simp) <;> (try omega)) n.below.size
        exact relOp_append _ _ _ _ rfl rfl rfl hrun ⟨q1, q2, q3⟩
      go_simp; (try go_ints); refine hK _ ?_; clear hK K
      refine wpL_pure (fun K hK => ?_); go_simp; (try go_ints); refine hK _ ?_; clear hK K
      refine wpL_use (NV u.was) (fun xs n hf => ?_) (fun K hK => ?_)
      · obtain ⟨k0, k1, k2, k3, k4, k5, k6, k7, k8, k9⟩ := cellU_cells (HU1.out.below n.below)
        go_simp
      go_simp; (try go_ints); refine hK _ ?_; clear hK K
      refine wpL_make (OwnNd w1.heap.size [u.was]) (fun v w w' h hk => h.stay v w w' hk) (fun xs n _ => ?_) (fun K hK => ?_)
      · unfold relOp; go_simp; simp only [relUpon]
        exact ⟨ownR_made nd_len _ n.w _ n.below.size [u.was] (by simp) _ rfl, below_alloc _ _, new_own _ _ _ _⟩
      go_simp; (try go_ints); refine hK _ ?_; clear hK K
      refine wpL_take 1 (OwnNd w1.heap.size (l ++ [u.was])) (fun v w w' h hk => h.stay v w w' hk) rfl (by kernel_rfl) (by kernel_rfl) (fun xs n hf => ?_) (fun K hK => ?_)
      · rw [if_pos (by rfl)]
        have h0 := factL hf 1 rfl (by kernel_rfl)
        obtain ⟨a5, c5, e5, hi5⟩ := (factL hf 0 rfl (by kernel_rfl)).isR nd_len
        have hsrc := src_rec nd_len nd_one Try.underlying22 hi5
        obtain ⟨v', w', hrun, q1, q2, q3⟩ := run_append_rec (m := [u.was]) cellsNd n.w 22 22 28 iN _ 80 Try.underlying22 hiN hzN hszN hbyN rfl h0 _ hsrc (by unfold maxLen; (try simp) <;> (try omega)) (by (try simp) <;> (try omega)) n.below.size
        exact relOp_append _ _ _ _ rfl rfl e5 hrun ⟨q1, q2, q3⟩
      go_simp; (try go_ints); refine hK _ ?_; clear hK K
      refine wpL_use (.bool true) (fun xs n hf => ?_) (fun K hK => ?_)
      · have h6 := nfew_own HF.out (factL hf 0 rfl (by kernel_rfl)) (by unfold maxLen; simp; omega)
        go_simp
      go_simp; (try go_ints); refine hK _ ?_; clear hK K
      refine wpL_pure (fun K hK => ?_); go_simp; (try go_ints); refine hK _ ?_; clear hK K
      refine wpL_pure (fun K hK => ?_); go_simp; (try go_ints); refine hK _ ?_; clear hK K
      refine wpL_make (OwnOp w1.heap.size []) (fun v w w' h hk => h.stay v w w' hk) (fun xs n _ => ?_) (fun K hK => ?_)
      · unfold relOp; go_simp; simp only [relUpon]
        exact ⟨ownR_empty cellsOp 7 _ _ _ n.below.size, below_alloc _ _, new_own _ _ _ _⟩
      go_simp; (try go_ints); refine hK _ ?_; clear hK K
      refine wpL_pure (fun K hK => ?_); go_simp; (try go_ints); refine hK _ ?_; clear hK K
      refine wpL_take 0 (OwnOp w1.heap.size (m)) (fun v w w' h hk => h.stay v w w' hk) rfl (by kernel_rfl) (by kernel_rfl) (fun xs n hf => ?_) (fun K hK => ?_)
      · rw [if_pos (by rfl)]
        have h0 := factL hf 0 rfl (by kernel_rfl)
        have hsrc := src_rec op_len op_one Try.underlying31 (HM1.out.below n.below)
        obtain ⟨v', w', hrun, q1, q2, q3⟩ := run_append_rec (m := m) cellsOp n.w 31 31 26 iO _ 72 Try.underlying31 hiO hzO hszO hbyO rfl h0 _ hsrc (by unfold maxLen; (try simp) <;> (try omega)) (by (try simp) <;> (try omega)) n.below.size
        exact relOp_append _ _ _ _ rfl rfl rfl hrun ⟨q1, q2, q3⟩
      go_simp; (try go_ints); refine hK _ ?_; clear hK K
      refine wpL_use (OV o) (fun xs n hf => ?_) (fun K hK => ?_)
      · obtain ⟨k0, k1, k2, k3, k4, k5, k6⟩ := atOp_of (HO1.out.below n.below).atC
        rw [Nat.zero_add] at k1 k2 k3 k4 k5 k6
        go_simp
      go_simp; (try go_ints); refine hK _ ?_; clear hK K
      refine wpL_make (OwnOp w1.heap.size [o]) (fun v w w' h hk => h.stay v w w' hk) (fun xs n _ => ?_) (fun K hK => ?_)
      · unfold relOp; go_simp; simp only [relUpon]
        exact ⟨ownR_made op_len _ n.w _ n.below.size [o] (by simp) _ rfl, below_alloc _ _, new_own _ _ _ _⟩
      go_simp; (try go_ints); refine hK _ ?_; clear hK K
      refine wpL_take 1 (OwnOp w1.heap.size (m ++ [o])) (fun v w w' h hk => h.stay v w w' hk) rfl (by kernel_rfl) (by kernel_rfl) (fun xs n hf => ?_) (fun K hK => ?_)
      · rw [if_pos (by rfl)]
        have h0 := factL hf 1 rfl (by kernel_rfl)
        obtain ⟨a5, c5, e5, hi5⟩ := (factL hf 0 rfl (by kernel_rfl)).isR op_len
        have hsrc := src_rec op_len op_one Try.underlying31 hi5
        obtain ⟨v', w', hrun, q1, q2, q3⟩ := run_append_rec (m := [o]) cellsOp n.w 31 31 26 iO _ 72 Try.underlying31 hiO hzO hszO hbyO rfl h0 _ hsrc (by unfold maxLen; (try simp) <;> (try omega)) (by (try simp) <;> (try omega)) n.below.size
        exact relOp_append _ _ _ _ rfl rfl e5 hrun ⟨q1, q2, q3⟩
      go_simp; (try go_ints); refine hK _ ?_; clear hK K
      refine wpL_use (.bool false) (fun xs n hf => ?_) (fun K hK => ?_)
      · have h6 := ofew_own HG.out (factL hf 0 rfl (by kernel_rfl)) (by unfold maxLen; simp; omega)
        go_simp
      go_simp; (try go_ints); refine hK _ ?_; clear hK K
      refine wpL_pure (fun K hK => ?_); go_simp; (try go_ints); refine hK _ ?_; clear hK K
      refine wpL_pure (fun K hK => ?_); go_simp; (try go_ints); refine hK _ ?_; clear hK K
      refine wpL_nil (fun xs n _ => ?_)
      have b2 := step_b b1 n.below
      have HI2 := Lib.hid (HI1.out.below n.below)
      have HM2 := Lib.hid (HM1.out.below n.below)
      have HO2 := Lib.hid (HO1.out.below n.below)
      have HU2 := Lib.hid (HU1.out.below n.below)
      clear HI1 HM1 HO1 HU1 b1
      generalize n.w = w2 at b2 HI2 HM2 HO2 HU2 ⊢
      go_wp2_with fail
      go_ret
      exact ⟨rfl, b2⟩
    | true =>
      refine wp_region_l (by kernel_rfl) (by kernel_rfl) ?_
      refine wpL_make (OwnNd w1.heap.size []) (fun v w w' h hk => h.stay v w w' hk) (fun xs n _ => ?_) (fun K hK => ?_)
      · unfold relOp; go_simp; simp only [relUpon]
        exact ⟨ownR_empty cellsNd 8 _ _ _ n.below.size, below_alloc _ _, new_own _ _ _ _⟩
      go_simp; (try go_ints); refine hK _ ?_; clear hK K
      refine wpL_pure (fun K hK => ?_); go_simp; (try go_ints); refine hK _ ?_; clear hK K
      refine wpL_take 0 (OwnNd w1.heap.size (l)) (fun v w w' h hk => h.stay v w w' hk) rfl (by kernel_rfl) (by kernel_rfl) (fun xs n hf => ?_) (fun K hK => ?_)
      · rw [if_pos (by rfl)]
        have h0 := factL hf 0 rfl (by kernel_rfl)
        have hsrc := src_rec nd_len nd_one Try.underlying22 (HI1.out.below n.below)
        obtain ⟨v', w', hrun, q1, q2, q3⟩ := run_append_rec (m := l) cellsNd n.w 22 22 28 iN _ 80 Try.underlying22 hiN hzN hszN hbyN rfl h0 _ hsrc (by unfold maxLen; (try simp) <;> (try omega)) (by (try simp) <;> (try omega)) n.below.size
        exact relOp_append _ _ _ _ rfl rfl rfl hrun ⟨q1, q2, q3⟩
      go_simp; (try go_ints); refine hK _ ?_; clear hK K
      refine wpL_pure (fun K hK => ?_); go_simp; (try go_ints); refine hK _ ?_; clear hK K
      refine wpL_use (NV u.was) (fun xs n hf => ?_) (fun K hK => ?_)
      · obtain ⟨k0, k1, k2, k3, k4, k5, k6, k7, k8, k9⟩ := cellU_cells (HU1.out.below n.below)
        go_simp
      go_simp; (try go_ints); refine hK _ ?_; clear hK K
      refine wpL_make (OwnNd w1.heap.size [u.was]) (fun v w w' h hk => h.stay v w w' hk) (fun xs n _ => ?_) (fun K hK => ?_)
      · unfold relOp; go_simp; simp only [relUpon]
        exact ⟨ownR_made nd_len _ n.w _ n.below.size [u.was] (by simp) _ rfl, below_alloc _ _, new_own _ _ _ _⟩
      go_simp; (try go_ints); refine hK _ ?_; clear hK K
      refine wpL_take 1 (OwnNd w1.heap.size (l ++ [u.was])) (fun v w w' h hk => h.stay v w w' hk) rfl (by kernel_rfl) (by kernel_rfl) (fun xs n hf => ?_) (fun K hK => ?_)
      · rw [if_pos (by rfl)]
        have h0 := factL hf 1 rfl (by kernel_rfl)
        obtain ⟨a5, c5, e5, hi5⟩ := (factL hf 0 rfl (by kernel_rfl)).isR nd_len
        have hsrc := src_rec nd_len nd_one Try.underlying22 hi5
        obtain ⟨v', w', hrun, q1, q2, q3⟩ := run_append_rec (m := [u.was]) cellsNd n.w 22 22 28 iN _ 80 Try.underlying22 hiN hzN hszN hbyN rfl h0 _ hsrc (by unfold maxLen; (try simp) <;> (try omega)) (by (try simp) <;> (try omega)) n.below.size
        exact relOp_append _ _ _ _ rfl rfl e5 hrun ⟨q1, q2, q3⟩
      go_simp; (try go_ints); refine hK _ ?_; clear hK K
      refine wpL_use (.bool true) (fun xs n hf => ?_) (fun K hK => ?_)
      · have h6 := nfew_own HF.out (factL hf 0 rfl (by kernel_rfl)) (by unfold maxLen; simp; omega)
        go_simp
      go_simp; (try go_ints); refine hK _ ?_; clear hK K
      refine wpL_pure (fun K hK => ?_); go_simp; (try go_ints); refine hK _ ?_; clear hK K
      refine wpL_pure (fun K hK => ?_); go_simp; (try go_ints); refine hK _ ?_; clear hK K
      refine wpL_make (OwnOp w1.heap.size []) (fun v w w' h hk => h.stay v w w' hk) (fun xs n _ => ?_) (fun K hK => ?_)
      · unfold relOp; go_simp; simp only [relUpon]
        exact ⟨ownR_empty cellsOp 7 _ _ _ n.below.size, below_alloc _ _, new_own _ _ _ _⟩
      go_simp; (try go_ints); refine hK _ ?_; clear hK K
      refine wpL_pure (fun K hK => ?_); go_simp; (try go_ints); refine hK _ ?_; clear hK K
      refine wpL_take 0 (OwnOp w1.heap.size (m)) (fun v w w' h hk => h.stay v w w' hk) rfl (by kernel_rfl) (by kernel_rfl) (fun xs n hf => ?_) (fun K hK => ?_)
      · rw [if_pos (by rfl)]
        have h0 := factL hf 0 rfl (by kernel_rfl)
        have hsrc := src_rec op_len op_one Try.underlying31 (HM1.out.below n.below)
        obtain ⟨v', w', hrun, q1, q2, q3⟩ := run_append_rec (m := m) cellsOp n.w 31 31 26 iO _ 72 Try.underlying31 hiO hzO hszO hbyO rfl h0 _ hsrc (by unfold maxLen; (try simp) <;> (try omega)) (by (try simp) <;> (try omega)) n.below.size
        exact relOp_append _ _ _ _ rfl rfl rfl hrun ⟨q1, q2, q3⟩
      go_simp; (try go_ints); refine hK _ ?_; clear hK K
      refine wpL_use (OV o) (fun xs n hf => ?_) (fun K hK => ?_)
      · obtain ⟨k0, k1, k2, k3, k4, k5, k6⟩ := atOp_of (HO1.out.below n.below).atC
        rw [Nat.zero_add] at k1 k2 k3 k4 k5 k6
        go_simp
      go_simp; (try go_ints); refine hK _ ?_; clear hK K
      refine wpL_make (OwnOp w1.heap.size [o]) (fun v w w' h hk => h.stay v w w' hk) (fun xs n _ => ?_) (fun K hK => ?_)
      · unfold relOp; go_simp; simp only [relUpon]
        exact ⟨ownR_made op_len _ n.w _ n.below.size [o] (by simp) _ rfl, below_alloc _ _, new_own _ _ _ _⟩
      go_simp; (try go_ints); refine hK _ ?_; clear hK K
      refine wpL_take 1 (OwnOp w1.heap.size (m ++ [o])) (fun v w w' h hk => h.stay v w w' hk) rfl (by kernel_rfl) (by kernel_rfl) (fun xs n hf => ?_) (fun K hK => ?_)
      · rw [if_pos (by rfl)]
        have h0 := factL hf 1 rfl (by kernel_rfl)
        obtain ⟨a5, c5, e5, hi5⟩ := (factL hf 0 rfl (by kernel_rfl)).isR op_len
        have hsrc := src_rec op_len op_one Try.underlying31 hi5
        obtain ⟨v', w', hrun, q1, q2, q3⟩ := run_append_rec (m := [o]) cellsOp n.w 31 31 26 iO _ 72 Try.underlying31 hiO hzO hszO hbyO rfl h0 _ hsrc (by unfold maxLen; (try simp) <;> (try omega)) (by (try simp) <;> (try omega)) n.below.size
        exact relOp_append _ _ _ _ rfl rfl e5 hrun ⟨q1, q2, q3⟩
      go_simp; (try go_ints); refine hK _ ?_; clear hK K
      refine wpL_use (.bool true) (fun xs n hf => ?_) (fun K hK => ?_)
      · have h6 := ofew_own HG.out (factL hf 0 rfl (by kernel_rfl)) (by unfold maxLen; simp; omega)
        go_simp
      go_simp; (try go_ints); refine hK _ ?_; clear hK K
      refine wpL_pure (fun K hK => ?_); go_simp; (try go_ints); refine hK _ ?_; clear hK K
      refine wpL_pure (fun K hK => ?_); go_simp; (try go_ints); refine hK _ ?_; clear hK K
      refine wpL_nil (fun xs n _ => ?_)
      have b2 := step_b b1 n.below
      have HI2 := Lib.hid (HI1.out.below n.below)
      have HM2 := Lib.hid (HM1.out.below n.below)
      have HO2 := Lib.hid (HO1.out.below n.below)
      have HU2 := Lib.hid (HU1.out.below n.below)
      clear HI1 HM1 HO1 HU1 b1
      generalize n.w = w2 at b2 HI2 HM2 HO2 HU2 ⊢
      clear hzl hzm hiN hzN hszN hbyN hiO hzO hszO hbyO
      have hll : l.length ≤ 100 := by have := (fewN_of HF.out).2; simp at this; omega
      have hml : m.length ≤ 100 := by have := (fewOp_of HG.out).2; simp at this; omega
      have HSm := Lib.hid (show ∀ x ∈ m, x.s.size ≤ 1000 ∧ x.d.size ≤ 1000 from fun x hx => (fewOp_of HG.out).1 x (by simp [hx]))
      have HSo := Lib.hid ((fewOp_of HG.out).1 o (by simp))
      clear HF HG
      obtain ⟨m0, m1, m2, m3, m4, m5, m6⟩ := atOp_of HO2.out.atC
      rw [Nat.zero_add] at m1 m2 m3 m4 m5 m6
      have HD1 := Lib.hid (fun w h => tdo_any a cap l o w h (by omega) HSo.out.1 HSo.out.2 GN.out GO.out)
      have HD2 := Lib.hid (fun w h => rdo_any a cap l o w h (by omega) (by have := HSo.out.1; omega))
      have hrl : (doN l o).1.length ≤ 101 := by have := doN_len l o; omega
      generalize doN l o = r at HD1 HD2 hrl
      obtain ⟨l2, v⟩ := r
      go_wp2_with fail
      refine (HD1.out _ HI2.out).mono ?_
      rintro e w3 ⟨a3, d3, rfl, h3, c3⟩
      have b3 := step_b b2 c3
      have HI3 := Lib.hid (HI2.out.below c3)
      have HM3 := Lib.hid (HM2.out.below c3)
      have HO3 := Lib.hid (HO2.out.below c3)
      have HU3 := Lib.hid (HU2.out.below c3)
      have HA3 := Lib.hid h3
      clear c3 h3 HI2 HM2 HO2 HU2 b2 m0 m1 m2 m3 m4 m5 m6
      have m0 := fun X => (HO3.out.below (below_alloc w3 X)).cell 0 _ rfl
      have m1 := fun X => (HO3.out.below (below_alloc w3 X)).cell 1 _ rfl
      have m2 := fun X => (HO3.out.below (below_alloc w3 X)).cell 2 _ rfl
      have m3 := fun X => (HO3.out.below (below_alloc w3 X)).cell 3 _ rfl
      have m4 := fun X => (HO3.out.below (below_alloc w3 X)).cell 4 _ rfl
      have m5 := fun X => (HO3.out.below (below_alloc w3 X)).cell 5 _ rfl
      have m6 := fun X => (HO3.out.below (below_alloc w3 X)).cell 6 _ rfl
      go_wp2_with fail
      refine (HD2.out _ (HI3.out.below (below_alloc _ _))).mono ?_
      rintro e w4 ⟨a4, d4, rfl, h4, c4⟩
      have b4 := step_a b3 c4
      have HV4 := Lib.hid ((cells_new w3 (cellsU v) 30).below c4)
      have HI4 := Lib.hid ((HI3.out.below (below_alloc _ _)).below c4)
      have HM4 := Lib.hid ((HM3.out.below (below_alloc _ _)).below c4)
      have HO4 := Lib.hid ((HO3.out.below (below_alloc _ _)).below c4)
      have HU4 := Lib.hid ((HU3.out.below (below_alloc _ _)).below c4)
      have HA4 := Lib.hid ((HA3.out.below (below_alloc _ _)).below c4)
      have HB4 := Lib.hid h4
      clear c4 h4 HI3 HM3 HO3 HU3 HA3 b3 m0 m1 m2 m3 m4 m5 m6 HD1 HD2
      obtain ⟨fr, hfr⟩ : ∃ x, findN l id = x := ⟨_, rfl⟩
      have HFr := Lib.hid hfr
      clear hfr
      go_wp2_with fail
      refine (tfind_is _ (HI4.out.below (below_alloc _ _)) (by omega) HFr.out GN.out GI.out).mono ?_
      rintro e w5 ⟨rfl, c5⟩
      have b5 := step_a b4 c5
      have HW5 := Lib.hid ((cells_new w4 (cellsU v) 30).below c5)
      have HV5 := Lib.hid ((HV4.out.below (below_alloc _ _)).below c5)
      have HI5 := Lib.hid ((HI4.out.below (below_alloc _ _)).below c5)
      have HM5 := Lib.hid ((HM4.out.below (below_alloc _ _)).below c5)
      have HO5 := Lib.hid ((HO4.out.below (below_alloc _ _)).below c5)
      have HU5 := Lib.hid ((HU4.out.below (below_alloc _ _)).below c5)
      have HA5 := Lib.hid ((HA4.out.below (below_alloc _ _)).below c5)
      have HB5 := Lib.hid ((HB4.out.below (below_alloc _ _)).below c5)
      clear c5 HI4 HM4 HO4 HU4 HA4 HB4 HV4 b4
      generalize hnx : fr.getD noNod = nx
      generalize hsx : fr.isSome = sx
      have Hnx := Lib.hid hnx
      have Hsx := Lib.hid hsx
      clear hnx hsx
      go_wp2_with fail
      refine (rfind_is _ (HI5.out.below (below_alloc _ _)) (by omega) HFr.out).mono ?_
      rw [Hnx.out, Hsx.out]
      rintro e w6 ⟨rfl, c6⟩
      have b6 := step_a b5 c6
      have HN6 := Lib.hid ((cells_new w5 (cellsNd nx) 28).below c6)
      have HW6 := Lib.hid ((HW5.out.below (below_alloc _ _)).below c6)
      have HV6 := Lib.hid ((HV5.out.below (below_alloc _ _)).below c6)
      have HI6 := Lib.hid ((HI5.out.below (below_alloc _ _)).below c6)
      have HM6 := Lib.hid ((HM5.out.below (below_alloc _ _)).below c6)
      have HO6 := Lib.hid ((HO5.out.below (below_alloc _ _)).below c6)
      have HU6 := Lib.hid ((HU5.out.below (below_alloc _ _)).below c6)
      have HA6 := Lib.hid ((HA5.out.below (below_alloc _ _)).below c6)
      have HB6 := Lib.hid ((HB5.out.below (below_alloc _ _)).below c6)
      clear c6 HI5 HM5 HO5 HU5 HA5 HB5 HV5 HW5 b5 HFr Hnx Hsx
      obtain ⟨ck, hck⟩ : ∃ x, chkN l = x := ⟨_, rfl⟩
      have HC1 := Lib.hid (fun w h => tchk_any a cap l w h (by omega) GN.out)
      have HC2 := Lib.hid (fun w h => rnchk_any a cap l w h (by unfold maxLen; omega))
      rw [hck] at HC1 HC2
      clear hck
      go_wp2_with fail
      refine (HC1.out _ (HI6.out.below (below_alloc _ _))).mono ?_
      rintro e w7 ⟨rfl, c7⟩
      have b7 := step_a b6 c7
      have HP7 := Lib.hid ((cells_new w6 (cellsNd nx) 28).below c7)
      have HN7 := Lib.hid ((HN6.out.below (below_alloc _ _)).below c7)
      have HW7 := Lib.hid ((HW6.out.below (below_alloc _ _)).below c7)
      have HV7 := Lib.hid ((HV6.out.below (below_alloc _ _)).below c7)
      have HI7 := Lib.hid ((HI6.out.below (below_alloc _ _)).below c7)
      have HM7 := Lib.hid ((HM6.out.below (below_alloc _ _)).below c7)
      have HO7 := Lib.hid ((HO6.out.below (below_alloc _ _)).below c7)
      have HU7 := Lib.hid ((HU6.out.below (below_alloc _ _)).below c7)
      have HA7 := Lib.hid ((HA6.out.below (below_alloc _ _)).below c7)
      have HB7 := Lib.hid ((HB6.out.below (below_alloc _ _)).below c7)
      clear c7 HI6 HM6 HO6 HU6 HA6 HB6 HV6 HW6 HN6 b6
      go_wp2_with fail
      refine (HC2.out _ HI7.out).mono ?_
      rintro e w8 ⟨rfl, c8⟩
      have b8 := step_b b7 c8
      have HP8 := Lib.hid (HP7.out.below c8)
      have HN8 := Lib.hid (HN7.out.below c8)
      have HW8 := Lib.hid (HW7.out.below c8)
      have HV8 := Lib.hid (HV7.out.below c8)
      have HI8 := Lib.hid (HI7.out.below c8)
      have HM8 := Lib.hid (HM7.out.below c8)
      have HO8 := Lib.hid (HO7.out.below c8)
      have HU8 := Lib.hid (HU7.out.below c8)
      have HA8 := Lib.hid (HA7.out.below c8)
      have HB8 := Lib.hid (HB7.out.below c8)
      clear c8 HI7 HM7 HO7 HU7 HA7 HB7 HV7 HW7 HN7 HP7 b7 HC1 HC2
      obtain ⟨x0, x1, x2, x3, x4, x5, x6, x7⟩ := cellN_cells HN8.out
      obtain ⟨y0, y1, y2, y3, y4, y5, y6, y7⟩ := cellN_cells HP8.out
      obtain ⟨ab, hab⟩ : ∃ x, aboveN l id = x := ⟨_, rfl⟩
      have hal : ab.length ≤ 100 := by rw [← hab]; exact Nat.le_trans (aboveN_len _ _) hll
      have HAb := Lib.hid (fun w h => rabove_any a cap l id w h (by omega))
      rw [hab] at HAb
      have Hab := Lib.hid hab
      clear hab
      go_wp2_with fail
      refine (above_own Hab.out _ HI8.out (by omega) GN.out GI.out).mono ?_
      rintro e w9 ⟨v9, rfl, h9, c9, _⟩
      obtain ⟨a9, d9, rfl, hi9⟩ := h9.isR ci_len
      have b9 := step_b b8 c9
      have HW9 := Lib.hid (HW8.out.below c9)
      have HV9 := Lib.hid (HV8.out.below c9)
      have HI9 := Lib.hid (HI8.out.below c9)
      have HM9 := Lib.hid (HM8.out.below c9)
      have HO9 := Lib.hid (HO8.out.below c9)
      have HU9 := Lib.hid (HU8.out.below c9)
      have HA9 := Lib.hid (HA8.out.below c9)
      have HB9 := Lib.hid (HB8.out.below c9)
      have HJ9 := Lib.hid hi9
      clear c9 HI8 HM8 HO8 HU8 HA8 HB8 HV8 HW8 HN8 HP8 b8 h9 hi9 x0 x1 x2 x3 x4 x5 x6 x7 y0 y1 y2 y3 y4 y5 y6 y7
      go_wp2_with fail
      refine (HAb.out _ HI9.out).mono ?_
      rintro e w10 ⟨v10, rfl, h10, c10⟩
      obtain ⟨a10, d10, rfl, hi10⟩ := h10.isR ci_len
      have b10 := step_b b9 c10
      have HW10 := Lib.hid (HW9.out.below c10)
      have HV10 := Lib.hid (HV9.out.below c10)
      have HI10 := Lib.hid (HI9.out.below c10)
      have HM10 := Lib.hid (HM9.out.below c10)
      have HO10 := Lib.hid (HO9.out.below c10)
      have HU10 := Lib.hid (HU9.out.below c10)
      have HA10 := Lib.hid (HA9.out.below c10)
      have HB10 := Lib.hid (HB9.out.below c10)
      have HJ10 := Lib.hid (HJ9.out.below c10)
      have HK10 := Lib.hid hi10
      clear c10 HI9 HM9 HO9 HU9 HA9 HB9 HV9 HW9 HJ9 b9 h10 hi10
      have HNum := Lib.hid (fun w ha hb => (rnums_any a9 a10 d9 d10 ab ab w ha hb (by omega)))
      rw [show sameI ab ab = true from decide_eq_true rfl] at HNum
      go_wp2_with fail
      refine (HNum.out _ HJ10.out HK10.out).mono ?_
      rintro e w11 ⟨rfl, c11⟩
      have b11 := step_b b10 c11
      have HW11 := Lib.hid (HW10.out.below c11)
      have HV11 := Lib.hid (HV10.out.below c11)
      have HI11 := Lib.hid (HI10.out.below c11)
      have HM11 := Lib.hid (HM10.out.below c11)
      have HO11 := Lib.hid (HO10.out.below c11)
      have HU11 := Lib.hid (HU10.out.below c11)
      have HA11 := Lib.hid (HA10.out.below c11)
      have HB11 := Lib.hid (HB10.out.below c11)
      clear c11 HI10 HM10 HO10 HU10 HA10 HB10 HV10 HW10 HJ10 HK10 b10 HNum HAb Hab hal
      go_wp2_with fail
      refine (nsame_is rfl _ HA11.out HB11.out (by omega)).mono ?_
      rintro e w12 ⟨rfl, c12⟩
      have b12 := step_b b11 c12
      have HI12 := Lib.hid (HI11.out.below c12)
      have HM12 := Lib.hid (HM11.out.below c12)
      have HO12 := Lib.hid (HO11.out.below c12)
      have HU12 := Lib.hid (HU11.out.below c12)
      obtain ⟨x0, x1, x2, x3, x4, x5, x6, x7, x8, x9⟩ := cellU_cells (HV11.out.below c12)
      obtain ⟨y0, y1, y2, y3, y4, y5, y6, y7, y8, y9⟩ := cellU_cells (HW11.out.below c12)
      clear c12 HI11 HM11 HO11 HU11 HA11 HB11 HV11 HW11 b11
      go_wp2_with fail
      clear x0 x1 x2 x3 x4 x5 x6 x7 x8 x9 y0 y1 y2 y3 y4 y5 y6 y7 y8 y9
      have hbk : (backN l o u).length ≤ 1000000 := by have := backN_len l o u; omega
      have hfo : (foldN m).length ≤ 1000000 := by have := foldN_len m; omega
      refine wp_region_r (by kernel_rfl) (by kernel_rfl) ?_
      refine wpR_pure (fun K hK => ?_); go_simp; (try go_ints); refine hK _ ?_; clear hK K
      refine wpR_pure (fun K hK => ?_); go_simp; (try go_ints); refine hK _ ?_; clear hK K
      refine wpR_pure (fun K hK => ?_); go_simp; (try go_ints); refine hK _ ?_; clear hK K
      refine wpR_pure (fun K hK => ?_); go_simp; (try go_ints); refine hK _ ?_; clear hK K
      refine wpR_pure (fun K hK => ?_); go_simp; (try go_ints); refine hK _ ?_; clear hK K
      refine wpR_pure (fun K hK => ?_); go_simp; (try go_ints); refine hK _ ?_; clear hK K
      refine wpR_use (OV o) (fun xs n hf => ?_) (fun K hK => ?_)
      · obtain ⟨k0, k1, k2, k3, k4, k5, k6⟩ := atOp_of (HO12.out.below n.below).atC
        rw [Nat.zero_add] at k1 k2 k3 k4 k5 k6
        go_simp
      go_simp; (try go_ints); refine hK _ ?_; clear hK K
      refine wpR_use (UV u) (fun xs n hf => ?_) (fun K hK => ?_)
      · obtain ⟨k0, k1, k2, k3, k4, k5, k6, k7, k8, k9⟩ := cellU_cells (HU12.out.below n.below)
        go_simp
      go_simp; (try go_ints); refine hK _ ?_; clear hK K
      refine wpR_make (NdF (backN l o u)) (NdF.stable _) (fun xs n _ => ?_) (fun K hK => ?_)
      · unfold relOp; go_simp; simp only [relUpon]
        exact (tback_any a cap l o u n.w (HI12.out.below n.below) (by omega) GN.out GO.out GU.out).mono fun e w' h => nods_f h
      go_simp; (try go_ints); refine hK _ ?_; clear hK K
      refine wpR_pure (fun K hK => ?_); go_simp; (try go_ints); refine hK _ ?_; clear hK K
      refine wpR_use (OV o) (fun xs n hf => ?_) (fun K hK => ?_)
      · obtain ⟨k0, k1, k2, k3, k4, k5, k6⟩ := atOp_of (HO12.out.below n.below).atC
        rw [Nat.zero_add] at k1 k2 k3 k4 k5 k6
        go_simp
      go_simp; (try go_ints); refine hK _ ?_; clear hK K
      refine wpR_use (UV u) (fun xs n hf => ?_) (fun K hK => ?_)
      · obtain ⟨k0, k1, k2, k3, k4, k5, k6, k7, k8, k9⟩ := cellU_cells (HU12.out.below n.below)
        go_simp
      go_simp; (try go_ints); refine hK _ ?_; clear hK K
      refine wpR_make (NdF (backN l o u)) (NdF.stable _) (fun xs n _ => ?_) (fun K hK => ?_)
      · unfold relOp; go_simp; simp only [relUpon]
        exact (rback_any a cap l o u n.w (HI12.out.below n.below) (by omega)).mono fun e w' h => nods_f h
      go_simp; (try go_ints); refine hK _ ?_; clear hK K
      refine wpR_use (.bool true) (fun xs n hf => ?_) (fun K hK => ?_)
      · have h6 := nsame_f (fact_at hf 1 rfl (by kernel_rfl)) (fact_at hf 0 rfl (by kernel_rfl)) rfl hbk
        go_simp
      go_simp; (try go_ints); refine hK _ ?_; clear hK K
      refine wpR_pure (fun K hK => ?_); go_simp; (try go_ints); refine hK _ ?_; clear hK K
      refine wpR_pure (fun K hK => ?_); go_simp; (try go_ints); refine hK _ ?_; clear hK K
      refine wpR_pure (fun K hK => ?_); go_simp; (try go_ints); refine hK _ ?_; clear hK K
      refine wpR_make (NdF (foldN m)) (NdF.stable _) (fun xs n _ => ?_) (fun K hK => ?_)
      · unfold relOp; go_simp; simp only [relUpon]
        exact (tfold_any b cb m n.w (HM12.out.below n.below) (by omega) HSm.out GM.out).mono fun e w' h => nods_f h
      go_simp; (try go_ints); refine hK _ ?_; clear hK K
      refine wpR_pure (fun K hK => ?_); go_simp; (try go_ints); refine hK _ ?_; clear hK K
      refine wpR_make (NdF (foldN m)) (NdF.stable _) (fun xs n _ => ?_) (fun K hK => ?_)
      · unfold relOp; go_simp; simp only [relUpon]
        exact (rfold_any b cb m n.w (HM12.out.below n.below) (by omega) (fun x hx => by have := (HSm.out x hx).1; omega)).mono fun e w' h => nods_f h
      go_simp; (try go_ints); refine hK _ ?_; clear hK K
      refine wpR_use (.bool true) (fun xs n hf => ?_) (fun K hK => ?_)
      · have h6 := nsame_f (fact_at hf 1 rfl (by kernel_rfl)) (fact_at hf 0 rfl (by kernel_rfl)) rfl hfo
        go_simp
      go_simp; (try go_ints); refine hK _ ?_; clear hK K
      refine wpR_pure (fun K hK => ?_); go_simp; (try go_ints); refine hK _ ?_; clear hK K
      refine wpR_pure (fun K hK => ?_); go_simp; (try go_ints); refine hK _ ?_; clear hK K
      refine wpR_nil (fun xs n _ => ?_)
      have b13 := step_b b12 n.below
      go_wp2_with fail
      go_ret
      exact ⟨rfl, b13⟩
end Go.Proofs.Ytefbkhgnhcllbaa
