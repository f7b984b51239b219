/-
  The document's Sorted.
-/
import Derived.Test.YtnndanpahcdmaaaROps
namespace Go.Proofs.Ytnndanpahcdmaaa
open Go.RowKit Go.Lib
def OpsPost (r : List Opn) (w : World) (e : Ending) (w' : World) : Prop := ∃ v, e = .returned v ∧ OwnOp w.heap.size r v w' ∧ Below w.heap.size w w'
theorem stamp_ways (a b : Opn) : ((a.c == b.c) = true ∧ (a.r == b.r) = true ∧ eqA a b) ∨ ((a.c == b.c) = false ∧ ¬ eqA a b) ∨ ((a.c == b.c) = true ∧ (a.r == b.r) = false ∧ ¬ eqA a b) := by
  unfold eqA
  by_cases h1 : a.c = b.c
  · by_cases h2 : a.r = b.r
    · exact .inl ⟨beq_iff_eq.2 h1, beq_iff_eq.2 h2, h1, h2⟩
    · exact .inr (.inr ⟨beq_iff_eq.2 h1, beq_eq_false_iff_ne.2 h2, fun h => h2 h.2⟩)
  · exact .inr (.inl ⟨beq_eq_false_iff_ne.2 h1, fun h => h1 h.1⟩)
set_option maxRecDepth 100000 in
set_option maxHeartbeats 8000000 in
theorem rsorted_any (a : Option Addr) (c : Nat) (l : List Opn) (w : World) (h : IsOp w a c l) (hl : l.length ≤ 100000) (hsm : ∀ o ∈ l, o.s.size ≤ 1000000) :
    Calls Try.prog 33 #[.slice a l.length c] w (OpsPost (sortO l) w) := by
  obtain ⟨ii, hi, hz, hsz, hby⟩ := info_parts infoOp
  have HSm := Lib.hid hsm
  clear hsm
  go_enter Try.func33, Try.ntmps33
  go_wp2_with fail
  go_loopw [3, 4] (fun out u w' => ∃ i : Nat, i ≤ l.length ∧ u = .int .i64 i ∧ OwnOp w.heap.size (sortO (l.take i)) out w' ∧ Below w.heap.size w w') (fun _ u _ => l.length - (RowKit.intOf u).toNat)
  case atStart => exact ⟨0, Nat.zero_le _, rfl, ownR_nil _ _ _ _, Below.refl _ _⟩
  case round =>
    obtain ⟨i, hile, rfl, hown, ck⟩ := hrel
    by_cases hil : i < l.length
    · obtain ⟨o, ho⟩ : ∃ o, l[i]? = some o := ⟨l[i], List.getElem?_eq_getElem hil⟩
      obtain ⟨g, off, rfl, hlt, hc⟩ := (h.below ck).opn ho
      obtain ⟨m0, m1, m2, m3, m4, m5, m6⟩ := hc i o ho
      have hil2 : (i : Int) < (l.length : Int) := by omega
      have hsl := sort_len (l.take i)
      rw [List.length_take] at hsl
      have hT := sort_take ho
      have hSrt := sortO_srt (l.take i)
      have hos := HSm.out o (List.mem_of_getElem? ho)
      obtain ⟨s, hs⟩ : ∃ s, sortO (l.take i) = s := ⟨_, rfl⟩
      rw [hs] at hown hsl hT hSrt
      have hsl2 : s.length ≤ 100000 := by omega
      obtain ⟨ar, cr, rfl, hR, hash⟩ := hown.isR2 op_len
      have HR := Lib.hid hR
      have HSh := Lib.hid hash
      have HT := Lib.hid hT
      have HSrt := Lib.hid hSrt
      have HO := Lib.hid (show AtC (cellsOp o) wr g (off + i * 7) from fun q u hu => by
        obtain ⟨b', o', e', _, hcell⟩ := (h.below ck).2.2 (by intro e; subst e; simp at ho)
        simp only [Option.some.injEq, Addr.mk.injEq] at e'
        obtain ⟨rfl, rfl, _⟩ := e'
        exact hcell i o ho q u hu)
      obtain ⟨may, hmay⟩ : ∃ b, mayO o = b := ⟨_, rfl⟩
      have HM := Lib.hid hmay
      have HCk := Lib.hid (fun w => rchk_any o w (by omega))
      rw [hmay] at HCk
      have HOwn := Lib.hid hown
      clear hown hash hT hSrt hR hs hsl hmay ho hc hos
      go_wp2_with fail
      refine (HCk.out _).mono ?_
      rintro e w1 ⟨rfl, c1⟩
      have b1 := step_b ck c1
      have HR1 := Lib.hid (HR.out.below c1)
      have HO1 := Lib.hid (HO.out.keep (c1.block _ hlt))
      have hlt1 := Nat.lt_of_lt_of_le hlt c1.size
      have HOwn1 := Lib.hid (HOwn.out.below c1)
      clear m0 m1 m2 m3 m4 m5 m6 HR HO HOwn c1 hlt HCk
      go_wp2_with fail
      go_loopw [6] (fun u w' => ∃ k : Nat, k ≤ s.length ∧ u = .int .i64 k ∧ (∀ (j : Nat) y, k ≤ j → s[j]? = some y → ltA o y = true) ∧ Below w1.heap.size w1 w') (fun u _ => (RowKit.intOf u).toNat)
      case atStart => exact ⟨s.length, Nat.le_refl _, rfl, (fun j y (hj : s.length ≤ j) (hy : s[j]? = some y) => by rw [List.getElem?_eq_none hj] at hy; cases hy), Below.refl _ _⟩
      case round =>
        obtain ⟨k, hk, rfl, ha, ck2⟩ := hrel
        have Ha := Lib.hid ha
        clear ha
        have HR2 := Lib.hid (HR1.out.below ck2)
        have HO2 := Lib.hid (HO1.out.keep (ck2.block _ hlt1))
        have hlt2 := Nat.lt_of_lt_of_le hlt1 ck2.size
        obtain ⟨m0, m1, m2, m3, m4, m5, m6⟩ := atOp_of HO2.out
        rcases Nat.eq_zero_or_pos k with hk0 | hk0
        rotate_left
        · obtain ⟨q, rfl⟩ : ∃ q, k = q + 1 := ⟨k - 1, by omega⟩
          clear hk0
          obtain ⟨y, hy⟩ : ∃ y, s[q]? = some y := ⟨s[q], List.getElem?_eq_getElem (by omega)⟩
          obtain ⟨g2, off2, rfl, hlg2, hcell⟩ := HR2.out.opn hy
          obtain ⟨n0, n1, n2, n3, n4, n5, n6⟩ := hcell q y hy
          obtain ⟨lt, hltq⟩ : ∃ b, ltA o y = b := ⟨_, rfl⟩
          have HLs := Lib.hid (fun w => rolt_any o y w)
          rw [show lessS o.c o.r y.c y.r = lt from hltq] at HLs
          have Hy := Lib.hid hy
          have Hlt := Lib.hid hltq
          have gq : (q : Int) < (s.length : Int) := by omega
          have g0 : (0 : Int) < (q : Int) + 1 := by omega
          clear hy hcell hltq
          cases lt with
          | true =>
            go_wp2_with fail
            refine wp_region_later (by kernel_rfl) (by kernel_rfl) (fun hL => ?_)
            repeat (go_big_quiet_step ((go_at_call 53; with_reducible refine later_calls (HLs.out _))))
            intro w' hw
            have c3 := ck2.trans ((later_out hw).mono ck2.size)
            clear hw hL
            go_wp2_with fail
            go_roundw
            case rel => exact ⟨q, by omega, rfl, fun j z hj hz => by
              by_cases e : j = q
              · subst e; rw [Hy.out] at hz; cases hz; exact Hlt.out
              · exact Ha.out j z (by omega) hz, c3⟩
            case measure => simp [RowKit.intOf]
          | false =>
            go_wp2_with fail
            refine wp_region_later (by kernel_rfl) (by kernel_rfl) (fun hL => ?_)
            repeat (go_big_quiet_step ((go_at_call 53; with_reducible refine later_calls (HLs.out _))))
            intro w2 hw
            have c3 := ck2.trans ((later_out hw).mono ck2.size)
            clear hw hL
            have HR3 := Lib.hid (HR1.out.below c3)
            have HO3 := Lib.hid (HO1.out.keep (c3.block _ hlt1))
            have hlt3 := Nat.lt_of_lt_of_le hlt1 c3.size
            clear m0 m1 m2 m3 m4 m5 m6 n0 n1 n2 n3 n4 n5 n6 HR2 HO2 hlt2 ck2 hlg2
            obtain ⟨m0, m1, m2, m3, m4, m5, m6⟩ := atOp_of HO3.out
            obtain ⟨g3, off3, he3, hlg3, hcell⟩ := HR3.out.opn Hy.out
            simp only [Option.some.injEq, Addr.mk.injEq, and_true] at he3
            obtain ⟨rfl, rfl⟩ := he3
            obtain ⟨n0, n1, n2, n3, n4, n5, n6⟩ := hcell q y Hy.out
            clear hcell
            cases may with
            | false =>
              go_wp2_with fail
              refine wp_region_later (by kernel_rfl) (by kernel_rfl) (fun hL => ?_)
              repeat (go_big_quiet_step (fail))
              intro w3 hw
              have c4 := c3.trans ((later_out hw).mono c3.size)
              clear hw hL
              go_wp2_with fail
              go_roundw
              case rel => exact ⟨i + 1, by omega, by go_num, by rw [HT.out]; unfold addS; rw [HM.out]; exact HOwn1.out.below c4, step_b b1 c4⟩
              case measure => simp [RowKit.intOf]; omega
            | true =>
              rcases stamp_ways y o with ⟨dc, dr, he⟩ | ⟨dc, he⟩ | ⟨dc, dr, he⟩
              · have He := Lib.hid he
                clear he
                go_wp2_with fail
                refine wp_region_later (by kernel_rfl) (by kernel_rfl) (fun hL => ?_)
                repeat (go_big_quiet_step (fail))
                intro w3 hw
                have c4 := c3.trans ((later_out hw).mono c3.size)
                clear hw hL
                go_wp2_with fail
                go_roundw
                case rel => exact ⟨i + 1, by omega, by go_num, by rw [HT.out]; unfold addS; rw [HM.out, if_pos rfl, insS_has HSrt.out ⟨y, List.mem_of_getElem? Hy.out, He.out⟩]; exact HOwn1.out.below c4, step_b b1 c4⟩
                case measure => simp [RowKit.intOf]; omega
              · have He := Lib.hid he
                clear he
                go_wp2_with fail
                refine wp_region_later (by kernel_rfl) (by kernel_rfl) (fun hL => ?_)
                repeat (go_big_quiet_step (fail))
                intro w3 hw
                have c4 := c3.trans ((later_out hw).mono c3.size)
                clear hw hL
                have HS := Lib.hid (show sortO (l.take (i + 1)) = s.take (q + 1) ++ o :: s.drop (q + 1) by rw [HT.out]; unfold addS; rw [HM.out, if_pos rfl]; exact ins_place HSrt.out hk Ha.out (fun z _ hz => by rw [Nat.add_sub_cancel, Hy.out] at hz; cases hz; exact Hlt.out) (fun z _ hz => by rw [Nat.add_sub_cancel, Hy.out] at hz; cases hz; exact He.out))
                clear Ha Hy Hlt He HT HM HSrt HOwn1 HR3 HO3 hlt3 c3 gq g0 hlg3 m0 m1 m2 m3 m4 m5 m6 n0 n1 n2 n3 n4 n5 n6 HLs dc
                generalize hgk : q + 1 = k at hk HS ⊢
                clear hgk
                rcases Nat.lt_or_ge k s.length with hkl | hkl
                · have hkl2 : (k : Int) < (s.length : Int) := by omega
                  have hcr : ¬ cr = k := by have := HR1.out.1; omega
                  have hcr2 : k ≤ cr := by have := HR1.out.1; omega
                  have b2 := step_b b1 c4
                  have HR2 := Lib.hid (HR1.out.below c4)
                  have HO2 := Lib.hid (HO1.out.keep (c4.block _ hlt1))
                  have hlg3 := Nat.lt_of_lt_of_le hlt1 c4.size
                  clear HR1 HO1 c4
                  have q0 := below_alloc w3 (.cells #[] 26)
                  have qs := q0.size
                  have qb := b2.size
                  have SD := Lib.hid (src_at op_len op_one Try.underlying22 (isR_drop (HR2.out.below (below_alloc w3 (.cells #[] 26))) k) (L := s.length - k) (by rw [List.length_drop]))
                  go_wp2_with (at_builtin; refine wpList_append_rec cellsOp rfl _ _ 22 rfl w3.heap.size 26 ii _ 72 Try.underlying22 hi hz hsz hby rfl _ [] (s.drop k) rfl (ownR_empty cellsOp 7 26 w3 w3.heap.size (Nat.le_refl _)) _ rfl SD.out (by rw [List.length_drop]; unfold maxLen; (try simp) <;> (try omega)) (by rw [List.length_drop]; (try simp) <;> (try omega)) qs ?_)
                  intro v4 w4 ho4 c5
                  have c5' := q0.trans c5
                  have b3 := step_b b2 c5'
                  have HR3 := Lib.hid (HR2.out.below c5')
                  have HO3 := Lib.hid (HO2.out.keep (c5'.block _ hlg3))
                  have hlg4 := Nat.lt_of_lt_of_le hlg3 c5'.size
                  have HD3 := Lib.hid (show OwnOp w3.heap.size (s.drop k) v4 w4 from ho4)
                  obtain ⟨ad, cd, rfl, hD⟩ := HD3.out.isR op_len
                  have HD := Lib.hid hD
                  clear ho4 c5 q0 qs SD HR2 HO2 hlg3 c5' hD HD3 b1 b2
                  go_wp2_with fail
                  refine wp_region_l (by kernel_rfl) (by kernel_rfl) ?_
                  refine wpL_make (OwnOp w4.heap.size []) (fun v w w' h hk => h.stay v w w' hk) (fun xs n _ => ?_) (fun K hK => ?_)
                  · unfold relOp; go_simp; simp only [relUpon]
                    exact ⟨ownR_empty cellsOp 7 _ _ _ n.below.size, below_alloc _ _, new_own _ _ _ _⟩
                  go_simp; (try go_ints); refine hK _ ?_; clear hK K
                  refine wpL_pure (fun K hK => ?_); go_simp; (try go_ints); refine hK _ ?_; clear hK K
                  refine wpL_pure (fun K hK => ?_); go_simp; (try go_ints); refine hK _ ?_; clear hK K
                  refine wpL_pure (fun K hK => ?_); go_simp; (try go_ints); refine hK _ ?_; clear hK K
                  refine wpL_take 0 (OwnOp w4.heap.size (s.take k)) (fun v w w' h hk => h.stay v w w' hk) rfl (by kernel_rfl) (by kernel_rfl) (fun xs n hf => ?_) (fun K hK => ?_)
                  · rw [if_pos (by rfl)]
                    have h0 := factL hf 0 rfl (by kernel_rfl)
                    obtain ⟨v', w', hrun, q1, q2, q3⟩ := run_append_rec (m := (s.take k)) cellsOp n.w 22 22 26 ii _ 72 Try.underlying22 hi hz hsz hby rfl h0 _ (src_at op_len op_one Try.underlying22 (isR_take (HR3.out.below n.below) k) (L := k) (by rw [List.length_take]; omega)) (by rw [List.length_take]; unfold maxLen; (try simp) <;> (try omega)) (by rw [List.length_take]; (try simp) <;> (try omega)) n.below.size
                    exact relOp_append _ _ _ _ rfl rfl rfl hrun ⟨q1, q2, q3⟩
                  go_simp; (try go_ints); refine hK _ ?_; clear hK K
                  refine wpL_pure (fun K hK => ?_); go_simp; (try go_ints); refine hK _ ?_; clear hK K
                  refine wpL_pure (fun K hK => ?_); go_simp; (try go_ints); refine hK _ ?_; clear hK K
                  refine wpL_pure (fun K hK => ?_); go_simp; (try go_ints); refine hK _ ?_; clear hK K
                  refine wpL_use (.agg #[.int .i64 o.c, .int .i64 o.r, .int .i64 o.k, .int .i64 o.n, .int .i64 o.p, .string o.s, .string o.d]) (fun xs m _ => ?_) (fun K hK => ?_)
                  · obtain ⟨k0, k1, k2, k3, k4, k5, k6⟩ := atOp_of (HO3.out.keep (m.below.block _ hlg4))
                    go_simp
                  go_simp; (try go_ints); refine hK _ ?_; clear hK K
                  refine wpL_make (OwnOp w4.heap.size [o]) (fun v w w' h hk => h.stay v w w' hk) (fun xs m _ => ?_) (fun K hK => ?_)
                  · unfold relOp; go_simp; simp only [relUpon]
                    exact ⟨ownR_made op_len _ m.w _ m.below.size [o] (by simp) _ rfl, below_alloc _ _, new_own _ _ _ _⟩
                  go_simp; (try go_ints); refine hK _ ?_; clear hK K
                  refine wpL_take 1 (OwnOp w4.heap.size ((s.take k) ++ [o])) (fun v w w' h hk => h.stay v w w' hk) rfl (by kernel_rfl) (by kernel_rfl) (fun xs m hf => ?_) (fun K hK => ?_)
                  · rw [if_pos (by rfl)]
                    have h0 := factL hf 1 rfl (by kernel_rfl)
                    obtain ⟨a5, c5, e5, hi5⟩ := (factL hf 0 rfl (by kernel_rfl)).isR op_len
                    obtain ⟨v', w', hrun, q1, q2, q3⟩ := run_append_rec (m := [o]) cellsOp m.w 22 22 26 ii _ 72 Try.underlying22 hi hz hsz hby rfl h0 _ (src_rec op_len op_one Try.underlying22 hi5) (by rw [List.length_take]; unfold maxLen; (try simp) <;> (try omega)) (by rw [List.length_take]; (try simp) <;> (try omega)) m.below.size
                    exact relOp_append _ _ _ _ rfl rfl e5 hrun ⟨q1, q2, q3⟩
                  go_simp; (try go_ints); refine hK _ ?_; clear hK K
                  refine wpL_pure (fun K hK => ?_); go_simp; (try go_ints); refine hK _ ?_; clear hK K
                  refine wpL_take 0 (OwnOp w4.heap.size (sortO (l.take (i + 1)))) (fun v w w' h hk => h.stay v w w' hk) rfl (by kernel_rfl) (by kernel_rfl) (fun xs m hf => ?_) (fun K hK => ?_)
                  · rw [if_pos (by rfl)]
                    have h0 := factL hf 0 rfl (by kernel_rfl)
                    obtain ⟨v', w', hrun, q1, q2, q3⟩ := run_append_rec (m := (s.drop k)) cellsOp m.w 22 22 26 ii _ 72 Try.underlying22 hi hz hsz hby rfl h0 _ (src_at op_len op_one Try.underlying22 (HD.out.below m.below) (L := _) rfl) (by rw [List.length_append, List.length_take, List.length_drop]; unfold maxLen; (try simp) <;> (try omega)) (by rw [List.length_append, List.length_take, List.length_drop]; (try simp) <;> (try omega)) m.below.size
                    exact relOp_append _ _ _ _ rfl rfl (by first | rfl | (simp; rfl) | simp) hrun ⟨by rw [HS.out, List.append_cons]; exact q1, q2, q3⟩
                  go_simp; (try go_ints); refine hK _ ?_; clear hK K
                  refine wpL_take 0 (OwnOp w4.heap.size (sortO (l.take (i + 1)))) (fun v w w' h hk => h.stay v w w' hk) rfl (by kernel_rfl) (by kernel_rfl) (fun xs m hf => ?_) (fun K hK => ?_)
                  · have h0 := factL hf 0 rfl (by kernel_rfl)
                    unfold relOp; go_simp; simp only [relUpon]
                    exact own_moved h0
                  go_simp; (try go_ints); refine hK _ ?_; clear hK K
                  refine wpL_nil (fun xs m hf => ?_)
                  have hfin := hf _ (List.mem_cons_self)
                  have b4 := step_b b3 m.below
                  go_wp2_with fail
                  go_roundw
                  case rel => exact ⟨i + 1, by omega, by go_num, OwnR.mono hfin b3.size, b4⟩
                  case measure => simp [RowKit.intOf]; omega
                · have HDK := Lib.hid (show s.drop k = [] from List.drop_of_length_le hkl)
                  have hke : k = s.length := by omega
                  have hkl2 : ¬ (k : Int) < (s.length : Int) := by omega
                  have hcr2 : k ≤ cr := by have := HR1.out.1; omega
                  subst hke
                  by_cases hcr : cr = s.length
                  · have b2 := step_b b1 c4
                    have HR2 := Lib.hid (HR1.out.below c4)
                    have HO2 := Lib.hid (HO1.out.keep (c4.block _ hlt1))
                    have hlg3 := Nat.lt_of_lt_of_le hlt1 c4.size
                    clear HR1 HO1 c4
                    have q0 := below_alloc w3 (.cells #[] 26)
                    have qs := q0.size
                    have qb := b2.size
                    have SD := Lib.hid (show ∀ ad c, Src Try.prog 7 22 (.slice (some ad) 0 c) ([] : List Opn).length (cellsR cellsOp ([] : List Opn)) (w3.alloc (.cells #[] 26)) from fun ad c => src_at op_len op_one Try.underlying22 (isR_empty _ _ _ _ _) rfl)
                    go_wp2_with (at_builtin; refine wpList_append_rec cellsOp rfl _ _ 22 rfl w3.heap.size 26 ii _ 72 Try.underlying22 hi hz hsz hby rfl _ [] ([] : List Opn) rfl (ownR_empty cellsOp 7 26 w3 w3.heap.size (Nat.le_refl _)) _ rfl (SD.out _ _) (by decide) (by decide) qs ?_)
                    intro v4 w4 ho4 c5
                    have c5' := q0.trans c5
                    have b3 := step_b b2 c5'
                    have HR3 := Lib.hid (HR2.out.below c5')
                    have HO3 := Lib.hid (HO2.out.keep (c5'.block _ hlg3))
                    have hlg4 := Nat.lt_of_lt_of_le hlg3 c5'.size
                    have HD3 := Lib.hid (show OwnOp w3.heap.size ([] : List Opn) v4 w4 from ho4)
                    obtain ⟨ad, cd, rfl, hD⟩ := HD3.out.isR op_len
                    have HD := Lib.hid hD
                    clear ho4 c5 q0 qs SD HR2 HO2 hlg3 c5' hD HD3 b1 b2
                    go_wp2_with fail
                    refine wp_region_l (by kernel_rfl) (by kernel_rfl) ?_
                    refine wpL_make (OwnOp w4.heap.size []) (fun v w w' h hk => h.stay v w w' hk) (fun xs n _ => ?_) (fun K hK => ?_)
                    · unfold relOp; go_simp; simp only [relUpon]
                      exact ⟨ownR_empty cellsOp 7 _ _ _ n.below.size, below_alloc _ _, new_own _ _ _ _⟩
                    go_simp; (try go_ints); refine hK _ ?_; clear hK K
                    refine wpL_pure (fun K hK => ?_); go_simp; (try go_ints); refine hK _ ?_; clear hK K
                    refine wpL_pure (fun K hK => ?_); go_simp; (try go_ints); refine hK _ ?_; clear hK K
                    refine wpL_pure (fun K hK => ?_); go_simp; (try go_ints); refine hK _ ?_; clear hK K
                    refine wpL_take 0 (OwnOp w4.heap.size s) (fun v w w' h hk => h.stay v w w' hk) rfl (by kernel_rfl) (by kernel_rfl) (fun xs n hf => ?_) (fun K hK => ?_)
                    · rw [if_pos (by rfl)]
                      have h0 := factL hf 0 rfl (by kernel_rfl)
                      obtain ⟨v', w', hrun, q1, q2, q3⟩ := run_append_rec (m := s) cellsOp n.w 22 22 26 ii _ 72 Try.underlying22 hi hz hsz hby rfl h0 _ (src_at op_len op_one Try.underlying22 (HR3.out.below n.below) (L := _) rfl) (by unfold maxLen; (try simp) <;> (try omega)) (by (try simp) <;> (try omega)) n.below.size
                      exact relOp_append _ _ _ _ rfl rfl rfl hrun ⟨q1, q2, q3⟩
                    go_simp; (try go_ints); refine hK _ ?_; clear hK K
                    refine wpL_pure (fun K hK => ?_); go_simp; (try go_ints); refine hK _ ?_; clear hK K
                    refine wpL_pure (fun K hK => ?_); go_simp; (try go_ints); refine hK _ ?_; clear hK K
                    refine wpL_pure (fun K hK => ?_); go_simp; (try go_ints); refine hK _ ?_; clear hK K
                    refine wpL_use (.agg #[.int .i64 o.c, .int .i64 o.r, .int .i64 o.k, .int .i64 o.n, .int .i64 o.p, .string o.s, .string o.d]) (fun xs m _ => ?_) (fun K hK => ?_)
                    · obtain ⟨k0, k1, k2, k3, k4, k5, k6⟩ := atOp_of (HO3.out.keep (m.below.block _ hlg4))
                      go_simp
                    go_simp; (try go_ints); refine hK _ ?_; clear hK K
                    refine wpL_make (OwnOp w4.heap.size [o]) (fun v w w' h hk => h.stay v w w' hk) (fun xs m _ => ?_) (fun K hK => ?_)
                    · unfold relOp; go_simp; simp only [relUpon]
                      exact ⟨ownR_made op_len _ m.w _ m.below.size [o] (by simp) _ rfl, below_alloc _ _, new_own _ _ _ _⟩
                    go_simp; (try go_ints); refine hK _ ?_; clear hK K
                    refine wpL_take 1 (OwnOp w4.heap.size (s ++ [o])) (fun v w w' h hk => h.stay v w w' hk) rfl (by kernel_rfl) (by kernel_rfl) (fun xs m hf => ?_) (fun K hK => ?_)
                    · rw [if_pos (by rfl)]
                      have h0 := factL hf 1 rfl (by kernel_rfl)
                      obtain ⟨a5, c5, e5, hi5⟩ := (factL hf 0 rfl (by kernel_rfl)).isR op_len
                      obtain ⟨v', w', hrun, q1, q2, q3⟩ := run_append_rec (m := [o]) cellsOp m.w 22 22 26 ii _ 72 Try.underlying22 hi hz hsz hby rfl h0 _ (src_rec op_len op_one Try.underlying22 hi5) (by unfold maxLen; (try simp) <;> (try omega)) (by (try simp) <;> (try omega)) m.below.size
                      exact relOp_append _ _ _ _ rfl rfl e5 hrun ⟨q1, q2, q3⟩
                    go_simp; (try go_ints); refine hK _ ?_; clear hK K
                    refine wpL_pure (fun K hK => ?_); go_simp; (try go_ints); refine hK _ ?_; clear hK K
                    refine wpL_take 0 (OwnOp w4.heap.size (sortO (l.take (i + 1)))) (fun v w w' h hk => h.stay v w w' hk) rfl (by kernel_rfl) (by kernel_rfl) (fun xs m hf => ?_) (fun K hK => ?_)
                    · rw [if_pos (by rfl)]
                      have h0 := factL hf 0 rfl (by kernel_rfl)
                      obtain ⟨v', w', hrun, q1, q2, q3⟩ := run_append_rec (m := ([] : List Opn)) cellsOp m.w 22 22 26 ii _ 72 Try.underlying22 hi hz hsz hby rfl h0 _ (src_at op_len op_one Try.underlying22 (HD.out.below m.below) (L := _) rfl) (by rw [List.length_append]; unfold maxLen; (try simp) <;> (try omega)) (by rw [List.length_append]; (try simp) <;> (try omega)) m.below.size
                      exact relOp_append _ _ _ _ rfl rfl (by first | rfl | (simp; rfl) | simp) hrun ⟨by rw [HS.out, HDK.out, List.take_length, List.append_cons]; exact q1, q2, q3⟩
                    go_simp; (try go_ints); refine hK _ ?_; clear hK K
                    refine wpL_take 0 (OwnOp w4.heap.size (sortO (l.take (i + 1)))) (fun v w w' h hk => h.stay v w w' hk) rfl (by kernel_rfl) (by kernel_rfl) (fun xs m hf => ?_) (fun K hK => ?_)
                    · have h0 := factL hf 0 rfl (by kernel_rfl)
                      unfold relOp; go_simp; simp only [relUpon]
                      exact own_moved h0
                    go_simp; (try go_ints); refine hK _ ?_; clear hK K
                    refine wpL_nil (fun xs m hf => ?_)
                    have hfin := hf _ (List.mem_cons_self)
                    have b4 := step_b b3 m.below
                    go_wp2_with fail
                    go_roundw
                    case rel => exact ⟨i + 1, by omega, by go_num, OwnR.mono hfin b3.size, b4⟩
                    case measure => simp [RowKit.intOf]; omega
                  · have b2 := step_b b1 c4
                    have HR2 := Lib.hid (HR1.out.below c4)
                    have HO2 := Lib.hid (HO1.out.keep (c4.block _ hlt1))
                    have hlg3 := Nat.lt_of_lt_of_le hlt1 c4.size
                    clear HR1 HO1 c4
                    have q0 := below_alloc w3 (.cells #[] 26)
                    have qs := q0.size
                    have qb := b2.size
                    have SD := Lib.hid (show ∀ ad c, Src Try.prog 7 22 (.slice (some ad) 0 c) ([] : List Opn).length (cellsR cellsOp ([] : List Opn)) (w3.alloc (.cells #[] 26)) from fun ad c => src_at op_len op_one Try.underlying22 (isR_empty _ _ _ _ _) rfl)
                    go_wp2_with (at_builtin; refine wpList_append_rec cellsOp rfl _ _ 22 rfl w3.heap.size 26 ii _ 72 Try.underlying22 hi hz hsz hby rfl _ [] ([] : List Opn) rfl (ownR_empty cellsOp 7 26 w3 w3.heap.size (Nat.le_refl _)) _ rfl (SD.out _ _) (by decide) (by decide) qs ?_)
                    intro v4 w4 ho4 c5
                    have c5' := q0.trans c5
                    have b3 := step_b b2 c5'
                    have HR3 := Lib.hid (HR2.out.below c5')
                    have HO3 := Lib.hid (HO2.out.keep (c5'.block _ hlg3))
                    have hlg4 := Nat.lt_of_lt_of_le hlg3 c5'.size
                    have HD3 := Lib.hid (show OwnOp w3.heap.size ([] : List Opn) v4 w4 from ho4)
                    obtain ⟨ad, cd, rfl, hD⟩ := HD3.out.isR op_len
                    have HD := Lib.hid hD
                    clear ho4 c5 q0 qs SD HR2 HO2 hlg3 c5' hD HD3 b1 b2
                    go_wp2_with fail
                    refine wp_region_l (by kernel_rfl) (by kernel_rfl) ?_
                    refine wpL_make (OwnOp w4.heap.size []) (fun v w w' h hk => h.stay v w w' hk) (fun xs n _ => ?_) (fun K hK => ?_)
                    · unfold relOp; go_simp; simp only [relUpon]
                      exact ⟨ownR_empty cellsOp 7 _ _ _ n.below.size, below_alloc _ _, new_own _ _ _ _⟩
                    go_simp; (try go_ints); refine hK _ ?_; clear hK K
                    refine wpL_pure (fun K hK => ?_); go_simp; (try go_ints); refine hK _ ?_; clear hK K
                    refine wpL_pure (fun K hK => ?_); go_simp; (try go_ints); refine hK _ ?_; clear hK K
                    refine wpL_pure (fun K hK => ?_); go_simp; (try go_ints); refine hK _ ?_; clear hK K
                    refine wpL_take 0 (OwnOp w4.heap.size s) (fun v w w' h hk => h.stay v w w' hk) rfl (by kernel_rfl) (by kernel_rfl) (fun xs n hf => ?_) (fun K hK => ?_)
                    · rw [if_pos (by rfl)]
                      have h0 := factL hf 0 rfl (by kernel_rfl)
                      obtain ⟨v', w', hrun, q1, q2, q3⟩ := run_append_rec (m := s) cellsOp n.w 22 22 26 ii _ 72 Try.underlying22 hi hz hsz hby rfl h0 _ (src_at op_len op_one Try.underlying22 (HR3.out.below n.below) (L := _) rfl) (by unfold maxLen; (try simp) <;> (try omega)) (by (try simp) <;> (try omega)) n.below.size
                      exact relOp_append _ _ _ _ rfl rfl rfl hrun ⟨q1, q2, q3⟩
                    go_simp; (try go_ints); refine hK _ ?_; clear hK K
                    refine wpL_pure (fun K hK => ?_); go_simp; (try go_ints); refine hK _ ?_; clear hK K
                    refine wpL_pure (fun K hK => ?_); go_simp; (try go_ints); refine hK _ ?_; clear hK K
                    refine wpL_pure (fun K hK => ?_); go_simp; (try go_ints); refine hK _ ?_; clear hK K
                    refine wpL_use (.agg #[.int .i64 o.c, .int .i64 o.r, .int .i64 o.k, .int .i64 o.n, .int .i64 o.p, .string o.s, .string o.d]) (fun xs m _ => ?_) (fun K hK => ?_)
                    · obtain ⟨k0, k1, k2, k3, k4, k5, k6⟩ := atOp_of (HO3.out.keep (m.below.block _ hlg4))
                      go_simp
                    go_simp; (try go_ints); refine hK _ ?_; clear hK K
                    refine wpL_make (OwnOp w4.heap.size [o]) (fun v w w' h hk => h.stay v w w' hk) (fun xs m _ => ?_) (fun K hK => ?_)
                    · unfold relOp; go_simp; simp only [relUpon]
                      exact ⟨ownR_made op_len _ m.w _ m.below.size [o] (by simp) _ rfl, below_alloc _ _, new_own _ _ _ _⟩
                    go_simp; (try go_ints); refine hK _ ?_; clear hK K
                    refine wpL_take 1 (OwnOp w4.heap.size (s ++ [o])) (fun v w w' h hk => h.stay v w w' hk) rfl (by kernel_rfl) (by kernel_rfl) (fun xs m hf => ?_) (fun K hK => ?_)
                    · rw [if_pos (by rfl)]
                      have h0 := factL hf 1 rfl (by kernel_rfl)
                      obtain ⟨a5, c5, e5, hi5⟩ := (factL hf 0 rfl (by kernel_rfl)).isR op_len
                      obtain ⟨v', w', hrun, q1, q2, q3⟩ := run_append_rec (m := [o]) cellsOp m.w 22 22 26 ii _ 72 Try.underlying22 hi hz hsz hby rfl h0 _ (src_rec op_len op_one Try.underlying22 hi5) (by unfold maxLen; (try simp) <;> (try omega)) (by (try simp) <;> (try omega)) m.below.size
                      exact relOp_append _ _ _ _ rfl rfl e5 hrun ⟨q1, q2, q3⟩
                    go_simp; (try go_ints); refine hK _ ?_; clear hK K
                    refine wpL_pure (fun K hK => ?_); go_simp; (try go_ints); refine hK _ ?_; clear hK K
                    refine wpL_take 0 (OwnOp w4.heap.size (sortO (l.take (i + 1)))) (fun v w w' h hk => h.stay v w w' hk) rfl (by kernel_rfl) (by kernel_rfl) (fun xs m hf => ?_) (fun K hK => ?_)
                    · rw [if_pos (by rfl)]
                      have h0 := factL hf 0 rfl (by kernel_rfl)
                      obtain ⟨v', w', hrun, q1, q2, q3⟩ := run_append_rec (m := ([] : List Opn)) cellsOp m.w 22 22 26 ii _ 72 Try.underlying22 hi hz hsz hby rfl h0 _ (src_at op_len op_one Try.underlying22 (HD.out.below m.below) (L := _) rfl) (by rw [List.length_append]; unfold maxLen; (try simp) <;> (try omega)) (by rw [List.length_append]; (try simp) <;> (try omega)) m.below.size
                      exact relOp_append _ _ _ _ rfl rfl (by first | rfl | (simp; rfl) | simp) hrun ⟨by rw [HS.out, HDK.out, List.take_length, List.append_cons]; exact q1, q2, q3⟩
                    go_simp; (try go_ints); refine hK _ ?_; clear hK K
                    refine wpL_take 0 (OwnOp w4.heap.size (sortO (l.take (i + 1)))) (fun v w w' h hk => h.stay v w w' hk) rfl (by kernel_rfl) (by kernel_rfl) (fun xs m hf => ?_) (fun K hK => ?_)
                    · have h0 := factL hf 0 rfl (by kernel_rfl)
                      unfold relOp; go_simp; simp only [relUpon]
                      exact own_moved h0
                    go_simp; (try go_ints); refine hK _ ?_; clear hK K
                    refine wpL_nil (fun xs m hf => ?_)
                    have hfin := hf _ (List.mem_cons_self)
                    have b4 := step_b b3 m.below
                    go_wp2_with fail
                    go_roundw
                    case rel => exact ⟨i + 1, by omega, by go_num, OwnR.mono hfin b3.size, b4⟩
                    case measure => simp [RowKit.intOf]; omega
              · have He := Lib.hid he
                clear he
                go_wp2_with fail
                refine wp_region_later (by kernel_rfl) (by kernel_rfl) (fun hL => ?_)
                repeat (go_big_quiet_step (fail))
                intro w3 hw
                have c4 := c3.trans ((later_out hw).mono c3.size)
                clear hw hL
                have HS := Lib.hid (show sortO (l.take (i + 1)) = s.take (q + 1) ++ o :: s.drop (q + 1) by rw [HT.out]; unfold addS; rw [HM.out, if_pos rfl]; exact ins_place HSrt.out hk Ha.out (fun z _ hz => by rw [Nat.add_sub_cancel, Hy.out] at hz; cases hz; exact Hlt.out) (fun z _ hz => by rw [Nat.add_sub_cancel, Hy.out] at hz; cases hz; exact He.out))
                clear Ha Hy Hlt He HT HM HSrt HOwn1 HR3 HO3 hlt3 c3 gq g0 hlg3 m0 m1 m2 m3 m4 m5 m6 n0 n1 n2 n3 n4 n5 n6 HLs dc
                generalize hgk : q + 1 = k at hk HS ⊢
                clear hgk
                rcases Nat.lt_or_ge k s.length with hkl | hkl
                · have hkl2 : (k : Int) < (s.length : Int) := by omega
                  have hcr : ¬ cr = k := by have := HR1.out.1; omega
                  have hcr2 : k ≤ cr := by have := HR1.out.1; omega
                  have b2 := step_b b1 c4
                  have HR2 := Lib.hid (HR1.out.below c4)
                  have HO2 := Lib.hid (HO1.out.keep (c4.block _ hlt1))
                  have hlg3 := Nat.lt_of_lt_of_le hlt1 c4.size
                  clear HR1 HO1 c4
                  have q0 := below_alloc w3 (.cells #[] 26)
                  have qs := q0.size
                  have qb := b2.size
                  have SD := Lib.hid (src_at op_len op_one Try.underlying22 (isR_drop (HR2.out.below (below_alloc w3 (.cells #[] 26))) k) (L := s.length - k) (by rw [List.length_drop]))
                  go_wp2_with (at_builtin; refine wpList_append_rec cellsOp rfl _ _ 22 rfl w3.heap.size 26 ii _ 72 Try.underlying22 hi hz hsz hby rfl _ [] (s.drop k) rfl (ownR_empty cellsOp 7 26 w3 w3.heap.size (Nat.le_refl _)) _ rfl SD.out (by rw [List.length_drop]; unfold maxLen; (try simp) <;> (try omega)) (by rw [List.length_drop]; (try simp) <;> (try omega)) qs ?_)
                  intro v4 w4 ho4 c5
                  have c5' := q0.trans c5
                  have b3 := step_b b2 c5'
                  have HR3 := Lib.hid (HR2.out.below c5')
                  have HO3 := Lib.hid (HO2.out.keep (c5'.block _ hlg3))
                  have hlg4 := Nat.lt_of_lt_of_le hlg3 c5'.size
                  have HD3 := Lib.hid (show OwnOp w3.heap.size (s.drop k) v4 w4 from ho4)
                  obtain ⟨ad, cd, rfl, hD⟩ := HD3.out.isR op_len
                  have HD := Lib.hid hD
                  clear ho4 c5 q0 qs SD HR2 HO2 hlg3 c5' hD HD3 b1 b2
                  go_wp2_with fail
                  refine wp_region_l (by kernel_rfl) (by kernel_rfl) ?_
                  refine wpL_make (OwnOp w4.heap.size []) (fun v w w' h hk => h.stay v w w' hk) (fun xs n _ => ?_) (fun K hK => ?_)
                  · unfold relOp; go_simp; simp only [relUpon]
                    exact ⟨ownR_empty cellsOp 7 _ _ _ n.below.size, below_alloc _ _, new_own _ _ _ _⟩
                  go_simp; (try go_ints); refine hK _ ?_; clear hK K
                  refine wpL_pure (fun K hK => ?_); go_simp; (try go_ints); refine hK _ ?_; clear hK K
                  refine wpL_pure (fun K hK => ?_); go_simp; (try go_ints); refine hK _ ?_; clear hK K
                  refine wpL_pure (fun K hK => ?_); go_simp; (try go_ints); refine hK _ ?_; clear hK K
                  refine wpL_take 0 (OwnOp w4.heap.size (s.take k)) (fun v w w' h hk => h.stay v w w' hk) rfl (by kernel_rfl) (by kernel_rfl) (fun xs n hf => ?_) (fun K hK => ?_)
                  · rw [if_pos (by rfl)]
                    have h0 := factL hf 0 rfl (by kernel_rfl)
                    obtain ⟨v', w', hrun, q1, q2, q3⟩ := run_append_rec (m := (s.take k)) cellsOp n.w 22 22 26 ii _ 72 Try.underlying22 hi hz hsz hby rfl h0 _ (src_at op_len op_one Try.underlying22 (isR_take (HR3.out.below n.below) k) (L := k) (by rw [List.length_take]; omega)) (by rw [List.length_take]; unfold maxLen; (try simp) <;> (try omega)) (by rw [List.length_take]; (try simp) <;> (try omega)) n.below.size
                    exact relOp_append _ _ _ _ rfl rfl rfl hrun ⟨q1, q2, q3⟩
                  go_simp; (try go_ints); refine hK _ ?_; clear hK K
                  refine wpL_pure (fun K hK => ?_); go_simp; (try go_ints); refine hK _ ?_; clear hK K
                  refine wpL_pure (fun K hK => ?_); go_simp; (try go_ints); refine hK _ ?_; clear hK K
                  refine wpL_pure (fun K hK => ?_); go_simp; (try go_ints); refine hK _ ?_; clear hK K
                  refine wpL_use (.agg #[.int .i64 o.c, .int .i64 o.r, .int .i64 o.k, .int .i64 o.n, .int .i64 o.p, .string o.s, .string o.d]) (fun xs m _ => ?_) (fun K hK => ?_)
                  · obtain ⟨k0, k1, k2, k3, k4, k5, k6⟩ := atOp_of (HO3.out.keep (m.below.block _ hlg4))
                    go_simp
                  go_simp; (try go_ints); refine hK _ ?_; clear hK K
                  refine wpL_make (OwnOp w4.heap.size [o]) (fun v w w' h hk => h.stay v w w' hk) (fun xs m _ => ?_) (fun K hK => ?_)
                  · unfold relOp; go_simp; simp only [relUpon]
                    exact ⟨ownR_made op_len _ m.w _ m.below.size [o] (by simp) _ rfl, below_alloc _ _, new_own _ _ _ _⟩
                  go_simp; (try go_ints); refine hK _ ?_; clear hK K
                  refine wpL_take 1 (OwnOp w4.heap.size ((s.take k) ++ [o])) (fun v w w' h hk => h.stay v w w' hk) rfl (by kernel_rfl) (by kernel_rfl) (fun xs m hf => ?_) (fun K hK => ?_)
                  · rw [if_pos (by rfl)]
                    have h0 := factL hf 1 rfl (by kernel_rfl)
                    obtain ⟨a5, c5, e5, hi5⟩ := (factL hf 0 rfl (by kernel_rfl)).isR op_len
                    obtain ⟨v', w', hrun, q1, q2, q3⟩ := run_append_rec (m := [o]) cellsOp m.w 22 22 26 ii _ 72 Try.underlying22 hi hz hsz hby rfl h0 _ (src_rec op_len op_one Try.underlying22 hi5) (by rw [List.length_take]; unfold maxLen; (try simp) <;> (try omega)) (by rw [List.length_take]; (try simp) <;> (try omega)) m.below.size
                    exact relOp_append _ _ _ _ rfl rfl e5 hrun ⟨q1, q2, q3⟩
                  go_simp; (try go_ints); refine hK _ ?_; clear hK K
                  refine wpL_pure (fun K hK => ?_); go_simp; (try go_ints); refine hK _ ?_; clear hK K
                  refine wpL_take 0 (OwnOp w4.heap.size (sortO (l.take (i + 1)))) (fun v w w' h hk => h.stay v w w' hk) rfl (by kernel_rfl) (by kernel_rfl) (fun xs m hf => ?_) (fun K hK => ?_)
                  · rw [if_pos (by rfl)]
                    have h0 := factL hf 0 rfl (by kernel_rfl)
                    obtain ⟨v', w', hrun, q1, q2, q3⟩ := run_append_rec (m := (s.drop k)) cellsOp m.w 22 22 26 ii _ 72 Try.underlying22 hi hz hsz hby rfl h0 _ (src_at op_len op_one Try.underlying22 (HD.out.below m.below) (L := _) rfl) (by rw [List.length_append, List.length_take, List.length_drop]; unfold maxLen; (try simp) <;> (try omega)) (by rw [List.length_append, List.length_take, List.length_drop]; (try simp) <;> (try omega)) m.below.size
                    exact relOp_append _ _ _ _ rfl rfl (by first | rfl | (simp; rfl) | simp) hrun ⟨by rw [HS.out, List.append_cons]; exact q1, q2, q3⟩
                  go_simp; (try go_ints); refine hK _ ?_; clear hK K
                  refine wpL_take 0 (OwnOp w4.heap.size (sortO (l.take (i + 1)))) (fun v w w' h hk => h.stay v w w' hk) rfl (by kernel_rfl) (by kernel_rfl) (fun xs m hf => ?_) (fun K hK => ?_)
                  · have h0 := factL hf 0 rfl (by kernel_rfl)
                    unfold relOp; go_simp; simp only [relUpon]
                    exact own_moved h0
                  go_simp; (try go_ints); refine hK _ ?_; clear hK K
                  refine wpL_nil (fun xs m hf => ?_)
                  have hfin := hf _ (List.mem_cons_self)
                  have b4 := step_b b3 m.below
                  go_wp2_with fail
                  go_roundw
                  case rel => exact ⟨i + 1, by omega, by go_num, OwnR.mono hfin b3.size, b4⟩
                  case measure => simp [RowKit.intOf]; omega
                · have HDK := Lib.hid (show s.drop k = [] from List.drop_of_length_le hkl)
                  have hke : k = s.length := by omega
                  have hkl2 : ¬ (k : Int) < (s.length : Int) := by omega
                  have hcr2 : k ≤ cr := by have := HR1.out.1; omega
                  subst hke
                  by_cases hcr : cr = s.length
                  · have b2 := step_b b1 c4
                    have HR2 := Lib.hid (HR1.out.below c4)
                    have HO2 := Lib.hid (HO1.out.keep (c4.block _ hlt1))
                    have hlg3 := Nat.lt_of_lt_of_le hlt1 c4.size
                    clear HR1 HO1 c4
                    have q0 := below_alloc w3 (.cells #[] 26)
                    have qs := q0.size
                    have qb := b2.size
                    have SD := Lib.hid (show ∀ ad c, Src Try.prog 7 22 (.slice (some ad) 0 c) ([] : List Opn).length (cellsR cellsOp ([] : List Opn)) (w3.alloc (.cells #[] 26)) from fun ad c => src_at op_len op_one Try.underlying22 (isR_empty _ _ _ _ _) rfl)
                    go_wp2_with (at_builtin; refine wpList_append_rec cellsOp rfl _ _ 22 rfl w3.heap.size 26 ii _ 72 Try.underlying22 hi hz hsz hby rfl _ [] ([] : List Opn) rfl (ownR_empty cellsOp 7 26 w3 w3.heap.size (Nat.le_refl _)) _ rfl (SD.out _ _) (by decide) (by decide) qs ?_)
                    intro v4 w4 ho4 c5
                    have c5' := q0.trans c5
                    have b3 := step_b b2 c5'
                    have HR3 := Lib.hid (HR2.out.below c5')
                    have HO3 := Lib.hid (HO2.out.keep (c5'.block _ hlg3))
                    have hlg4 := Nat.lt_of_lt_of_le hlg3 c5'.size
                    have HD3 := Lib.hid (show OwnOp w3.heap.size ([] : List Opn) v4 w4 from ho4)
                    obtain ⟨ad, cd, rfl, hD⟩ := HD3.out.isR op_len
                    have HD := Lib.hid hD
                    clear ho4 c5 q0 qs SD HR2 HO2 hlg3 c5' hD HD3 b1 b2
                    go_wp2_with fail
                    refine wp_region_l (by kernel_rfl) (by kernel_rfl) ?_
                    refine wpL_make (OwnOp w4.heap.size []) (fun v w w' h hk => h.stay v w w' hk) (fun xs n _ => ?_) (fun K hK => ?_)
                    · unfold relOp; go_simp; simp only [relUpon]
                      exact ⟨ownR_empty cellsOp 7 _ _ _ n.below.size, below_alloc _ _, new_own _ _ _ _⟩
                    go_simp; (try go_ints); refine hK _ ?_; clear hK K
                    refine wpL_pure (fun K hK => ?_); go_simp; (try go_ints); refine hK _ ?_; clear hK K
                    refine wpL_pure (fun K hK => ?_); go_simp; (try go_ints); refine hK _ ?_; clear hK K
                    refine wpL_pure (fun K hK => ?_); go_simp; (try go_ints); refine hK _ ?_; clear hK K
                    refine wpL_take 0 (OwnOp w4.heap.size s) (fun v w w' h hk => h.stay v w w' hk) rfl (by kernel_rfl) (by kernel_rfl) (fun xs n hf => ?_) (fun K hK => ?_)
                    · rw [if_pos (by rfl)]
                      have h0 := factL hf 0 rfl (by kernel_rfl)
                      obtain ⟨v', w', hrun, q1, q2, q3⟩ := run_append_rec (m := s) cellsOp n.w 22 22 26 ii _ 72 Try.underlying22 hi hz hsz hby rfl h0 _ (src_at op_len op_one Try.underlying22 (HR3.out.below n.below) (L := _) rfl) (by unfold maxLen; (try simp) <;> (try omega)) (by (try simp) <;> (try omega)) n.below.size
                      exact relOp_append _ _ _ _ rfl rfl rfl hrun ⟨q1, q2, q3⟩
                    go_simp; (try go_ints); refine hK _ ?_; clear hK K
                    refine wpL_pure (fun K hK => ?_); go_simp; (try go_ints); refine hK _ ?_; clear hK K
                    refine wpL_pure (fun K hK => ?_); go_simp; (try go_ints); refine hK _ ?_; clear hK K
                    refine wpL_pure (fun K hK => ?_); go_simp; (try go_ints); refine hK _ ?_; clear hK K
                    refine wpL_use (.agg #[.int .i64 o.c, .int .i64 o.r, .int .i64 o.k, .int .i64 o.n, .int .i64 o.p, .string o.s, .string o.d]) (fun xs m _ => ?_) (fun K hK => ?_)
                    · obtain ⟨k0, k1, k2, k3, k4, k5, k6⟩ := atOp_of (HO3.out.keep (m.below.block _ hlg4))
                      go_simp
                    go_simp; (try go_ints); refine hK _ ?_; clear hK K
                    refine wpL_make (OwnOp w4.heap.size [o]) (fun v w w' h hk => h.stay v w w' hk) (fun xs m _ => ?_) (fun K hK => ?_)
                    · unfold relOp; go_simp; simp only [relUpon]
                      exact ⟨ownR_made op_len _ m.w _ m.below.size [o] (by simp) _ rfl, below_alloc _ _, new_own _ _ _ _⟩
                    go_simp; (try go_ints); refine hK _ ?_; clear hK K
                    refine wpL_take 1 (OwnOp w4.heap.size (s ++ [o])) (fun v w w' h hk => h.stay v w w' hk) rfl (by kernel_rfl) (by kernel_rfl) (fun xs m hf => ?_) (fun K hK => ?_)
                    · rw [if_pos (by rfl)]
                      have h0 := factL hf 1 rfl (by kernel_rfl)
                      obtain ⟨a5, c5, e5, hi5⟩ := (factL hf 0 rfl (by kernel_rfl)).isR op_len
                      obtain ⟨v', w', hrun, q1, q2, q3⟩ := run_append_rec (m := [o]) cellsOp m.w 22 22 26 ii _ 72 Try.underlying22 hi hz hsz hby rfl h0 _ (src_rec op_len op_one Try.underlying22 hi5) (by unfold maxLen; (try simp) <;> (try omega)) (by (try simp) <;> (try omega)) m.below.size
                      exact relOp_append _ _ _ _ rfl rfl e5 hrun ⟨q1, q2, q3⟩
                    go_simp; (try go_ints); refine hK _ ?_; clear hK K
                    refine wpL_pure (fun K hK => ?_); go_simp; (try go_ints); refine hK _ ?_; clear hK K
                    refine wpL_take 0 (OwnOp w4.heap.size (sortO (l.take (i + 1)))) (fun v w w' h hk => h.stay v w w' hk) rfl (by kernel_rfl) (by kernel_rfl) (fun xs m hf => ?_) (fun K hK => ?_)
                    · rw [if_pos (by rfl)]
                      have h0 := factL hf 0 rfl (by kernel_rfl)
                      obtain ⟨v', w', hrun, q1, q2, q3⟩ := run_append_rec (m := ([] : List Opn)) cellsOp m.w 22 22 26 ii _ 72 Try.underlying22 hi hz hsz hby rfl h0 _ (src_at op_len op_one Try.underlying22 (HD.out.below m.below) (L := _) rfl) (by rw [List.length_append]; unfold maxLen; (try simp) <;> (try omega)) (by rw [List.length_append]; (try simp) <;> (try omega)) m.below.size
                      exact relOp_append _ _ _ _ rfl rfl (by first | rfl | (simp; rfl) | simp) hrun ⟨by rw [HS.out, HDK.out, List.take_length, List.append_cons]; exact q1, q2, q3⟩
                    go_simp; (try go_ints); refine hK _ ?_; clear hK K
                    refine wpL_take 0 (OwnOp w4.heap.size (sortO (l.take (i + 1)))) (fun v w w' h hk => h.stay v w w' hk) rfl (by kernel_rfl) (by kernel_rfl) (fun xs m hf => ?_) (fun K hK => ?_)
                    · have h0 := factL hf 0 rfl (by kernel_rfl)
                      unfold relOp; go_simp; simp only [relUpon]
                      exact own_moved h0
                    go_simp; (try go_ints); refine hK _ ?_; clear hK K
                    refine wpL_nil (fun xs m hf => ?_)
                    have hfin := hf _ (List.mem_cons_self)
                    have b4 := step_b b3 m.below
                    go_wp2_with fail
                    go_roundw
                    case rel => exact ⟨i + 1, by omega, by go_num, OwnR.mono hfin b3.size, b4⟩
                    case measure => simp [RowKit.intOf]; omega
                  · have b2 := step_b b1 c4
                    have HR2 := Lib.hid (HR1.out.below c4)
                    have HO2 := Lib.hid (HO1.out.keep (c4.block _ hlt1))
                    have hlg3 := Nat.lt_of_lt_of_le hlt1 c4.size
                    clear HR1 HO1 c4
                    have q0 := below_alloc w3 (.cells #[] 26)
                    have qs := q0.size
                    have qb := b2.size
                    have SD := Lib.hid (show ∀ ad c, Src Try.prog 7 22 (.slice (some ad) 0 c) ([] : List Opn).length (cellsR cellsOp ([] : List Opn)) (w3.alloc (.cells #[] 26)) from fun ad c => src_at op_len op_one Try.underlying22 (isR_empty _ _ _ _ _) rfl)
                    go_wp2_with (at_builtin; refine wpList_append_rec cellsOp rfl _ _ 22 rfl w3.heap.size 26 ii _ 72 Try.underlying22 hi hz hsz hby rfl _ [] ([] : List Opn) rfl (ownR_empty cellsOp 7 26 w3 w3.heap.size (Nat.le_refl _)) _ rfl (SD.out _ _) (by decide) (by decide) qs ?_)
                    intro v4 w4 ho4 c5
                    have c5' := q0.trans c5
                    have b3 := step_b b2 c5'
                    have HR3 := Lib.hid (HR2.out.below c5')
                    have HO3 := Lib.hid (HO2.out.keep (c5'.block _ hlg3))
                    have hlg4 := Nat.lt_of_lt_of_le hlg3 c5'.size
                    have HD3 := Lib.hid (show OwnOp w3.heap.size ([] : List Opn) v4 w4 from ho4)
                    obtain ⟨ad, cd, rfl, hD⟩ := HD3.out.isR op_len
                    have HD := Lib.hid hD
                    clear ho4 c5 q0 qs SD HR2 HO2 hlg3 c5' hD HD3 b1 b2
                    go_wp2_with fail
                    refine wp_region_l (by kernel_rfl) (by kernel_rfl) ?_
                    refine wpL_make (OwnOp w4.heap.size []) (fun v w w' h hk => h.stay v w w' hk) (fun xs n _ => ?_) (fun K hK => ?_)
                    · unfold relOp; go_simp; simp only [relUpon]
                      exact ⟨ownR_empty cellsOp 7 _ _ _ n.below.size, below_alloc _ _, new_own _ _ _ _⟩
                    go_simp; (try go_ints); refine hK _ ?_; clear hK K
                    refine wpL_pure (fun K hK => ?_); go_simp; (try go_ints); refine hK _ ?_; clear hK K
                    refine wpL_pure (fun K hK => ?_); go_simp; (try go_ints); refine hK _ ?_; clear hK K
                    refine wpL_pure (fun K hK => ?_); go_simp; (try go_ints); refine hK _ ?_; clear hK K
                    refine wpL_take 0 (OwnOp w4.heap.size s) (fun v w w' h hk => h.stay v w w' hk) rfl (by kernel_rfl) (by kernel_rfl) (fun xs n hf => ?_) (fun K hK => ?_)
                    · rw [if_pos (by rfl)]
                      have h0 := factL hf 0 rfl (by kernel_rfl)
                      obtain ⟨v', w', hrun, q1, q2, q3⟩ := run_append_rec (m := s) cellsOp n.w 22 22 26 ii _ 72 Try.underlying22 hi hz hsz hby rfl h0 _ (src_at op_len op_one Try.underlying22 (HR3.out.below n.below) (L := _) rfl) (by unfold maxLen; (try simp) <;> (try omega)) (by (try simp) <;> (try omega)) n.below.size
                      exact relOp_append _ _ _ _ rfl rfl rfl hrun ⟨q1, q2, q3⟩
                    go_simp; (try go_ints); refine hK _ ?_; clear hK K
                    refine wpL_pure (fun K hK => ?_); go_simp; (try go_ints); refine hK _ ?_; clear hK K
                    refine wpL_pure (fun K hK => ?_); go_simp; (try go_ints); refine hK _ ?_; clear hK K
                    refine wpL_pure (fun K hK => ?_); go_simp; (try go_ints); refine hK _ ?_; clear hK K
                    refine wpL_use (.agg #[.int .i64 o.c, .int .i64 o.r, .int .i64 o.k, .int .i64 o.n, .int .i64 o.p, .string o.s, .string o.d]) (fun xs m _ => ?_) (fun K hK => ?_)
                    · obtain ⟨k0, k1, k2, k3, k4, k5, k6⟩ := atOp_of (HO3.out.keep (m.below.block _ hlg4))
                      go_simp
                    go_simp; (try go_ints); refine hK _ ?_; clear hK K
                    refine wpL_make (OwnOp w4.heap.size [o]) (fun v w w' h hk => h.stay v w w' hk) (fun xs m _ => ?_) (fun K hK => ?_)
                    · unfold relOp; go_simp; simp only [relUpon]
                      exact ⟨ownR_made op_len _ m.w _ m.below.size [o] (by simp) _ rfl, below_alloc _ _, new_own _ _ _ _⟩
                    go_simp; (try go_ints); refine hK _ ?_; clear hK K
                    refine wpL_take 1 (OwnOp w4.heap.size (s ++ [o])) (fun v w w' h hk => h.stay v w w' hk) rfl (by kernel_rfl) (by kernel_rfl) (fun xs m hf => ?_) (fun K hK => ?_)
                    · rw [if_pos (by rfl)]
                      have h0 := factL hf 1 rfl (by kernel_rfl)
                      obtain ⟨a5, c5, e5, hi5⟩ := (factL hf 0 rfl (by kernel_rfl)).isR op_len
                      obtain ⟨v', w', hrun, q1, q2, q3⟩ := run_append_rec (m := [o]) cellsOp m.w 22 22 26 ii _ 72 Try.underlying22 hi hz hsz hby rfl h0 _ (src_rec op_len op_one Try.underlying22 hi5) (by unfold maxLen; (try simp) <;> (try omega)) (by (try simp) <;> (try omega)) m.below.size
                      exact relOp_append _ _ _ _ rfl rfl e5 hrun ⟨q1, q2, q3⟩
                    go_simp; (try go_ints); refine hK _ ?_; clear hK K
                    refine wpL_pure (fun K hK => ?_); go_simp; (try go_ints); refine hK _ ?_; clear hK K
                    refine wpL_take 0 (OwnOp w4.heap.size (sortO (l.take (i + 1)))) (fun v w w' h hk => h.stay v w w' hk) rfl (by kernel_rfl) (by kernel_rfl) (fun xs m hf => ?_) (fun K hK => ?_)
                    · rw [if_pos (by rfl)]
                      have h0 := factL hf 0 rfl (by kernel_rfl)
                      obtain ⟨v', w', hrun, q1, q2, q3⟩ := run_append_rec (m := ([] : List Opn)) cellsOp m.w 22 22 26 ii _ 72 Try.underlying22 hi hz hsz hby rfl h0 _ (src_at op_len op_one Try.underlying22 (HD.out.below m.below) (L := _) rfl) (by rw [List.length_append]; unfold maxLen; (try simp) <;> (try omega)) (by rw [List.length_append]; (try simp) <;> (try omega)) m.below.size
                      exact relOp_append _ _ _ _ rfl rfl (by first | rfl | (simp; rfl) | simp) hrun ⟨by rw [HS.out, HDK.out, List.take_length, List.append_cons]; exact q1, q2, q3⟩
                    go_simp; (try go_ints); refine hK _ ?_; clear hK K
                    refine wpL_take 0 (OwnOp w4.heap.size (sortO (l.take (i + 1)))) (fun v w w' h hk => h.stay v w w' hk) rfl (by kernel_rfl) (by kernel_rfl) (fun xs m hf => ?_) (fun K hK => ?_)
                    · have h0 := factL hf 0 rfl (by kernel_rfl)
                      unfold relOp; go_simp; simp only [relUpon]
                      exact own_moved h0
                    go_simp; (try go_ints); refine hK _ ?_; clear hK K
                    refine wpL_nil (fun xs m hf => ?_)
                    have hfin := hf _ (List.mem_cons_self)
                    have b4 := step_b b3 m.below
                    go_wp2_with fail
                    go_roundw
                    case rel => exact ⟨i + 1, by omega, by go_num, OwnR.mono hfin b3.size, b4⟩
                    case measure => simp [RowKit.intOf]; omega
        · have HK0 := Lib.hid hk0
          have g0 : decide (0 < k) = false := decide_eq_false (by omega)
          have g1 : ¬ (0 < k) := by omega
          clear hk0 HR2 HO2 hlt2 m0 m1 m2 m3 m4 m5 m6
          go_wp2_with fail
          refine wp_region_later (by kernel_rfl) (by kernel_rfl) (fun hL => ?_)
          repeat (go_big_quiet_step (fail))
          intro w2 hw
          have c3 := ck2.trans ((later_out hw).mono ck2.size)
          clear hw hL ck2
          cases may with
          | false =>
            go_wp2_with fail
            refine wp_region_later (by kernel_rfl) (by kernel_rfl) (fun hL => ?_)
            repeat (go_big_quiet_step (fail))
            intro w3 hw
            have c4 := c3.trans ((later_out hw).mono c3.size)
            clear hw hL
            go_wp2_with fail
            go_roundw
            case rel => exact ⟨i + 1, by omega, by go_num, by rw [HT.out]; unfold addS; rw [HM.out]; exact HOwn1.out.below c4, step_b b1 c4⟩
            case measure => simp [RowKit.intOf]; omega
          | true =>
            go_wp2_with fail
            refine wp_region_later (by kernel_rfl) (by kernel_rfl) (fun hL => ?_)
            repeat (go_big_quiet_step (fail))
            intro w3 hw
            have c4 := c3.trans ((later_out hw).mono c3.size)
            clear hw hL
            have HS := Lib.hid (show sortO (l.take (i + 1)) = s.take k ++ o :: s.drop k by rw [HT.out]; unfold addS; rw [HM.out, if_pos rfl]; exact ins_place HSrt.out hk Ha.out (fun z h0 hz => absurd HK0.out (by omega)) (fun z h0 hz => absurd HK0.out (by omega)))
            clear Ha HT HM HSrt HOwn1 c3 g0 g1
            rcases Nat.lt_or_ge k s.length with hkl | hkl
            · obtain ⟨g2, off2, rfl, hlg2, _⟩ := HR1.out.opn (List.getElem?_eq_getElem hkl)
              have hkl2 : (k : Int) < (s.length : Int) := by omega
              have hcr : ¬ cr = k := by have := HR1.out.1; omega
              have hcr2 : k ≤ cr := by have := HR1.out.1; omega
              have b2 := step_b b1 c4
              have HR2 := Lib.hid (HR1.out.below c4)
              have HO2 := Lib.hid (HO1.out.keep (c4.block _ hlt1))
              have hlg3 := Nat.lt_of_lt_of_le hlt1 c4.size
              clear HR1 HO1 c4
              have q0 := below_alloc w3 (.cells #[] 26)
              have qs := q0.size
              have qb := b2.size
              have SD := Lib.hid (src_at op_len op_one Try.underlying22 (isR_drop (HR2.out.below (below_alloc w3 (.cells #[] 26))) k) (L := s.length - k) (by rw [List.length_drop]))
              go_wp2_with (at_builtin; refine wpList_append_rec cellsOp rfl _ _ 22 rfl w3.heap.size 26 ii _ 72 Try.underlying22 hi hz hsz hby rfl _ [] (s.drop k) rfl (ownR_empty cellsOp 7 26 w3 w3.heap.size (Nat.le_refl _)) _ rfl SD.out (by rw [List.length_drop]; unfold maxLen; (try simp) <;> (try omega)) (by rw [List.length_drop]; (try simp) <;> (try omega)) qs ?_)
              intro v4 w4 ho4 c5
              have c5' := q0.trans c5
              have b3 := step_b b2 c5'
              have HR3 := Lib.hid (HR2.out.below c5')
              have HO3 := Lib.hid (HO2.out.keep (c5'.block _ hlg3))
              have hlg4 := Nat.lt_of_lt_of_le hlg3 c5'.size
              have HD3 := Lib.hid (show OwnOp w3.heap.size (s.drop k) v4 w4 from ho4)
              obtain ⟨ad, cd, rfl, hD⟩ := HD3.out.isR op_len
              have HD := Lib.hid hD
              clear ho4 c5 q0 qs SD HR2 HO2 hlg3 c5' hD HD3 b1 b2
              go_wp2_with fail
              refine wp_region_l (by kernel_rfl) (by kernel_rfl) ?_
              refine wpL_make (OwnOp w4.heap.size []) (fun v w w' h hk => h.stay v w w' hk) (fun xs n _ => ?_) (fun K hK => ?_)
              · unfold relOp; go_simp; simp only [relUpon]
                exact ⟨ownR_empty cellsOp 7 _ _ _ n.below.size, below_alloc _ _, new_own _ _ _ _⟩
              go_simp; (try go_ints); refine hK _ ?_; clear hK K
              refine wpL_pure (fun K hK => ?_); go_simp; (try go_ints); refine hK _ ?_; clear hK K
              refine wpL_pure (fun K hK => ?_); go_simp; (try go_ints); refine hK _ ?_; clear hK K
              refine wpL_pure (fun K hK => ?_); go_simp; (try go_ints); refine hK _ ?_; clear hK K
              refine wpL_take 0 (OwnOp w4.heap.size (s.take k)) (fun v w w' h hk => h.stay v w w' hk) rfl (by kernel_rfl) (by kernel_rfl) (fun xs n hf => ?_) (fun K hK => ?_)
              · rw [if_pos (by rfl)]
                have h0 := factL hf 0 rfl (by kernel_rfl)
                obtain ⟨v', w', hrun, q1, q2, q3⟩ := run_append_rec (m := (s.take k)) cellsOp n.w 22 22 26 ii _ 72 Try.underlying22 hi hz hsz hby rfl h0 _ (src_at op_len op_one Try.underlying22 (isR_take (HR3.out.below n.below) k) (L := k) (by rw [List.length_take]; omega)) (by rw [List.length_take]; unfold maxLen; (try simp) <;> (try omega)) (by rw [List.length_take]; (try simp) <;> (try omega)) n.below.size
                exact relOp_append _ _ _ _ rfl rfl rfl hrun ⟨q1, q2, q3⟩
              go_simp; (try go_ints); refine hK _ ?_; clear hK K
              refine wpL_pure (fun K hK => ?_); go_simp; (try go_ints); refine hK _ ?_; clear hK K
              refine wpL_pure (fun K hK => ?_); go_simp; (try go_ints); refine hK _ ?_; clear hK K
              refine wpL_pure (fun K hK => ?_); go_simp; (try go_ints); refine hK _ ?_; clear hK K
              refine wpL_use (.agg #[.int .i64 o.c, .int .i64 o.r, .int .i64 o.k, .int .i64 o.n, .int .i64 o.p, .string o.s, .string o.d]) (fun xs m _ => ?_) (fun K hK => ?_)
              · obtain ⟨k0, k1, k2, k3, k4, k5, k6⟩ := atOp_of (HO3.out.keep (m.below.block _ hlg4))
                go_simp
              go_simp; (try go_ints); refine hK _ ?_; clear hK K
              refine wpL_make (OwnOp w4.heap.size [o]) (fun v w w' h hk => h.stay v w w' hk) (fun xs m _ => ?_) (fun K hK => ?_)
              · unfold relOp; go_simp; simp only [relUpon]
                exact ⟨ownR_made op_len _ m.w _ m.below.size [o] (by simp) _ rfl, below_alloc _ _, new_own _ _ _ _⟩
              go_simp; (try go_ints); refine hK _ ?_; clear hK K
              refine wpL_take 1 (OwnOp w4.heap.size ((s.take k) ++ [o])) (fun v w w' h hk => h.stay v w w' hk) rfl (by kernel_rfl) (by kernel_rfl) (fun xs m hf => ?_) (fun K hK => ?_)
              · rw [if_pos (by rfl)]
                have h0 := factL hf 1 rfl (by kernel_rfl)
                obtain ⟨a5, c5, e5, hi5⟩ := (factL hf 0 rfl (by kernel_rfl)).isR op_len
                obtain ⟨v', w', hrun, q1, q2, q3⟩ := run_append_rec (m := [o]) cellsOp m.w 22 22 26 ii _ 72 Try.underlying22 hi hz hsz hby rfl h0 _ (src_rec op_len op_one Try.underlying22 hi5) (by rw [List.length_take]; unfold maxLen; (try simp) <;> (try omega)) (by rw [List.length_take]; (try simp) <;> (try omega)) m.below.size
                exact relOp_append _ _ _ _ rfl rfl e5 hrun ⟨q1, q2, q3⟩
              go_simp; (try go_ints); refine hK _ ?_; clear hK K
              refine wpL_pure (fun K hK => ?_); go_simp; (try go_ints); refine hK _ ?_; clear hK K
              refine wpL_take 0 (OwnOp w4.heap.size (sortO (l.take (i + 1)))) (fun v w w' h hk => h.stay v w w' hk) rfl (by kernel_rfl) (by kernel_rfl) (fun xs m hf => ?_) (fun K hK => ?_)
              · rw [if_pos (by rfl)]
                have h0 := factL hf 0 rfl (by kernel_rfl)
                obtain ⟨v', w', hrun, q1, q2, q3⟩ := run_append_rec (m := (s.drop k)) cellsOp m.w 22 22 26 ii _ 72 Try.underlying22 hi hz hsz hby rfl h0 _ (src_at op_len op_one Try.underlying22 (HD.out.below m.below) (L := _) rfl) (by rw [List.length_append, List.length_take, List.length_drop]; unfold maxLen; (try simp) <;> (try omega)) (by rw [List.length_append, List.length_take, List.length_drop]; (try simp) <;> (try omega)) m.below.size
                exact relOp_append _ _ _ _ rfl rfl (by first | rfl | (simp; rfl) | simp) hrun ⟨by rw [HS.out, List.append_cons]; exact q1, q2, q3⟩
              go_simp; (try go_ints); refine hK _ ?_; clear hK K
              refine wpL_take 0 (OwnOp w4.heap.size (sortO (l.take (i + 1)))) (fun v w w' h hk => h.stay v w w' hk) rfl (by kernel_rfl) (by kernel_rfl) (fun xs m hf => ?_) (fun K hK => ?_)
              · have h0 := factL hf 0 rfl (by kernel_rfl)
                unfold relOp; go_simp; simp only [relUpon]
                exact own_moved h0
              go_simp; (try go_ints); refine hK _ ?_; clear hK K
              refine wpL_nil (fun xs m hf => ?_)
              have hfin := hf _ (List.mem_cons_self)
              have b4 := step_b b3 m.below
              go_wp2_with fail
              go_roundw
              case rel => exact ⟨i + 1, by omega, by go_num, OwnR.mono hfin b3.size, b4⟩
              case measure => simp [RowKit.intOf]; omega
            · have HDK := Lib.hid (show s.drop k = [] from List.drop_of_length_le hkl)
              have hke : k = s.length := by omega
              have hkl2 : ¬ (k : Int) < (s.length : Int) := by omega
              have hcr2 : k ≤ cr := by have := HR1.out.1; omega
              cases ar with
              | none =>
                have hc0 : cr = 0 := HR1.out.2.1 rfl
                have hr0 : s.length = 0 := by have := HR1.out.1; omega
                have hk0 : k = 0 := by omega
                subst hc0
                have b2 := step_b b1 c4
                have HR2 := Lib.hid (HR1.out.below c4)
                have HO2 := Lib.hid (HO1.out.keep (c4.block _ hlt1))
                have hlg3 := Nat.lt_of_lt_of_le hlt1 c4.size
                clear HR1 HO1 c4
                have q0 := below_alloc w3 (.cells #[] 26)
                have qs := q0.size
                have qb := b2.size
                have SD := Lib.hid (show Src Try.prog 7 22 (.slice none 0 0) ([] : List Opn).length (cellsR cellsOp ([] : List Opn)) (w3.alloc (.cells #[] 26)) from src_at op_len op_one Try.underlying22 (isR_nil _ _ _) rfl)
                go_wp2_with (at_builtin; refine wpList_append_rec cellsOp rfl _ _ 22 rfl w3.heap.size 26 ii _ 72 Try.underlying22 hi hz hsz hby rfl _ [] ([] : List Opn) rfl (ownR_empty cellsOp 7 26 w3 w3.heap.size (Nat.le_refl _)) _ rfl SD.out (by decide) (by decide) qs ?_)
                intro v4 w4 ho4 c5
                have c5' := q0.trans c5
                have b3 := step_b b2 c5'
                have HR3 := Lib.hid (HR2.out.below c5')
                have HO3 := Lib.hid (HO2.out.keep (c5'.block _ hlg3))
                have hlg4 := Nat.lt_of_lt_of_le hlg3 c5'.size
                have HD3 := Lib.hid (show OwnOp w3.heap.size ([] : List Opn) v4 w4 from ho4)
                obtain ⟨ad, cd, rfl, hD⟩ := HD3.out.isR op_len
                have HD := Lib.hid hD
                clear ho4 c5 q0 qs SD HR2 HO2 hlg3 c5' hD HD3 b1 b2
                go_wp2_with fail
                refine wp_region_l (by kernel_rfl) (by kernel_rfl) ?_
                refine wpL_make (OwnOp w4.heap.size []) (fun v w w' h hk => h.stay v w w' hk) (fun xs n _ => ?_) (fun K hK => ?_)
                · unfold relOp; go_simp; simp only [relUpon]
                  exact ⟨ownR_empty cellsOp 7 _ _ _ n.below.size, below_alloc _ _, new_own _ _ _ _⟩
                go_simp; (try go_ints); refine hK _ ?_; clear hK K
                refine wpL_pure (fun K hK => ?_); go_simp; (try go_ints); refine hK _ ?_; clear hK K
                refine wpL_pure (fun K hK => ?_); go_simp; (try go_ints); refine hK _ ?_; clear hK K
                refine wpL_pure (fun K hK => ?_); go_simp; (try go_ints); refine hK _ ?_; clear hK K
                refine wpL_take 0 (OwnOp w4.heap.size (s.take k)) (fun v w w' h hk => h.stay v w w' hk) rfl (by kernel_rfl) (by kernel_rfl) (fun xs n hf => ?_) (fun K hK => ?_)
                · rw [if_pos (by rfl)]
                  have h0 := factL hf 0 rfl (by kernel_rfl)
                  obtain ⟨v', w', hrun, q1, q2, q3⟩ := run_append_rec (m := (s.take k)) cellsOp n.w 22 22 26 ii _ 72 Try.underlying22 hi hz hsz hby rfl h0 _ (src_at op_len op_one Try.underlying22 (isR_take (HR3.out.below n.below) k) (L := 0) (by rw [List.length_take]; omega)) (by rw [List.length_take]; unfold maxLen; (try simp) <;> (try omega)) (by rw [List.length_take]; (try simp) <;> (try omega)) n.below.size
                  exact relOp_append _ _ _ _ rfl rfl rfl hrun ⟨q1, q2, q3⟩
                go_simp; (try go_ints); refine hK _ ?_; clear hK K
                refine wpL_pure (fun K hK => ?_); go_simp; (try go_ints); refine hK _ ?_; clear hK K
                refine wpL_pure (fun K hK => ?_); go_simp; (try go_ints); refine hK _ ?_; clear hK K
                refine wpL_pure (fun K hK => ?_); go_simp; (try go_ints); refine hK _ ?_; clear hK K
                refine wpL_use (.agg #[.int .i64 o.c, .int .i64 o.r, .int .i64 o.k, .int .i64 o.n, .int .i64 o.p, .string o.s, .string o.d]) (fun xs m _ => ?_) (fun K hK => ?_)
                · obtain ⟨k0, k1, k2, k3, k4, k5, k6⟩ := atOp_of (HO3.out.keep (m.below.block _ hlg4))
                  go_simp
                go_simp; (try go_ints); refine hK _ ?_; clear hK K
                refine wpL_make (OwnOp w4.heap.size [o]) (fun v w w' h hk => h.stay v w w' hk) (fun xs m _ => ?_) (fun K hK => ?_)
                · unfold relOp; go_simp; simp only [relUpon]
                  exact ⟨ownR_made op_len _ m.w _ m.below.size [o] (by simp) _ rfl, below_alloc _ _, new_own _ _ _ _⟩
                go_simp; (try go_ints); refine hK _ ?_; clear hK K
                refine wpL_take 1 (OwnOp w4.heap.size ((s.take k) ++ [o])) (fun v w w' h hk => h.stay v w w' hk) rfl (by kernel_rfl) (by kernel_rfl) (fun xs m hf => ?_) (fun K hK => ?_)
                · rw [if_pos (by rfl)]
                  have h0 := factL hf 1 rfl (by kernel_rfl)
                  obtain ⟨a5, c5, e5, hi5⟩ := (factL hf 0 rfl (by kernel_rfl)).isR op_len
                  obtain ⟨v', w', hrun, q1, q2, q3⟩ := run_append_rec (m := [o]) cellsOp m.w 22 22 26 ii _ 72 Try.underlying22 hi hz hsz hby rfl h0 _ (src_rec op_len op_one Try.underlying22 hi5) (by rw [List.length_take]; unfold maxLen; (try simp) <;> (try omega)) (by rw [List.length_take]; (try simp) <;> (try omega)) m.below.size
                  exact relOp_append _ _ _ _ rfl rfl e5 hrun ⟨q1, q2, q3⟩
                go_simp; (try go_ints); refine hK _ ?_; clear hK K
                refine wpL_pure (fun K hK => ?_); go_simp; (try go_ints); refine hK _ ?_; clear hK K
                refine wpL_take 0 (OwnOp w4.heap.size (sortO (l.take (i + 1)))) (fun v w w' h hk => h.stay v w w' hk) rfl (by kernel_rfl) (by kernel_rfl) (fun xs m hf => ?_) (fun K hK => ?_)
                · rw [if_pos (by rfl)]
                  have h0 := factL hf 0 rfl (by kernel_rfl)
                  obtain ⟨v', w', hrun, q1, q2, q3⟩ := run_append_rec (m := ([] : List Opn)) cellsOp m.w 22 22 26 ii _ 72 Try.underlying22 hi hz hsz hby rfl h0 _ (src_at op_len op_one Try.underlying22 (HD.out.below m.below) (L := _) rfl) (by rw [List.length_append, List.length_take]; unfold maxLen; (try simp) <;> (try omega)) (by rw [List.length_append, List.length_take]; (try simp) <;> (try omega)) m.below.size
                  exact relOp_append _ _ _ _ rfl rfl (by first | rfl | (simp; rfl) | simp) hrun ⟨by rw [HS.out, HDK.out, List.append_cons]; exact q1, q2, q3⟩
                go_simp; (try go_ints); refine hK _ ?_; clear hK K
                refine wpL_take 0 (OwnOp w4.heap.size (sortO (l.take (i + 1)))) (fun v w w' h hk => h.stay v w w' hk) rfl (by kernel_rfl) (by kernel_rfl) (fun xs m hf => ?_) (fun K hK => ?_)
                · have h0 := factL hf 0 rfl (by kernel_rfl)
                  unfold relOp; go_simp; simp only [relUpon]
                  exact own_moved h0
                go_simp; (try go_ints); refine hK _ ?_; clear hK K
                refine wpL_nil (fun xs m hf => ?_)
                have hfin := hf _ (List.mem_cons_self)
                have b4 := step_b b3 m.below
                go_wp2_with fail
                go_roundw
                case rel => exact ⟨i + 1, by omega, by go_num, OwnR.mono hfin b3.size, b4⟩
                case measure => simp [RowKit.intOf]; omega
              | some ad0 =>
                obtain ⟨g2, hg⟩ : ∃ g, some ad0 = some ⟨g, 0, none⟩ := by
                  rcases HSh.out with h | h
                  · cases h
                  · exact h
                simp only [Option.some.injEq] at hg
                subst hg
                subst hke
                by_cases hcr : cr = s.length
                · have b2 := step_b b1 c4
                  have HR2 := Lib.hid (HR1.out.below c4)
                  have HO2 := Lib.hid (HO1.out.keep (c4.block _ hlt1))
                  have hlg3 := Nat.lt_of_lt_of_le hlt1 c4.size
                  clear HR1 HO1 c4
                  have q0 := below_alloc w3 (.cells #[] 26)
                  have qs := q0.size
                  have qb := b2.size
                  have SD := Lib.hid (show ∀ ad c, Src Try.prog 7 22 (.slice (some ad) 0 c) ([] : List Opn).length (cellsR cellsOp ([] : List Opn)) (w3.alloc (.cells #[] 26)) from fun ad c => src_at op_len op_one Try.underlying22 (isR_empty _ _ _ _ _) rfl)
                  go_wp2_with (at_builtin; refine wpList_append_rec cellsOp rfl _ _ 22 rfl w3.heap.size 26 ii _ 72 Try.underlying22 hi hz hsz hby rfl _ [] ([] : List Opn) rfl (ownR_empty cellsOp 7 26 w3 w3.heap.size (Nat.le_refl _)) _ rfl (SD.out _ _) (by decide) (by decide) qs ?_)
                  intro v4 w4 ho4 c5
                  have c5' := q0.trans c5
                  have b3 := step_b b2 c5'
                  have HR3 := Lib.hid (HR2.out.below c5')
                  have HO3 := Lib.hid (HO2.out.keep (c5'.block _ hlg3))
                  have hlg4 := Nat.lt_of_lt_of_le hlg3 c5'.size
                  have HD3 := Lib.hid (show OwnOp w3.heap.size ([] : List Opn) v4 w4 from ho4)
                  obtain ⟨ad, cd, rfl, hD⟩ := HD3.out.isR op_len
                  have HD := Lib.hid hD
                  clear ho4 c5 q0 qs SD HR2 HO2 hlg3 c5' hD HD3 b1 b2
                  go_wp2_with fail
                  refine wp_region_l (by kernel_rfl) (by kernel_rfl) ?_
                  refine wpL_make (OwnOp w4.heap.size []) (fun v w w' h hk => h.stay v w w' hk) (fun xs n _ => ?_) (fun K hK => ?_)
                  · unfold relOp; go_simp; simp only [relUpon]
                    exact ⟨ownR_empty cellsOp 7 _ _ _ n.below.size, below_alloc _ _, new_own _ _ _ _⟩
                  go_simp; (try go_ints); refine hK _ ?_; clear hK K
                  refine wpL_pure (fun K hK => ?_); go_simp; (try go_ints); refine hK _ ?_; clear hK K
                  refine wpL_pure (fun K hK => ?_); go_simp; (try go_ints); refine hK _ ?_; clear hK K
                  refine wpL_pure (fun K hK => ?_); go_simp; (try go_ints); refine hK _ ?_; clear hK K
                  refine wpL_take 0 (OwnOp w4.heap.size s) (fun v w w' h hk => h.stay v w w' hk) rfl (by kernel_rfl) (by kernel_rfl) (fun xs n hf => ?_) (fun K hK => ?_)
                  · rw [if_pos (by rfl)]
                    have h0 := factL hf 0 rfl (by kernel_rfl)
                    obtain ⟨v', w', hrun, q1, q2, q3⟩ := run_append_rec (m := s) cellsOp n.w 22 22 26 ii _ 72 Try.underlying22 hi hz hsz hby rfl h0 _ (src_at op_len op_one Try.underlying22 (HR3.out.below n.below) (L := _) rfl) (by unfold maxLen; (try simp) <;> (try omega)) (by (try simp) <;> (try omega)) n.below.size
                    exact relOp_append _ _ _ _ rfl rfl rfl hrun ⟨q1, q2, q3⟩
                  go_simp; (try go_ints); refine hK _ ?_; clear hK K
                  refine wpL_pure (fun K hK => ?_); go_simp; (try go_ints); refine hK _ ?_; clear hK K
                  refine wpL_pure (fun K hK => ?_); go_simp; (try go_ints); refine hK _ ?_; clear hK K
                  refine wpL_pure (fun K hK => ?_); go_simp; (try go_ints); refine hK _ ?_; clear hK K
                  refine wpL_use (.agg #[.int .i64 o.c, .int .i64 o.r, .int .i64 o.k, .int .i64 o.n, .int .i64 o.p, .string o.s, .string o.d]) (fun xs m _ => ?_) (fun K hK => ?_)
                  · obtain ⟨k0, k1, k2, k3, k4, k5, k6⟩ := atOp_of (HO3.out.keep (m.below.block _ hlg4))
                    go_simp
                  go_simp; (try go_ints); refine hK _ ?_; clear hK K
                  refine wpL_make (OwnOp w4.heap.size [o]) (fun v w w' h hk => h.stay v w w' hk) (fun xs m _ => ?_) (fun K hK => ?_)
                  · unfold relOp; go_simp; simp only [relUpon]
                    exact ⟨ownR_made op_len _ m.w _ m.below.size [o] (by simp) _ rfl, below_alloc _ _, new_own _ _ _ _⟩
                  go_simp; (try go_ints); refine hK _ ?_; clear hK K
                  refine wpL_take 1 (OwnOp w4.heap.size (s ++ [o])) (fun v w w' h hk => h.stay v w w' hk) rfl (by kernel_rfl) (by kernel_rfl) (fun xs m hf => ?_) (fun K hK => ?_)
                  · rw [if_pos (by rfl)]
                    have h0 := factL hf 1 rfl (by kernel_rfl)
                    obtain ⟨a5, c5, e5, hi5⟩ := (factL hf 0 rfl (by kernel_rfl)).isR op_len
                    obtain ⟨v', w', hrun, q1, q2, q3⟩ := run_append_rec (m := [o]) cellsOp m.w 22 22 26 ii _ 72 Try.underlying22 hi hz hsz hby rfl h0 _ (src_rec op_len op_one Try.underlying22 hi5) (by unfold maxLen; (try simp) <;> (try omega)) (by (try simp) <;> (try omega)) m.below.size
                    exact relOp_append _ _ _ _ rfl rfl e5 hrun ⟨q1, q2, q3⟩
                  go_simp; (try go_ints); refine hK _ ?_; clear hK K
                  refine wpL_pure (fun K hK => ?_); go_simp; (try go_ints); refine hK _ ?_; clear hK K
                  refine wpL_take 0 (OwnOp w4.heap.size (sortO (l.take (i + 1)))) (fun v w w' h hk => h.stay v w w' hk) rfl (by kernel_rfl) (by kernel_rfl) (fun xs m hf => ?_) (fun K hK => ?_)
                  · rw [if_pos (by rfl)]
                    have h0 := factL hf 0 rfl (by kernel_rfl)
                    obtain ⟨v', w', hrun, q1, q2, q3⟩ := run_append_rec (m := ([] : List Opn)) cellsOp m.w 22 22 26 ii _ 72 Try.underlying22 hi hz hsz hby rfl h0 _ (src_at op_len op_one Try.underlying22 (HD.out.below m.below) (L := _) rfl) (by rw [List.length_append]; unfold maxLen; (try simp) <;> (try omega)) (by rw [List.length_append]; (try simp) <;> (try omega)) m.below.size
                    exact relOp_append _ _ _ _ rfl rfl (by first | rfl | (simp; rfl) | simp) hrun ⟨by rw [HS.out, HDK.out, List.take_length, List.append_cons]; exact q1, q2, q3⟩
                  go_simp; (try go_ints); refine hK _ ?_; clear hK K
                  refine wpL_take 0 (OwnOp w4.heap.size (sortO (l.take (i + 1)))) (fun v w w' h hk => h.stay v w w' hk) rfl (by kernel_rfl) (by kernel_rfl) (fun xs m hf => ?_) (fun K hK => ?_)
                  · have h0 := factL hf 0 rfl (by kernel_rfl)
                    unfold relOp; go_simp; simp only [relUpon]
                    exact own_moved h0
                  go_simp; (try go_ints); refine hK _ ?_; clear hK K
                  refine wpL_nil (fun xs m hf => ?_)
                  have hfin := hf _ (List.mem_cons_self)
                  have b4 := step_b b3 m.below
                  go_wp2_with fail
                  go_roundw
                  case rel => exact ⟨i + 1, by omega, by go_num, OwnR.mono hfin b3.size, b4⟩
                  case measure => simp [RowKit.intOf]; omega
                · have b2 := step_b b1 c4
                  have HR2 := Lib.hid (HR1.out.below c4)
                  have HO2 := Lib.hid (HO1.out.keep (c4.block _ hlt1))
                  have hlg3 := Nat.lt_of_lt_of_le hlt1 c4.size
                  clear HR1 HO1 c4
                  have q0 := below_alloc w3 (.cells #[] 26)
                  have qs := q0.size
                  have qb := b2.size
                  have SD := Lib.hid (show ∀ ad c, Src Try.prog 7 22 (.slice (some ad) 0 c) ([] : List Opn).length (cellsR cellsOp ([] : List Opn)) (w3.alloc (.cells #[] 26)) from fun ad c => src_at op_len op_one Try.underlying22 (isR_empty _ _ _ _ _) rfl)
                  go_wp2_with (at_builtin; refine wpList_append_rec cellsOp rfl _ _ 22 rfl w3.heap.size 26 ii _ 72 Try.underlying22 hi hz hsz hby rfl _ [] ([] : List Opn) rfl (ownR_empty cellsOp 7 26 w3 w3.heap.size (Nat.le_refl _)) _ rfl (SD.out _ _) (by decide) (by decide) qs ?_)
                  intro v4 w4 ho4 c5
                  have c5' := q0.trans c5
                  have b3 := step_b b2 c5'
                  have HR3 := Lib.hid (HR2.out.below c5')
                  have HO3 := Lib.hid (HO2.out.keep (c5'.block _ hlg3))
                  have hlg4 := Nat.lt_of_lt_of_le hlg3 c5'.size
                  have HD3 := Lib.hid (show OwnOp w3.heap.size ([] : List Opn) v4 w4 from ho4)
                  obtain ⟨ad, cd, rfl, hD⟩ := HD3.out.isR op_len
                  have HD := Lib.hid hD
                  clear ho4 c5 q0 qs SD HR2 HO2 hlg3 c5' hD HD3 b1 b2
                  go_wp2_with fail
                  refine wp_region_l (by kernel_rfl) (by kernel_rfl) ?_
                  refine wpL_make (OwnOp w4.heap.size []) (fun v w w' h hk => h.stay v w w' hk) (fun xs n _ => ?_) (fun K hK => ?_)
                  · unfold relOp; go_simp; simp only [relUpon]
                    exact ⟨ownR_empty cellsOp 7 _ _ _ n.below.size, below_alloc _ _, new_own _ _ _ _⟩
                  go_simp; (try go_ints); refine hK _ ?_; clear hK K
                  refine wpL_pure (fun K hK => ?_); go_simp; (try go_ints); refine hK _ ?_; clear hK K
                  refine wpL_pure (fun K hK => ?_); go_simp; (try go_ints); refine hK _ ?_; clear hK K
                  refine wpL_pure (fun K hK => ?_); go_simp; (try go_ints); refine hK _ ?_; clear hK K
                  refine wpL_take 0 (OwnOp w4.heap.size s) (fun v w w' h hk => h.stay v w w' hk) rfl (by kernel_rfl) (by kernel_rfl) (fun xs n hf => ?_) (fun K hK => ?_)
                  · rw [if_pos (by rfl)]
                    have h0 := factL hf 0 rfl (by kernel_rfl)
                    obtain ⟨v', w', hrun, q1, q2, q3⟩ := run_append_rec (m := s) cellsOp n.w 22 22 26 ii _ 72 Try.underlying22 hi hz hsz hby rfl h0 _ (src_at op_len op_one Try.underlying22 (HR3.out.below n.below) (L := _) rfl) (by unfold maxLen; (try simp) <;> (try omega)) (by (try simp) <;> (try omega)) n.below.size
                    exact relOp_append _ _ _ _ rfl rfl rfl hrun ⟨q1, q2, q3⟩
                  go_simp; (try go_ints); refine hK _ ?_; clear hK K
                  refine wpL_pure (fun K hK => ?_); go_simp; (try go_ints); refine hK _ ?_; clear hK K
                  refine wpL_pure (fun K hK => ?_); go_simp; (try go_ints); refine hK _ ?_; clear hK K
                  refine wpL_pure (fun K hK => ?_); go_simp; (try go_ints); refine hK _ ?_; clear hK K
                  refine wpL_use (.agg #[.int .i64 o.c, .int .i64 o.r, .int .i64 o.k, .int .i64 o.n, .int .i64 o.p, .string o.s, .string o.d]) (fun xs m _ => ?_) (fun K hK => ?_)
                  · obtain ⟨k0, k1, k2, k3, k4, k5, k6⟩ := atOp_of (HO3.out.keep (m.below.block _ hlg4))
                    go_simp
                  go_simp; (try go_ints); refine hK _ ?_; clear hK K
                  refine wpL_make (OwnOp w4.heap.size [o]) (fun v w w' h hk => h.stay v w w' hk) (fun xs m _ => ?_) (fun K hK => ?_)
                  · unfold relOp; go_simp; simp only [relUpon]
                    exact ⟨ownR_made op_len _ m.w _ m.below.size [o] (by simp) _ rfl, below_alloc _ _, new_own _ _ _ _⟩
                  go_simp; (try go_ints); refine hK _ ?_; clear hK K
                  refine wpL_take 1 (OwnOp w4.heap.size (s ++ [o])) (fun v w w' h hk => h.stay v w w' hk) rfl (by kernel_rfl) (by kernel_rfl) (fun xs m hf => ?_) (fun K hK => ?_)
                  · rw [if_pos (by rfl)]
                    have h0 := factL hf 1 rfl (by kernel_rfl)
                    obtain ⟨a5, c5, e5, hi5⟩ := (factL hf 0 rfl (by kernel_rfl)).isR op_len
                    obtain ⟨v', w', hrun, q1, q2, q3⟩ := run_append_rec (m := [o]) cellsOp m.w 22 22 26 ii _ 72 Try.underlying22 hi hz hsz hby rfl h0 _ (src_rec op_len op_one Try.underlying22 hi5) (by unfold maxLen; (try simp) <;> (try omega)) (by (try simp) <;> (try omega)) m.below.size
                    exact relOp_append _ _ _ _ rfl rfl e5 hrun ⟨q1, q2, q3⟩
                  go_simp; (try go_ints); refine hK _ ?_; clear hK K
                  refine wpL_pure (fun K hK => ?_); go_simp; (try go_ints); refine hK _ ?_; clear hK K
                  refine wpL_take 0 (OwnOp w4.heap.size (sortO (l.take (i + 1)))) (fun v w w' h hk => h.stay v w w' hk) rfl (by kernel_rfl) (by kernel_rfl) (fun xs m hf => ?_) (fun K hK => ?_)
                  · rw [if_pos (by rfl)]
                    have h0 := factL hf 0 rfl (by kernel_rfl)
                    obtain ⟨v', w', hrun, q1, q2, q3⟩ := run_append_rec (m := ([] : List Opn)) cellsOp m.w 22 22 26 ii _ 72 Try.underlying22 hi hz hsz hby rfl h0 _ (src_at op_len op_one Try.underlying22 (HD.out.below m.below) (L := _) rfl) (by rw [List.length_append]; unfold maxLen; (try simp) <;> (try omega)) (by rw [List.length_append]; (try simp) <;> (try omega)) m.below.size
                    exact relOp_append _ _ _ _ rfl rfl (by first | rfl | (simp; rfl) | simp) hrun ⟨by rw [HS.out, HDK.out, List.take_length, List.append_cons]; exact q1, q2, q3⟩
                  go_simp; (try go_ints); refine hK _ ?_; clear hK K
                  refine wpL_take 0 (OwnOp w4.heap.size (sortO (l.take (i + 1)))) (fun v w w' h hk => h.stay v w w' hk) rfl (by kernel_rfl) (by kernel_rfl) (fun xs m hf => ?_) (fun K hK => ?_)
                  · have h0 := factL hf 0 rfl (by kernel_rfl)
                    unfold relOp; go_simp; simp only [relUpon]
                    exact own_moved h0
                  go_simp; (try go_ints); refine hK _ ?_; clear hK K
                  refine wpL_nil (fun xs m hf => ?_)
                  have hfin := hf _ (List.mem_cons_self)
                  have b4 := step_b b3 m.below
                  go_wp2_with fail
                  go_roundw
                  case rel => exact ⟨i + 1, by omega, by go_num, OwnR.mono hfin b3.size, b4⟩
                  case measure => simp [RowKit.intOf]; omega
    · have hie : i = l.length := by omega
      rw [hie, List.take_length] at hown
      have HO := Lib.hid hown
      clear hown
      go_wp2_with fail
      go_ret
      exact ⟨_, rfl, HO.out, ck⟩
end Go.Proofs.Ytnndanpahcdmaaa
