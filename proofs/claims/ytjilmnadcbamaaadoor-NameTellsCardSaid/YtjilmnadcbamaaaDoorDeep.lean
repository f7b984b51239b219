import Derived.Test.YtjilmnadcbamaaaDoorBack
import Derived.OwnWalk
import Derived.OpenShut
namespace Go.Proofs.YtjilmnadcbamaaaDoor
open Go.RowKit Go.Lib
theorem own_isL {w : World} {base : Nat} {e : TypeId} {v : Value} {n : Nat} {l : List ByteArray} (h : w.ownsRow base e 1 v n (l.map Value.string)) (hnl : l.length = n) : ∃ a c, v = .slice a l.length c ∧ IsL w a c l := by
  subst hnl
  have hc : ∀ g, v.ownBlock = some g → ∀ j u, (l.map Value.string)[j]? = some u → w.cell? ((⟨g, 0, none⟩ : Addr).add j) = some u := fun g hg => h.cells hg
  have hlt := h.lt
  obtain ⟨hn, ⟨rfl, h0⟩ | ⟨g, cap, cur, rfl, hb, hg, hcap, hm, hs, hx⟩⟩ := h
  · have : l = [] := List.eq_nil_of_length_eq_zero h0
    subst this
    exact ⟨none, 0, rfl, isL_nil _⟩
  · refine ⟨_, cap, rfl, hcap, fun _ => ⟨g, 0, rfl, (hlt g rfl).2, fun j x hj => ?_⟩⟩
    have := hc g rfl j (.string x) (by rw [List.getElem?_map, hj]; rfl)
    have e : (⟨g, 0, none⟩ : Addr).add j = ⟨g, 0 + j, none⟩ := by unfold Addr.add; split <;> simp_all
    rw [e] at this
    exact this
theorem info9 : (Tryd.prog.info? 9).map (fun i => (i.zero, i.size, i.bytes)) = some (some (.string ByteArray.empty), 1, 16) := by kernel_rfl
/-- A mark and the text, so many times. -/
def repB (s : List UInt8) : Nat → List UInt8
  | 0 => []
  | k + 1 => repB s k ++ 47 :: s
theorem repB_tail (s : List UInt8) : ∀ k, repB s k = joinTail [47] (List.replicate k s)
  | 0 => rfl
  | k + 1 => by
    rw [repB, repB_tail s k, List.replicate_succ']
    simp [joinTail]
theorem repB_join (s : List UInt8) (k : Nat) (hk : k ≠ 0) : repB s k = 47 :: join (List.replicate k s) [47] := by
  obtain ⟨j, rfl⟩ : ∃ j, k = j + 1 := ⟨k - 1, by omega⟩
  rw [repB_tail, List.replicate_succ, join_cons]
  simp [joinTail]
theorem rep_joinS (s ps : ByteArray) (k : Nat) (hk : k ≠ 0) (h : ps.data.toList = repB s.data.toList k) : joinS (List.replicate k s) = ps := by
  apply ByteArray.ext
  apply Array.ext'
  rw [joinS_data, h, repB_join _ _ hk, List.map_replicate]
theorem rep_names (s : ByteArray) (k : Nat) (hk : k ≠ 0) : namesB (List.replicate k s) = (decide (k ≤ 16) && chk s.data.toList) := by
  obtain ⟨j, rfl⟩ : ∃ j, k = j + 1 := ⟨k - 1, by omega⟩
  unfold namesB
  rw [List.length_replicate]
  congr 1
  rw [Bool.eq_iff_iff, List.all_eq_true]
  constructor
  · intro h; exact h s (by simp)
  · intro h x hx; rw [(List.mem_replicate.1 hx).2]; exact h
/-- A path of so many times nothing, split into names, is the root. -/
theorem rep_empty (s ps : ByteArray) (k : Nat) (hk : k ≠ 0) (h : ps.data.toList = repB s.data.toList k) (he : s.data.toList = []) (ys : List ByteArray) (hy : namesB ys = true) (hj : joinS ys = ps) : ps.data.toList = [47] := by
  have hd := joinS_data ys
  rw [hj, h, he] at hd
  rw [h, he]
  obtain ⟨j, rfl⟩ : ∃ j, k = j + 1 := ⟨k - 1, by omega⟩
  cases j with
  | zero => rfl
  | succ j =>
    exfalso
    have e : repB ([] : List UInt8) (j + 1 + 1) = 47 :: 47 :: repB [] j := by
      rw [repB_tail, repB_tail]; simp [joinTail, List.replicate_succ]
    rw [e] at hd
    simp only [List.cons.injEq, true_and] at hd
    by_cases hne : ys = []
    · subst hne; simp [join_nil] at hd
    · obtain ⟨b, t, hb, hj2⟩ := join_some hne hy
      rw [hj2] at hd
      simp only [List.cons.injEq] at hd
      exact hb hd.1.symm
theorem rep_more (s ps : ByteArray) (k : Nat) (hk : k ≠ 0) (h : ps.data.toList = repB s.data.toList k) (he : s.data.toList ≠ []) (ys : List ByteArray) (hj : joinS ys = ps) : 0 < ys.length := by
  cases ys with
  | cons => simp
  | nil =>
    exfalso
    have hd := joinS_data []
    rw [hj, h, repB_join _ _ hk] at hd
    obtain ⟨j, rfl⟩ : ∃ j, k = j + 1 := ⟨k - 1, by omega⟩
    rw [List.replicate_succ, join_cons] at hd
    simp [join_nil] at hd
    exact he (by simpa using hd.1)
set_option maxHeartbeats 4000000 in
theorem deep_any (s : ByteArray) (n : Nat) (w : World) (hm : HasMax w) (hs : s.size ≤ 1000) (hn : n ≤ 255) (hk : n % 40 ≠ 0) :
    Calls Tryd.prog 8 #[.string s, .int .u8 n] w fun e w' => e = .returned (.bool true) ∧ Below w.heap.size w w' := by
  have h0 := hm.pos
  have HM := Lib.hid hm
  clear hm
  have hk2 : ((n : Int) % 40 == 0) = false := beq_eq_false_iff_ne.2 (by omega)
  obtain ⟨i9, hi9, hz0, hz1, hz2⟩ := info_parts info9
  go_enter Tryd.func8, Tryd.ntmps8
  go_wp2_with fail
  refine (awake_any _ HM.out).mono ?_
  rintro e w1 ⟨rfl, b1⟩
  go_wp2_with fail
  go_loopw [7, 8, 9] (fun p v i w' => ∃ (k : Nat) (ps : ByteArray), k ≤ n % 40 ∧ i = .int .i64 k ∧ p = .string ps ∧ ps.size = k * (s.size + 1) ∧ ps.data.toList = repB s.data.toList k ∧ w'.ownsRow w.heap.size 9 1 v k ((List.replicate k s).map Value.string) ∧ Below w.heap.size w w') (fun _ _ i _ => n % 40 - (RowKit.intOf i).toNat)
  case atStart => exact ⟨0, ⟨#[]⟩, Nat.zero_le _, rfl, rfl, (Nat.zero_mul _).symm, rfl, World.ownsRow_nil _ _ _ _, b1⟩
  case round =>
    obtain ⟨k, ps, hk, rfl, rfl, hsz, hd, how, hb⟩ := hrel
    have HD := Lib.hid hd
    have HO := Lib.hid how
    have HZ := Lib.hid hsz
    have hle : ps.size ≤ 40 * 1001 := by
      rw [hsz]; exact Nat.mul_le_mul (by omega) (by omega)
    have hws := hb.size
    clear hd how hsz
    by_cases hkn : k < n % 40
    · go_wp2_with (at_builtin; refine wpList_append_own _ rfl _ _ 22 rfl w.heap.size 9 i9 (.string ByteArray.empty) 1 16 Tryd.underlying22 hi9 hz0 hz1 hz2 rfl (by decide) _ _ _ rfl (HO.out.alloc _) ⟨wr.heap.size, 0, none⟩ 1 1 [.string s] rfl rfl ?c1 ?c2 ?c3 ?c4 ?c5 ?_)
      case c1 =>
        intro j u hj
        match j, hj with
        | 0, hj => simp at hj; subst hj; simp [Addr.add]
      case c2 => intro u hu; simp at hu; subst hu; rfl
      case c3 => unfold maxLen; omega
      case c4 => omega
      case c5 => simp; omega
      intro v' w2 hown' hgrow _
      have b2 := ((hb.alloc hws _).grown hgrow (by simp; omega) (fun r hr => (HO.out.lt r hr).1))
      have HO2 := Lib.hid hown'
      clear hown' hgrow
      go_wp2
      go_roundw
      case rel => exact ⟨k + 1, ps ++ ⟨#[47]⟩ ++ s, by omega, by go_num, rfl, by rw [ByteArray.size_append, ByteArray.size_append, HZ.out, Nat.succ_mul]; show _ + 1 + _ = _; omega, by simp [ByteArray.data_append, HD.out, repB], by rw [List.replicate_succ', List.map_append, List.map_replicate]; exact HO2.out, b2⟩
      case measure => simp [RowKit.intOf]; omega
    · have ek : k = n % 40 := by omega
      have hk0 : k ≠ 0 := by omega
      obtain ⟨a, c, rfl, hl⟩ := own_isL HO.out List.length_replicate
      have HJ := Lib.hid (rep_joinS s ps k hk0 HD.out)
      have HN := Lib.hid (rep_names s k hk0)
      have hl0 : (List.replicate k s).length = k := List.length_replicate
      have HSZ := Lib.hid (show ∀ x ∈ List.replicate k s, x.size ≤ 1000000 from fun x hx => by rw [(List.mem_replicate.1 hx).2]; omega)
      have HL := Lib.hid hl
      have HK := Lib.hid hl0
      have hll : (List.replicate k s).length ≤ 40 := by omega
      have hkp : 0 < (List.replicate k s).length := by omega
      have HEK := Lib.hid ek
      have HD2 := Lib.hid HD.out
      have hps : ps.size ≤ 1000000 := by omega
      have HJ0 := Lib.hid (fun (ys : List ByteArray) (h1 : namesB ys = true) (h2 : joinS ys = ps) (h3 : s.data.toList = []) => rep_empty s ps k hk0 HD.out h3 ys h1 h2)
      have HJ1 := Lib.hid (fun (ys : List ByteArray) (h2 : joinS ys = ps) (h3 : s.data.toList ≠ []) => rep_more s ps k hk0 HD.out h3 ys h2)
      clear hl hl0 ek
      generalize hlr : List.replicate k s = l at *
      clear hlr
      cases hnb : namesB l with
      | true =>
        have HNB := Lib.hid hnb
        clear hnb
        have hc := HN.out.symm.trans HNB.out
        simp only [Bool.and_eq_true, decide_eq_true_eq] at hc
        have HC := Lib.hid hc.2
        have hk16 : (n : Int) % 40 ≤ 16 := by have := HEK.out; omega
        clear hc
        go_wp2_with fail
        refine (split_ok ps l _ (HM.out.below hb h0) hps HNB.out HJ.out).mono ?_
        rintro e w4 ⟨a4, c4, rfl, hl4, b4'⟩
        have b4 := hb.trans (b4'.mono hb.size)
        have HL4 := Lib.hid (HL.out.below b4')
        have HX4 := Lib.hid hl4
        clear hl4 b4'
        go_wp2_with fail
        refine (join_yes a c l _ HL4.out HSZ.out HNB.out).mono ?_
        rintro e w5 ⟨rfl, b5'⟩
        rw [HJ.out]
        have b5 := b4.trans (b5'.mono b4.size)
        have HL5 := Lib.hid (HL4.out.below b5')
        have HX5 := Lib.hid (HX4.out.below b5')
        clear b5' HL4 HX4
        go_wp2_with fail
        refine (check_any s _ (by omega)).mono ?_
        rintro e w6 ⟨rfl, b6'⟩
        rw [HC.out]
        have b6 := b5.trans (b6'.mono b5.size)
        have HL6 := Lib.hid (HL5.out.below b6')
        have HX6 := Lib.hid (HX5.out.below b6')
        clear b6' HL5 HX5
        go_wp2_with fail
        refine (from_below (same_any a4 a c4 c l l _ HX6.out HL6.out (by omega)) b6).mono ?_
        rintro e w7 ⟨rfl, b7⟩
        rw [sameB_refl]
        go_wp2
        go_ret
        exact ⟨rfl, b7⟩
      | false =>
        have HNB := Lib.hid hnb
        have hcc := HN.out.symm.trans hnb
        clear hnb
        obtain ⟨g, hg, hgk⟩ : ∃ g, chk s.data.toList = g ∧ (g = false ∨ (g = true ∧ 16 < (n : Int) % 40)) := by
          refine ⟨_, rfl, ?_⟩
          cases h : chk s.data.toList with
          | false => exact .inl rfl
          | true =>
            rw [h, Bool.and_true, decide_eq_false_iff_not] at hcc
            have := HEK.out
            exact .inr ⟨rfl, by omega⟩
        have HC := Lib.hid hg
        clear hcc hg
        obtain ⟨ys, hy⟩ := half_or ps
        cases ys with
        | none =>
          have HY := Lib.hid (show ∀ l, namesB l = true → joinS l ≠ ps from hy)
          clear hy
          rcases hgk with rfl | ⟨rfl, hgk⟩
          all_goals
            go_wp2_with fail
            refine (split_bad ps _ (HM.out.below hb h0) hps HY.out).mono ?_
            rintro e w4 ⟨rfl, b4'⟩
            have b4 := hb.trans (b4'.mono hb.size)
            have HL4 := Lib.hid (HL.out.below b4')
            clear b4'
            go_wp2_with fail
            refine (from_below (join_no a c l _ HL4.out HSZ.out HNB.out) b4).mono ?_
            rintro e w5 ⟨rfl, b5⟩
            go_wp2_with fail
            refine (from_below (check_any s _ (by omega)) b5).mono ?_
            rintro e w6 ⟨rfl, b6⟩
            rw [HC.out]
            go_wp2
            all_goals first | (go_ret; exact ⟨rfl, b6⟩) | (exfalso; rename_i hx; rw [decide_eq_false (by omega)] at hx; cases hx)
        | some ys =>
          obtain ⟨h1, h2⟩ := hy
          by_cases he : s.data.toList = []
          · have HE := Lib.hid (HJ0.out ys h1 h2 he)
            have hsE : s.toList.isEmpty = true := by rw [ByteArray.toList_eq, he]; rfl
            have hpE : (ps.toList == [47]) = true := by rw [ByteArray.toList_eq, HE.out]; rfl
            have HY := Lib.hid h1
            have HP := Lib.hid h2
            clear h1 h2 he
            rcases hgk with rfl | ⟨rfl, hgk⟩
            all_goals
              go_wp2_with fail
              refine (split_ok ps ys _ (HM.out.below hb h0) hps HY.out HP.out).mono ?_
              rintro e w4 ⟨a4, c4, rfl, _, b4'⟩
              have b4 := hb.trans (b4'.mono hb.size)
              have HL4 := Lib.hid (HL.out.below b4')
              clear b4'
              go_wp2_with fail
              refine (from_below (join_no a c l _ HL4.out HSZ.out HNB.out) b4).mono ?_
              rintro e w5 ⟨rfl, b5⟩
              go_wp2_with fail
              refine (from_below (check_any s _ (by omega)) b5).mono ?_
              rintro e w6 ⟨rfl, b6⟩
              rw [HC.out]
              go_wp2
              all_goals first | (go_ret; exact ⟨rfl, b6⟩) | (exfalso; rename_i hx; rw [decide_eq_false (by omega)] at hx; cases hx)
          · have hyl := HJ1.out ys h2 he
            have hsE : s.toList.isEmpty = false := by rw [ByteArray.toList_eq]; cases hq : s.data.toList with | nil => exact absurd hq he | cons => rfl
            have HY := Lib.hid h1
            have HP := Lib.hid h2
            clear h1 h2 he
            rcases hgk with rfl | ⟨rfl, hgk⟩
            all_goals
              go_wp2_with fail
              refine (split_ok ps ys _ (HM.out.below hb h0) hps HY.out HP.out).mono ?_
              rintro e w4 ⟨a4, c4, rfl, _, b4'⟩
              have b4 := hb.trans (b4'.mono hb.size)
              have HL4 := Lib.hid (HL.out.below b4')
              clear b4'
              go_wp2_with fail
              refine (from_below (join_no a c l _ HL4.out HSZ.out HNB.out) b4).mono ?_
              rintro e w5 ⟨rfl, b5⟩
              go_wp2_with fail
              refine (from_below (check_any s _ (by omega)) b5).mono ?_
              rintro e w6 ⟨rfl, b6⟩
              rw [HC.out]
              go_wp2
              all_goals first | (go_ret; exact ⟨rfl, b6⟩) | (exfalso; rename_i hx; rw [decide_eq_false (by omega)] at hx; cases hx)
set_option maxHeartbeats 2000000 in
theorem deep_off (s : ByteArray) (n : Nat) (w : World) (hm : HasMax w) (hs : s.size ≤ maxLen) (hn : n ≤ 255) (h : ¬ (s.size ≤ 1000 ∧ n % 40 ≠ 0)) :
    Calls Tryd.prog 8 #[.string s, .int .u8 n] w fun e w' => e = .returned (.bool true) ∧ Below w.heap.size w w' := by
  unfold maxLen at hs
  have HM := Lib.hid hm
  clear hm
  by_cases h1 : s.size ≤ 1000
  · have hk : ((n : Int) % 40 == 0) = true := beq_iff_eq.2 (by omega)
    go_enter Tryd.func8, Tryd.ntmps8
    go_wp2_with fail
    refine (awake_any _ HM.out).mono ?_
    rintro e w1 ⟨rfl, b1⟩
    go_wp2
    go_ret
    exact ⟨rfl, b1⟩
  · go_enter Tryd.func8, Tryd.ntmps8
    go_wp2_with fail
    refine (awake_any _ HM.out).mono ?_
    rintro e w1 ⟨rfl, b1⟩
    go_wp2
    go_ret
    exact ⟨rfl, b1⟩
theorem deep_walk (s : ByteArray) (x : Int) (w : World) (hm : HasMax w) (hs : s.size ≤ maxLen) (hx : (Lit.int .u8 x).wf = true) :
    Calls Tryd.prog 8 #[.string s, .int .u8 x] w fun e w' => e = .returned (.bool true) ∧ Below w.heap.size w w' := by
  have hb := bounds_u8 hx
  obtain ⟨n, rfl⟩ := Int.eq_ofNat_of_zero_le hb.1
  by_cases h : s.size ≤ 1000 ∧ n % 40 ≠ 0
  · exact deep_any s n w hm h.1 (by omega) h.2
  · exact deep_off s n w hm hs (by omega) h
end Go.Proofs.YtjilmnadcbamaaaDoor
