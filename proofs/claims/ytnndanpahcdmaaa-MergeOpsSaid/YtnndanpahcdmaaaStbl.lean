/-
  The library's stable sort of operations.
-/
import Derived.Test.YtnndanpahcdmaaaSymG
namespace Go.Proofs.Ytnndanpahcdmaaa
open Go.RowKit Go.Lib
theorem tsym_all : ∀ N : Nat, SymAsk N
  | 0 => fun B g n c a m b P X Y Q w hN h ha hm hb hx hy _ _ _ => by omega
  | N + 1 => fun B g n c a m b P X Y Q w hN h ha hm hb hx hy hX hY hn => by
    by_cases h1 : X.length = 1
    · obtain ⟨x, rfl⟩ : ∃ x, X = [x] := List.length_eq_one_iff.1 h1
      have := tsym_left B g n c a b P x Y Q w (by simpa using h) ha (by simp at hm; omega) hY hn
      rw [show ((a : Int) + 1) = (m : Int) by simp at hm; omega] at this
      exact this
    · by_cases h2 : Y.length = 1
      · obtain ⟨y, rfl⟩ : ∃ y, Y = [y] := List.length_eq_one_iff.1 h2
        have := tsym_right B g n c a m P X y Q w (by simpa using h) ha hm (by omega) hX hn
        rw [show ((m : Int) + 1) = (b : Int) by simp at hb; omega] at this
        exact this
      · exact tsym_gen N (tsym_all N) B g n c a m b P X Y Q w hN h ha hm hb (by omega) (by omega) hX hY hn
def seg (l : List Opn) (s k : Nat) : List Opn := (l.drop s).take k
/-- Each stretch of k, one behind the other, is sorted; the others are as they were. -/
def Blk (k : Nat) (m l : List Opn) : Prop := l.length = m.length ∧ ∀ j, Fst (seg m (j * k) k) (seg l (j * k) k)
theorem seg_cat (P S Q : List Opn) (s k : Nat) (h : P.length = s) (hk : S.length = k) : seg (P ++ (S ++ Q)) s k = S := by
  unfold seg
  rw [List.drop_left' h, List.take_left' hk]
theorem seg_len (l : List Opn) (s k : Nat) : (seg l s k).length = min k (l.length - s) := by unfold seg; rw [List.length_take, List.length_drop]
theorem cat_seg (l : List Opn) (s k : Nat) : l = l.take s ++ (seg l s k ++ l.drop (s + k)) := by
  unfold seg
  rw [← List.drop_drop, List.take_append_drop, List.take_append_drop]
theorem seg_two (l : List Opn) (s k : Nat) : seg l s (2 * k) = seg l s k ++ seg l (s + k) k := by
  unfold seg
  rw [← List.drop_drop, show 2 * k = k + k by omega, List.take_add]
/-- The first stretches are done, what is behind is as it was. -/
def Upto (k a : Nat) (m o l : List Opn) : Prop := l.length = m.length ∧ (∀ j, (j + 1) * k ≤ a → Fst (seg m (j * k) k) (seg l (j * k) k)) ∧ l.drop a = o.drop a
theorem upto_zero {k : Nat} {m o : List Opn} (hk : 0 < k) (h : o.length = m.length) : Upto k 0 m o o := ⟨h, fun j hj => by
  have := Nat.le_mul_of_pos_left k (show 0 < j + 1 by omega); omega, rfl⟩
/-- The next stretch is done. -/
theorem upto_next {k a b : Nat} {m o l S' : List Opn} (hk : 0 < k) (q : Nat) (ha : a = q * k) (hb : a + k = b ∨ (b = m.length ∧ b ≤ a + k)) (hab : a ≤ b) (hbm : b ≤ m.length) (h : Upto k a m o l) (hS : Fst (seg m a k) S') (hl : S'.length = b - a) :
    Upto k b m o (l.take a ++ (S' ++ l.drop b)) := by
  obtain ⟨h1, h2, h3⟩ := h
  have la : (l.take a).length = a := by rw [List.length_take]; omega
  refine ⟨by simp only [List.length_append, List.length_take, List.length_drop]; omega, fun j hj => ?_, ?_⟩
  · by_cases hjq : (j + 1) * k ≤ a
    · have e : seg (l.take a ++ (S' ++ l.drop b)) (j * k) k = seg l (j * k) k := by
        unfold seg
        rw [List.drop_append_of_le_length (by rw [la, Nat.add_mul] at *; omega), List.take_append_of_le_length (by rw [List.length_drop, la]; rw [Nat.add_mul] at hjq; omega), List.drop_take, List.take_take]
        congr 1
        rw [Nat.add_mul] at hjq; omega
      rw [e]; exact h2 j hjq
    · have hjeq : j = q := by
        have h4 : q ≤ j := by
          rcases Nat.lt_or_ge j q with h5 | h5
          · have := Nat.mul_le_mul_right k (show j + 1 ≤ q by omega)
            omega
          · exact h5
        have h5 : (j + 1) * k ≤ (q + 1) * k := by rw [Nat.add_mul q 1, Nat.one_mul, ← ha]; omega
        have := Nat.le_of_mul_le_mul_right h5 hk
        omega
      subst hjeq
      rw [← ha]
      have hbk : b = a + k := by
        rw [Nat.add_mul, Nat.one_mul, ← ha] at hj; omega
      rw [seg_cat _ _ _ _ _ la (by omega)]
      exact hS
  · have e : l.drop b = o.drop b := by
      have := congrArg (List.drop (b - a)) h3
      rw [List.drop_drop, List.drop_drop, show a + (b - a) = b by omega] at this
      exact this
    rw [← List.append_assoc, List.drop_left' (by rw [List.length_append, la, hl]; omega), e]
theorem fst_nil : Fst [] [] := fst_short (by simp)
/-- The last stretch is done, too. -/
theorem blk_done {k a : Nat} {m o l S' : List Opn} (hk : 0 < k) (q : Nat) (ha : a = q * k) (hn : m.length ≤ a + k) (ham : a ≤ m.length) (h : Upto k a m o l) (hS : Fst (seg m a k) S') : Blk k m (l.take a ++ S') := by
  have la : (l.take a).length = a := by rw [List.length_take, h.1]; omega
  have lS : S'.length = m.length - a := by rw [hS.2.1, seg_len]; omega
  refine ⟨by rw [List.length_append, la, lS]; omega, fun j => ?_⟩
  rcases Nat.lt_trichotomy j q with e | e | e
  · have h4 : (j + 1) * k ≤ a := by rw [ha]; exact Nat.mul_le_mul_right k e
    have h5 := h4
    rw [Nat.add_mul, Nat.one_mul] at h5
    have e : seg (l.take a ++ S') (j * k) k = seg l (j * k) k := by
      unfold seg
      rw [List.drop_append_of_le_length (by omega), List.take_append_of_le_length (by rw [List.length_drop, la]; omega), List.drop_take, List.take_take]
      congr 1
      omega
    rw [e]; exact h.2.1 j h4
  · subst e
    rw [← ha]
    have : seg (l.take a ++ S') a k = S' := by
      unfold seg
      rw [List.drop_left' la, List.take_of_length_le (by omega)]
    rw [this]; exact hS
  · have h4 : (q + 1) * k ≤ j * k := Nat.mul_le_mul_right k e
    rw [Nat.add_mul, Nat.one_mul, ← ha] at h4
    have e1 : seg m (j * k) k = [] := List.eq_nil_of_length_eq_zero (by rw [seg_len]; omega)
    have e2 : seg (l.take a ++ S') (j * k) k = [] := List.eq_nil_of_length_eq_zero (by rw [seg_len, List.length_append, la, lS]; omega)
    rw [e1, e2]; exact fst_nil
theorem upto_seg {k a s t : Nat} {m o l : List Opn} (h : Upto k a m o l) (hs : a ≤ s) : seg l s t = seg o s t := by
  unfold seg
  have := congrArg (List.drop (s - a)) h.2.2
  rw [List.drop_drop, List.drop_drop, show a + (s - a) = s by omega] at this
  rw [this]
/-- Two stretches that are sorted make one of twice the size. -/
theorem two_fst {k q : Nat} {m o : List Opn} (h : Blk k m o) : Fst (seg m (q * (2 * k)) (2 * k)) (mrg (seg o (q * (2 * k)) k) (seg o (q * (2 * k) + k) k)) := by
  have e1 : q * (2 * k) = (2 * q) * k := by rw [← Nat.mul_assoc, Nat.mul_comm q 2]
  have e2 : q * (2 * k) + k = (2 * q + 1) * k := by rw [Nat.add_mul (2 * q), Nat.one_mul, e1]
  rw [seg_two]
  have h1 := h.2 (2 * q)
  have h2 := h.2 (2 * q + 1)
  rw [← e1] at h1
  rw [← e2] at h2
  exact fst_mrg h1 h2
theorem two_wk {k q : Nat} {m o : List Opn} (h : Blk k m o) : Wk (seg o (q * (2 * k)) k) ∧ Wk (seg o (q * (2 * k) + k) k) := by
  have e1 : q * (2 * k) = (2 * q) * k := by rw [← Nat.mul_assoc, Nat.mul_comm q 2]
  have e2 : q * (2 * k) + k = (2 * q + 1) * k := by rw [Nat.add_mul (2 * q), Nat.one_mul, e1]
  have h1 := h.2 (2 * q)
  have h2 := h.2 (2 * q + 1)
  rw [← e1] at h1
  rw [← e2] at h2
  exact ⟨h1.1, h2.1⟩
def StblPost (B g n c : Nat) (M : List Opn) (w : World) (e : Ending) (w' : World) : Prop := ∃ l, e = .returned (.tuple #[]) ∧ Fst M l ∧ OwnOp B l (.slice (some ⟨g, 0, none⟩) n c) w' ∧ Below B w w'
set_option maxRecDepth 100000 in
set_option maxHeartbeats 8000000 in
theorem tstable_any (B g n c : Nat) (M : List Opn) (w : World) (h : OwnOp B M (.slice (some ⟨g, 0, none⟩) n c) w) (hn : n ≤ 50000) :
    Calls Try.prog 77 #[.slice (some ⟨g, 0, none⟩) n c, .int .i64 n, CmpF] w (StblPost B g n c M w) := by
  have HMl := Lib.hid h.len
  have H0 := Lib.hid h
  clear h
  go_enter Try.func77, Try.ntmps77
  go_wp2_with fail
  go_loopw [7, 8] (fun u v w' => ∃ (q a b : Nat) (l : List Opn), u = .int .i64 a ∧ v = .int .i64 b ∧ a = q * 20 ∧ b ≤ a + 20 ∧ a + 20 ≤ b ∧ a ≤ n ∧ Upto 20 a M M l ∧ OwnOp B l (.slice (some ⟨g, 0, none⟩) n c) w' ∧ Below B w w') (fun u _ _ => n + 20 - (RowKit.intOf u).toNat)
  case atStart => exact ⟨0, 0, 20, M, rfl, rfl, rfl, Nat.le_refl _, Nat.le_refl _, Nat.zero_le _, upto_zero (by omega) rfl, H0.out, Below.refl _ _⟩
  case round =>
    obtain ⟨q, a, b, l, rfl, rfl, haq, hb, hb', han, hup, hr, ck⟩ := hrel
    have HQ := Lib.hid haq
    have HU := Lib.hid hup
    have HR := Lib.hid hr
    clear haq hup hr
    by_cases hbn : b ≤ n
    · have lS : (seg l a 20).length = 20 := by rw [seg_len, HU.out.1, ← HMl.out]; omega
      have hC := tins_any B g n c a b (l.take a) (seg l a 20) (l.drop b) wr (by rw [show b = a + 20 by omega, ← cat_seg]; exact HR.out) (by rw [List.length_take, HU.out.1, ← HMl.out]; omega) (by rw [lS]; omega) (by omega)
      have HC := Lib.hid hC
      have LS := Lib.hid lS
      have g1 : (b : Int) ≤ (n : Int) := by omega
      clear hC lS
      go_wp2_with fail
      refine (HC.out).mono ?_
      rintro e w1 ⟨S', rfl, hf, hown, c1⟩
      have hf2 := hf
      rw [upto_seg HU.out (Nat.le_refl a)] at hf2
      have HU2 := Lib.hid (upto_next (b := b) (by omega) q HQ.out (.inl (by omega)) (by omega) (by rw [← HMl.out]; exact hbn) HU.out hf2 (by rw [hf.2.1, LS.out]; omega))
      have HO := Lib.hid hown
      have HB := Lib.hid (ck.trans c1)
      clear hf hf2 hown c1 HC
      go_wp2_with fail
      go_roundw
      case rel => exact ⟨q + 1, b, b + 20, _, rfl, by go_num, by have := HQ.out; omega, Nat.le_refl _, Nat.le_refl _, hbn, HU2.out, HO.out, HB.out⟩
      case measure => simp [RowKit.intOf]; omega
    · have lS : (seg l a 20).length = n - a := by rw [seg_len, HU.out.1, ← HMl.out]; omega
      have e0 : l.drop (a + 20) = [] := List.drop_of_length_le (by rw [HU.out.1, ← HMl.out]; omega)
      have hC := tins_any B g n c a n (l.take a) (seg l a 20) [] wr (by rw [← e0, ← cat_seg]; exact HR.out) (by rw [List.length_take, HU.out.1, ← HMl.out]; omega) (by rw [lS]; omega) (by omega)
      have HC := Lib.hid hC
      have LS := Lib.hid lS
      have g1 : ¬ (b : Int) ≤ (n : Int) := by omega
      clear hC lS e0
      go_wp2_with fail
      refine (HC.out).mono ?_
      rintro e w1 ⟨S', rfl, hf, hown, c1⟩
      rw [upto_seg HU.out (Nat.le_refl a)] at hf
      rw [List.append_nil] at hown
      have HBlk := Lib.hid (blk_done (by omega) q HQ.out (by rw [← HMl.out]; omega) (by rw [← HMl.out]; exact han) HU.out hf)
      have HO := Lib.hid hown
      have HB := Lib.hid (ck.trans c1)
      clear hf hown c1 HC
      go_wp2_with fail
      go_loopw [6] (fun u w' => ∃ (k : Nat) (o : List Opn), u = .int .i64 k ∧ 0 < k ∧ k ≤ 20 + 2 * n ∧ Blk k M o ∧ OwnOp B o (.slice (some ⟨g, 0, none⟩) n c) w' ∧ Below B w w') (fun u _ => n - (RowKit.intOf u).toNat)
      case atStart => exact ⟨20, _, rfl, by omega, by omega, HBlk.out, HO.out, HB.out⟩
      case round =>
        obtain ⟨k, o, rfl, hk0, hkn, hblk, hr3, ck3⟩ := hrel
        have HBk := Lib.hid hblk
        have HR3 := Lib.hid hr3
        clear hblk hr3 HBlk HO HB
        by_cases hkl : k < n
        · have g2 : (k : Int) < (n : Int) := by omega
          go_wp2_with fail
          go_loopw [7, 8] (fun u v w' => ∃ (q2 a2 b2 : Nat) (l2 : List Opn), u = .int .i64 a2 ∧ v = .int .i64 b2 ∧ a2 = q2 * (2 * k) ∧ b2 ≤ a2 + 2 * k ∧ a2 + 2 * k ≤ b2 ∧ a2 ≤ n ∧ Upto (2 * k) a2 M o l2 ∧ OwnOp B l2 (.slice (some ⟨g, 0, none⟩) n c) w' ∧ Below B w w') (fun u _ _ => n + 2 * k - (RowKit.intOf u).toNat)
          case atStart => exact ⟨0, 0, 2 * k, o, rfl, by go_num, by simp, by omega, by omega, Nat.zero_le _, upto_zero (by omega) HBk.out.1, HR3.out, ck3⟩
          case round =>
            obtain ⟨q2, a2, b2, l2, rfl, rfl, haq2, hb2, hb2', han2, hup2, hr4, ck4⟩ := hrel
            have HQ2 := Lib.hid haq2
            have HU2 := Lib.hid hup2
            have HR4 := Lib.hid hr4
            clear haq2 hup2 hr4
            have HF2 := Lib.hid (show Fst (seg M a2 (2 * k)) (mrg (seg o a2 k) (seg o (a2 + k) k)) by rw [HQ2.out]; exact two_fst HBk.out)
            have HW2 := Lib.hid (show Wk (seg o a2 k) ∧ Wk (seg o (a2 + k) k) by rw [HQ2.out]; exact two_wk HBk.out)
            have HL2 := Lib.hid (show l2.length = n by rw [HU2.out.1, ← HMl.out])
            have HOl := Lib.hid (show o.length = n by rw [HBk.out.1, ← HMl.out])
            by_cases hbn2 : b2 ≤ n
            · as_aux_lemma =>
                have l1 : (seg o a2 k).length = k := by rw [seg_len, HOl.out]; omega
                have l3 : (seg o (a2 + k) k).length = k := by rw [seg_len, HOl.out]; omega
                have hcat : l2.take a2 ++ (seg o a2 k ++ (seg o (a2 + k) k ++ l2.drop b2)) = l2 := by
                  rw [← upto_seg HU2.out (Nat.le_refl a2), ← upto_seg HU2.out (show a2 ≤ a2 + k by omega), ← List.append_assoc (seg l2 a2 k), ← seg_two, show b2 = a2 + 2 * k by omega]
                  exact (cat_seg l2 a2 (2 * k)).symm
                have hC := tsym_all (2 * k) B g n c a2 (a2 + k) b2 (l2.take a2) (seg o a2 k) (seg o (a2 + k) k) (l2.drop b2) wr (by rw [l1, l3]; omega) (by rw [hcat]; exact HR4.out) (by rw [List.length_take, HL2.out]; omega) (by rw [l1]) (by rw [l3]; omega) (by omega) (by omega) HW2.out.1 HW2.out.2 (by omega)
                rw [show ((a2 + k : Nat) : Int) = (a2 : Int) + (k : Int) by omega] at hC
                have HC := Lib.hid hC
                have HU3 := Lib.hid (upto_next (b := b2) (by omega) q2 HQ2.out (.inl (by omega)) (by omega) (by rw [← HMl.out]; exact hbn2) HU2.out HF2.out (by rw [mrg_len, l1, l3]; omega))
                have g3 : (b2 : Int) ≤ (n : Int) := by omega
                clear hC l1 l3 hcat
                go_wp2_with fail
                refine (HC.out).mono ?_
                rintro e w2 ⟨rfl, hown, c2⟩
                have HO := Lib.hid hown
                have HB := Lib.hid (ck4.trans c2)
                clear hown c2 HC
                go_wp2_with fail
                go_roundw
                case rel => exact ⟨q2 + 1, b2, b2 + 2 * k, _, rfl, by go_num, by have := HQ2.out; rw [Nat.add_mul, Nat.one_mul]; omega, Nat.le_refl _, Nat.le_refl _, hbn2, HU3.out, HO.out, HB.out⟩
                case measure => simp [RowKit.intOf]; omega
            · have g3 : ¬ (b2 : Int) ≤ (n : Int) := by omega
              have hd0 : l2.drop b2 = [] := List.drop_of_length_le (by rw [HL2.out]; omega)
              by_cases hm : a2 + k < n
              · as_aux_lemma =>
                  have l1 : (seg o a2 k).length = k := by rw [seg_len, HOl.out]; omega
                  have l3 : (seg o (a2 + k) k).length = n - (a2 + k) := by rw [seg_len, HOl.out]; omega
                  have hcat : l2.take a2 ++ (seg o a2 k ++ (seg o (a2 + k) k ++ [])) = l2 := by
                    rw [← hd0, ← upto_seg HU2.out (Nat.le_refl a2), ← upto_seg HU2.out (show a2 ≤ a2 + k by omega), ← List.append_assoc (seg l2 a2 k), ← seg_two, show b2 = a2 + 2 * k by omega]
                    exact (cat_seg l2 a2 (2 * k)).symm
                  have hC := tsym_all (2 * k) B g n c a2 (a2 + k) n (l2.take a2) (seg o a2 k) (seg o (a2 + k) k) [] wr (by rw [l1, l3]; omega) (by rw [hcat]; exact HR4.out) (by rw [List.length_take, HL2.out]; omega) (by rw [l1]) (by rw [l3]; omega) (by omega) (by omega) HW2.out.1 HW2.out.2 (by omega)
                  rw [show ((a2 + k : Nat) : Int) = (a2 : Int) + (k : Int) by omega, List.append_nil] at hC
                  have HC := Lib.hid hC
                  have HBk2 := Lib.hid (blk_done (by omega) q2 HQ2.out (by rw [← HMl.out]; omega) (by rw [← HMl.out]; exact han2) HU2.out HF2.out)
                  have g4 : (a2 : Int) + (k : Int) < (n : Int) := by omega
                  clear hC l1 l3 hcat hd0
                  go_wp2_with fail
                  refine (HC.out).mono ?_
                  rintro e w2 ⟨rfl, hown, c2⟩
                  have HO := Lib.hid hown
                  have HB := Lib.hid (ck4.trans c2)
                  clear hown c2 HC
                  go_wp2_with fail
                  go_roundw
                  case rel => exact ⟨2 * k, _, by go_num, by omega, by omega, HBk2.out, HO.out, HB.out⟩
                  case measure => simp [RowKit.intOf]; omega
              · as_aux_lemma =>
                  have e0 : seg o (a2 + k) k = [] := List.eq_nil_of_length_eq_zero (by rw [seg_len, HOl.out]; omega)
                  have HBk2 := Lib.hid (show Blk (2 * k) M l2 by
                    have := blk_done (by omega) q2 HQ2.out (by rw [← HMl.out]; omega) (by rw [← HMl.out]; exact han2) HU2.out HF2.out
                    rw [e0, mrg_nil] at this
                    have e1 : l2.take a2 ++ seg o a2 k = l2 := by
                      rw [← upto_seg HU2.out (Nat.le_refl a2)]
                      unfold seg
                      have ht : (l2.drop a2).take k = l2.drop a2 := List.take_of_length_le (by rw [List.length_drop, HL2.out]; omega)
                      rw [ht, List.take_append_drop]
                    rwa [e1] at this)
                  have g4 : ¬ (a2 : Int) + (k : Int) < (n : Int) := by omega
                  clear e0 hd0
                  go_wp2_with fail
                  go_roundw
                  case rel => exact ⟨2 * k, l2, by go_num, by omega, by omega, HBk2.out, HR4.out, ck4⟩
                  case measure => simp [RowKit.intOf]; omega
        · have g2 : ¬ (k : Int) < (n : Int) := by omega
          have HFst := Lib.hid (show Fst M o by
            have := HBk.out.2 0
            rw [Nat.zero_mul] at this
            unfold seg at this
            rw [List.drop_zero, List.drop_zero, List.take_of_length_le (by rw [← HMl.out]; omega), List.take_of_length_le (by rw [HBk.out.1, ← HMl.out]; omega)] at this
            exact this)
          go_wp2_with fail
          go_end0
          exact ⟨o, rfl, HFst.out, HR3.out, ck3⟩
end Go.Proofs.Ytnndanpahcdmaaa
