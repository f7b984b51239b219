/-
  The landed package op: Read.
-/
import Derived.Test.YtjhllkjcaodcgaaOTk
import Derived.Test.YtjhllkjcaodcgaaRRead
namespace Go.Proofs.Ytjhllkjcaodcgaa
open Go.RowKit Go.Lib
set_option maxRecDepth 100000 in
set_option maxHeartbeats 4000000 in
theorem oread_any (b : ByteArray) (w : World) (hb : b.size ≤ 1000000) : Calls Try.prog 17 #[.string b] w fun e w' => RdPost b.data.toList w e w' := by
  obtain ⟨i25, hi, hz, hsz, hby⟩ := info_parts infoO
  have hbl : b.data.toList.length = b.size := by simp
  go_enter Try.func17, Try.ntmps17
  go_wp2
  go_loopw [4, 5] (fun v s w' => ∃ (l : List Opn) (r : List UInt8), allO l = true ∧ l.length ≤ (opsB l).length ∧ b.data.toList = opsB l ++ r ∧ s = .int .i64 ((opsB l).length : Nat) ∧ w'.ownsRow w.heap.size 25 7 v l.length (opCells l) ∧ Below w.heap.size w w') (fun _ s _ => b.size - (RowKit.intOf s).toNat)
  case atStart => exact ⟨[], b.data.toList, rfl, Nat.le_refl _, rfl, rfl, World.ownsRow_nil _ _ _ _, Below.refl _ _⟩
  case round =>
    obtain ⟨l, r, hl, hlr, hbr, rfl, how, ck⟩ := hrel
    have HB := Lib.hid hbr
    have HL := Lib.hid hl
    have HO := Lib.hid how
    have HR := Lib.hid hlr
    have hws := ck.size
    have hsum : (opsB l).length + r.length = b.size := by
      have := congrArg List.length hbr
      rw [List.length_append] at this
      omega
    obtain ⟨A, hA⟩ : ∃ A, (opsB l).length = A := ⟨_, rfl⟩
    have he : b.extract A b.size = ofL r := text_eq (by
      rw [extract_data, data_ofL, hbr, ← hA, List.take_of_length_le (by rw [← hbr]; simp), List.drop_append_of_le_length (Nat.le_refl _), List.drop_length, List.nil_append])
    rw [hA] at hsum hlr ⊢
    have HA := Lib.hid hA
    obtain ⟨rr, hrr⟩ : ∃ x, ofL r = x := ⟨_, rfl⟩
    rw [hrr] at he
    have HE := Lib.hid he
    have hrs : rr.size ≤ 1000000 := by rw [← hrr, ofL_size]; omega
    have hrd : rr.data.toList = r := by rw [← hrr, data_ofL]
    have HS := Lib.hid hsum
    have HRD := Lib.hid hrd
    clear hbr hl how hA he hrr hrd
    by_cases hr0 : r = []
    · have HY := Lib.hid (show ReadsO b.data.toList l from ⟨HL.out, by rw [HB.out, hr0, List.append_nil]⟩)
      obtain ⟨a, c, rfl, hio⟩ := own_isO HO.out rfl
      have HI := Lib.hid hio
      have d1 : decide (A < b.size) = false := decide_eq_false (by rw [hr0] at hsum; simp at hsum; omega)
      clear hio hsum hr0 hlr
      go_wp2_with fail
      go_ret2
      exact ⟨.inl ⟨l, HY.out, a, c, rfl, HI.out⟩, ck⟩
    · have hrp := List.length_pos_iff.2 hr0
      have d1 : decide (A < b.size) = true := decide_eq_true (by omega)
      have l1 : (A : Int) ≤ (b.size : Int) := by omega
      have hAn : A ≤ 1000000 := by omega
      clear hsum hrp
      by_cases ht : ∃ q s, TakesO r q s
      · obtain ⟨q, s, hq⟩ := ht
        have HQ := Lib.hid hq
        have hL0 := List.length_pos_iff.2 (opB_pos q)
        have hL1 := may_short hq.1
        have HD := Lib.hid (fun w => olead_yes rr hrs q s (by rw [HRD.out]; exact hq) w)
        obtain ⟨L, hL⟩ : ∃ L, (opB q).length = L := ⟨_, rfl⟩
        rw [hL] at HD hL0 hL1
        have HLL := Lib.hid hL
        have hAL : A + L ≤ b.size := by
          have h1 := congrArg List.length hq.2
          have h2 := HS.out
          rw [List.length_append, hL] at h1
          omega
        clear hq hL
        go_wp2_with fail
        rw [HE.out]
        refine (HD.out _).mono ?_
        rintro e w1 ⟨rfl, c1⟩
        have b1 := step_b ck c1
        have HO1 := Lib.hid (own_below HO.out c1)
        have hwb := b1.size
        go_wp2_with (at_builtin; refine wpList_append_own _ rfl _ _ 26 rfl w.heap.size 25 i25 _ 7 72 Try.underlying26 hi hz hsz hby rfl (by decide) _ l.length (opCells l) rfl ((HO1.out.alloc _).alloc _) ⟨w1.heap.size + 1, 0, none⟩ 1 1 (cellsO q) rfl rfl ?c1 ?c2 ?c3 ?c4 ?c5 ?_)
        case c1 =>
          intro j u hj
          match j, hj with
          | 0, hj => simp [cellsO] at hj; subst hj; simp [Addr.add]
          | 1, hj => simp [cellsO] at hj; subst hj; simp [Addr.add]
          | 2, hj => simp [cellsO] at hj; subst hj; simp [Addr.add]
          | 3, hj => simp [cellsO] at hj; subst hj; simp [Addr.add]
          | 4, hj => simp [cellsO] at hj; subst hj; simp [Addr.add]
          | 5, hj => simp [cellsO] at hj; subst hj; simp [Addr.add]
          | 6, hj => simp [cellsO] at hj; subst hj; simp [Addr.add]
        case c2 => intro u hu; simp [cellsO] at hu; rcases hu with rfl | rfl | rfl | rfl | rfl | rfl | rfl <;> rfl
        case c3 => unfold maxLen; omega
        case c4 => omega
        case c5 => simp; omega
        intro v' w2 hown' hgrow _
        have b2 := (((b1.alloc hwb _).alloc (by simp; omega) _).grown hgrow (by simp; omega) (fun r hr => (HO1.out.lt r hr).1))
        have HO2 := Lib.hid hown'
        clear hown' hgrow
        have hnew : (opsB (l ++ [q])).length = A + L := by
          rw [opsB_append, List.length_append, HA.out]
          simp [opsB, HLL.out]
        have HN := Lib.hid hnew
        clear hnew
        go_wp2
        go_roundw
        case rel => exact ⟨l ++ [q], s, by unfold allO at HL ⊢; rw [List.all_append, HL.out]; simp [HQ.out.1], by rw [HN.out, List.length_append, List.length_singleton]; omega, by rw [HB.out, HQ.out.2, opsB_append]; simp [opsB], by rw [HN.out]; simp, by rw [List.length_append, opCells_append]; simpa [opCells] using HO2.out, b2⟩
        case measure => simp [RowKit.intOf]; omega
      · have HN := Lib.hid (show NoRead b.data.toList from fun m hm => by
          obtain ⟨m2, hm2, e⟩ := opsB_rest HL.out hm.1 (hm.2.symm.trans HB.out)
          cases m2 with
          | nil => exact hr0 (by rw [e]; rfl)
          | cons q m3 =>
            rw [opsB_cons] at e
            simp only [allO, List.all_cons, Bool.and_eq_true] at hm2
            exact ht ⟨q, opsB m3, hm2.1, e⟩)
        have HD := Lib.hid (fun w => olead_no rr hrs (by rw [HRD.out]; exact fun q s h => ht ⟨q, s, h⟩) w)
        clear ht
        go_wp2_with fail
        rw [HE.out]
        refine (HD.out _).mono ?_
        rintro e w1 ⟨rfl, c1⟩
        have b1 := step_b ck c1
        go_wp2_with fail
        go_ret2
        exact ⟨.inr ⟨HN.out, rfl⟩, b1.alloc b1.size _⟩
end Go.Proofs.Ytjhllkjcaodcgaa
