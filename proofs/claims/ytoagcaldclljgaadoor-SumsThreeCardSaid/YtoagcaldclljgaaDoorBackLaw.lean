/-
  SumsBack: what was sealed is opened, its sum is 0, and what is opened was sealed so.
-/
import Derived.Test.YtoagcaldclljgaaDoorPartLaw
namespace Go.Proofs.YtoagcaldclljgaaDoor
open Go.RowKit Go.Lib
open Crc (W)
theorem seal_data (s : ByteArray) : (sealS s).data.toList = Crc.sealOf s.data.toList := by simp [sealS, ofL]
theorem sum_sealS (s : ByteArray) : Crc.sum (flatB [sealS s]) = 0#32 := by
  rw [flat1, seal_data]; exact Crc.sum_seal _
theorem open_yes {s : ByteArray} (h : openB s = true) : sealS (openS s) = s := by
  have h2 := (of_decide_eq_true h).2
  unfold openS
  rw [h, if_pos rfl, ← h2]
theorem open_no {s : ByteArray} (h : openB s = false) : openS s = ⟨#[]⟩ := by
  unfold openS
  rw [h]; rfl
theorem open_small {s : ByteArray} (h : openB s = true) : (openS s).size + 4 = s.size := by
  rw [← seal_size, open_yes h]
set_option maxRecDepth 100000 in
set_option maxHeartbeats 4000000 in
theorem back_walk (s : ByteArray) (w : World) (ht : HasTab w) (_hs : s.size ≤ maxLen) :
    Calls Tryd.prog 5 #[.string s] w fun e w' => e = .returned (.bool true) ∧ Below w.heap.size w w' := by
  clear _hs
  by_cases h1 : s.size ≤ 1000
  · have hs : s.size ≤ 1000000 := by omega
    have hs9 : s.size ≤ 900000 := by omega
    have hz := seal_size s
    obtain ⟨ss, hss⟩ : ∃ x, sealS s = x := ⟨_, rfl⟩
    have V1 := Lib.hid (show Crc.sum (flatB [ss]) = 0#32 by rw [← hss]; exact sum_sealS s)
    rw [hss] at hz
    have Z1 := Lib.hid (sizes1 (s := ss) (by omega))
    have HS := Lib.hid hss
    have d1 : decide ((1000 : Int) < (s.size : Int)) = false := decide_eq_false (by omega)
    clear hss hz
    cases hb : openB s with
    | true =>
      have HY := Lib.hid (open_yes hb)
      have hys := open_small hb
      have HB := Lib.hid hb
      obtain ⟨y, hy⟩ : ∃ y, openS s = y := ⟨_, rfl⟩
      rw [hy] at HY hys
      have HO := Lib.hid hy
      have hyl : y.size ≤ 1000000 := by omega
      clear hb hy hys
      go_enter Tryd.func5, Tryd.ntmps5
      go_wp2_with fail
      refine (awake_any _ ht).mono ?_
      rintro e w1 ⟨rfl, b1⟩
      go_wp2_with fail
      refine (seal_any s _ (ht.below b1) hs).mono ?_
      rintro e w2 ⟨rfl, c2⟩
      have b2 := step_b b1 c2
      clear c2 b1
      go_wp2_with fail
      refine (open_seal s _ (ht.below b2) hs9).mono ?_
      rintro e w3 ⟨rfl, c3⟩
      have b3 := step_b b2 c3
      clear c3 b2
      go_wp2_with fail
      refine (open_any s _ (ht.below b3) hs).mono ?_
      rintro e w4 ⟨rfl, c4⟩
      rw [HO.out, HB.out]
      have b4 := step_b b3 c4
      clear c4 b3
      go_wp2_with fail
      refine (seal_any s _ (ht.below b4) hs).mono ?_
      rintro e w5 ⟨rfl, c5⟩
      rw [HS.out]
      have b5 := step_b b4 c5
      clear c5 b4
      go_wp2_with fail
      refine (sum_of (v := 0#32) (l := [ss]) ((ht.below b5).alloc _) (isL_new _ [ss] 9) (by simp) Z1.out V1.out).mono ?_
      rintro e w6 ⟨rfl, c6⟩
      have b6 := step_a b5 c6
      clear c6 b5
      go_wp2_with fail
      refine (seal_any y _ (ht.below b6) hyl).mono ?_
      rintro e w7 ⟨rfl, c7⟩
      rw [HY.out]
      have b7 := step_b b6 c7
      clear c7 b6
      go_wp2
      go_ret
      exact ⟨rfl, b7⟩
    | false =>
      have HO := Lib.hid (open_no hb)
      have HB := Lib.hid hb
      clear hb
      go_enter Tryd.func5, Tryd.ntmps5
      go_wp2_with fail
      refine (awake_any _ ht).mono ?_
      rintro e w1 ⟨rfl, b1⟩
      go_wp2_with fail
      refine (seal_any s _ (ht.below b1) hs).mono ?_
      rintro e w2 ⟨rfl, c2⟩
      have b2 := step_b b1 c2
      clear c2 b1
      go_wp2_with fail
      refine (open_seal s _ (ht.below b2) hs9).mono ?_
      rintro e w3 ⟨rfl, c3⟩
      have b3 := step_b b2 c3
      clear c3 b2
      go_wp2_with fail
      refine (open_any s _ (ht.below b3) hs).mono ?_
      rintro e w4 ⟨rfl, c4⟩
      rw [HO.out, HB.out]
      have b4 := step_b b3 c4
      clear c4 b3
      go_wp2_with fail
      refine (seal_any s _ (ht.below b4) hs).mono ?_
      rintro e w5 ⟨rfl, c5⟩
      rw [HS.out]
      have b5 := step_b b4 c5
      clear c5 b4
      go_wp2_with fail
      refine (sum_of (v := 0#32) (l := [ss]) ((ht.below b5).alloc _) (isL_new _ [ss] 9) (by simp) Z1.out V1.out).mono ?_
      rintro e w6 ⟨rfl, c6⟩
      have b6 := step_a b5 c6
      clear c6 b5
      go_wp2
      go_ret
      exact ⟨rfl, b6⟩
  · have d1 : decide ((1000 : Int) < (s.size : Int)) = true := decide_eq_true (by omega)
    clear h1
    go_enter Tryd.func5, Tryd.ntmps5
    go_wp2_with fail
    refine (awake_any _ ht).mono ?_
    rintro e w1 ⟨rfl, b1⟩
    go_wp2
    go_ret
    exact ⟨rfl, b1⟩
end Go.Proofs.YtoagcaldclljgaaDoor
