/-
  SumsTell: the sum of any text, any number's bytes, any text sealed, and opened, are the document's.
-/
import Derived.Test.YtoagcaldclljgaaDoorPartLaw
namespace Go.Proofs.YtoagcaldclljgaaDoor
open Go.RowKit Go.Lib
open Crc (W)
theorem u32_word {n : Int} (h : (Lit.int .u32 n).wf = true) : ∃ v : W, n = ((v.toNat : Nat) : Int) := by
  have h2 : 0 ≤ n ∧ n ≤ 4294967295 := by
    simp only [Lit.wf, Bool.and_eq_true, decide_eq_true_eq] at h
    exact h
  refine ⟨BitVec.ofNat 32 n.toNat, ?_⟩
  rw [BitVec.toNat_ofNat]
  omega
set_option maxRecDepth 100000 in
set_option maxHeartbeats 4000000 in
theorem tell_walk (s : ByteArray) (n : Int) (w : World) (ht : HasTab w) (_hs : s.size ≤ maxLen) (hn : (Lit.int .u32 n).wf = true) :
    Calls Tryd.prog 3 #[.string s, .int .u32 n] w fun e w' => e = .returned (.bool true) ∧ Below w.heap.size w w' := by
  obtain ⟨u, rfl⟩ := u32_word hn
  clear _hs hn
  by_cases h1 : s.size ≤ 1000
  · obtain ⟨v, hv⟩ : ∃ v, Crc.sum s.data.toList = v := ⟨_, rfl⟩
    have V1 := Lib.hid (show Crc.sum (flatB [s]) = v by rw [flat1]; exact hv)
    have V2 := Lib.hid hv
    have hs : s.size ≤ 1000000 := by omega
    have d1 : decide ((1000 : Int) < (s.size : Int)) = false := decide_eq_false (by omega)
    clear hv
    obtain ⟨os, hos⟩ : ∃ x, openS s = x := ⟨_, rfl⟩
    obtain ⟨ob, hob⟩ : ∃ x, openB s = x := ⟨_, rfl⟩
    obtain ⟨ss, hss⟩ : ∃ x, sealS s = x := ⟨_, rfl⟩
    obtain ⟨bs, hbs⟩ : ∃ x, ofL (Crc.bytes4 u) = x := ⟨_, rfl⟩
    have HO := Lib.hid hos
    have HB := Lib.hid hob
    have HS := Lib.hid hss
    have HY := Lib.hid hbs
    clear hos hob hss hbs
    go_enter Tryd.func3, Tryd.ntmps3
    go_wp2_with fail
    refine (awake_any _ ht).mono ?_
    rintro e w1 ⟨rfl, b1⟩
    go_wp2_with fail
    refine (open_any s _ (ht.below b1) hs).mono ?_
    rintro e w2 ⟨rfl, c2⟩
    rw [HO.out, HB.out]
    have b2 := step_b b1 c2
    clear c2 b1
    go_wp2_with fail
    refine (ropen_any s _ hs).mono ?_
    rintro e w3 ⟨rfl, c3⟩
    rw [HO.out, HB.out]
    have b3 := step_b b2 c3
    clear c3 b2
    go_wp2_with fail
    refine (sum_of (v := v) (l := [s]) ((ht.below b3).alloc _) (isL_new _ [s] 9) (by simp) (sizes1 hs) V1.out).mono ?_
    rintro e w4 ⟨rfl, c4⟩
    have b4 := step_a b3 c4
    clear c4 b3
    go_wp2_with fail
    refine (rsum_any s _ hs).mono ?_
    rintro e w5 ⟨rfl, rfl⟩
    rw [V2.out]
    go_wp2_with fail
    refine (bytes_any u _).mono ?_
    rintro e w6 ⟨rfl, c6⟩
    rw [HY.out]
    have b6 := step_b b4 c6
    clear c6 b4
    go_wp2_with fail
    refine (rbytes_any u _).mono ?_
    rintro e w7 ⟨rfl, c7⟩
    rw [HY.out]
    have b7 := step_b b6 c7
    clear c7 b6
    go_wp2_with fail
    refine (seal_any s _ (ht.below b7) hs).mono ?_
    rintro e w8 ⟨rfl, c8⟩
    rw [HS.out]
    have b8 := step_b b7 c8
    clear c8 b7
    go_wp2_with fail
    refine (rseal_any s _ hs).mono ?_
    rintro e w9 ⟨rfl, c9⟩
    rw [HS.out]
    have b9 := step_b b8 c9
    clear c9 b8
    go_wp2
    go_ret
    exact ⟨rfl, b9⟩
  · have d1 : decide ((1000 : Int) < (s.size : Int)) = true := decide_eq_true (by omega)
    clear h1
    go_enter Tryd.func3, Tryd.ntmps3
    go_wp2_with fail
    refine (awake_any _ ht).mono ?_
    rintro e w1 ⟨rfl, b1⟩
    go_wp2
    go_ret
    exact ⟨rfl, b1⟩
end Go.Proofs.YtoagcaldclljgaaDoor
