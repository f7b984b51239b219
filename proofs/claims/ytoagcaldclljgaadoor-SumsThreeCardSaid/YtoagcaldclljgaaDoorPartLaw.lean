/-
  SumsPart: the sum of parts is that of them, one behind the other.
-/
import Derived.Test.YtoagcaldclljgaaDoorAwake
import Derived.Test.YtoagcaldclljgaaDoorTab
namespace Go.Proofs.YtoagcaldclljgaaDoor
open Go.RowKit Go.Lib
open Crc (W)
theorem small {l : List ByteArray} (h : ∀ x ∈ l, x.size ≤ 1000) : ∀ x ∈ l, x.size ≤ 1000000 := fun x hx => Nat.le_trans (h x hx) (by decide)
set_option maxRecDepth 100000 in
set_option maxHeartbeats 4000000 in
theorem part_walk (a b c : ByteArray) (w : World) (ht : HasTab w) (_ha : a.size ≤ maxLen) (_hb : b.size ≤ maxLen) (_hc : c.size ≤ maxLen) :
    Calls Tryd.prog 4 #[.string a, .string b, .string c] w fun e w' => e = .returned (.bool true) ∧ Below w.heap.size w w' := by
  clear _ha _hb _hc
  by_cases h1 : a.size ≤ 300 ∧ b.size ≤ 300 ∧ c.size ≤ 300
  · obtain ⟨ha, hb, hc⟩ := h1
    obtain ⟨ab, hab⟩ : ∃ ab, a ++ b = ab := ⟨_, rfl⟩
    obtain ⟨bc, hbc⟩ : ∃ bc, b ++ c = bc := ⟨_, rfl⟩
    obtain ⟨abc, habc⟩ : ∃ abc, ab ++ c = abc := ⟨_, rfl⟩
    have sab : ab.size = a.size + b.size := by rw [← hab, ByteArray.size_append]
    have sbc : bc.size = b.size + c.size := by rw [← hbc, ByteArray.size_append]
    have sabc : abc.size = ab.size + c.size := by rw [← habc, ByteArray.size_append]
    obtain ⟨v, hv⟩ : ∃ v, Crc.sum (flatB [a, b, c]) = v := ⟨_, rfl⟩
    have V1 := Lib.hid hv
    have V2 := Lib.hid (show Crc.sum (flatB [abc]) = v by rw [← hv, ← habc, ← hab]; simp [flatB])
    have V3 := Lib.hid (show Crc.sum (flatB [ab, c]) = v by rw [← hv, ← hab]; simp [flatB])
    have V4 := Lib.hid (show Crc.sum (flatB [a, bc]) = v by rw [← hv, ← hbc]; simp [flatB])
    have Z1 := Lib.hid (small (l := [a, b, c]) (by simp; omega))
    have Z2 := Lib.hid (small (l := [abc]) (by simp; omega))
    have Z3 := Lib.hid (small (l := [ab, c]) (by simp; omega))
    have Z4 := Lib.hid (small (l := [a, bc]) (by simp; omega))
    have g1 : a.size + b.size ≤ 140737488355328 := by omega
    have g2 : b.size + c.size ≤ 140737488355328 := by omega
    have g3 : ab.size + c.size ≤ 140737488355328 := by omega
    have d1 : decide ((300 : Int) < (a.size : Int)) = false := decide_eq_false (by omega)
    have d2 : decide ((300 : Int) < (b.size : Int)) = false := decide_eq_false (by omega)
    have d3 : decide ((300 : Int) < (c.size : Int)) = false := decide_eq_false (by omega)
    clear hv sab sbc sabc
    go_enter Tryd.func4, Tryd.ntmps4
    go_wp2_with fail
    refine (awake_any _ ht).mono ?_
    rintro e w1 ⟨rfl, b1⟩
    go_wp2_with fail
    refine (sum_of (v := v) (l := [a, b, c]) ((ht.below b1).alloc _) (isL_new _ [a, b, c] 9) (by simp) Z1.out V1.out).mono ?_
    rintro e w2 ⟨rfl, c2⟩
    have b2 := step_a b1 c2
    clear c2 b1
    go_wp2_with fail
    refine (sum_of (v := v) (l := [abc]) ((ht.below b2).alloc _) (isL_new _ [abc] 9) (by simp) Z2.out V2.out).mono ?_
    rintro e w3 ⟨rfl, c3⟩
    have b3 := step_a b2 c3
    clear c3 b2
    go_wp2_with fail
    refine (sum_of (v := v) (l := [ab, c]) ((ht.below b3).alloc _) (isL_new _ [ab, c] 9) (by simp) Z3.out V3.out).mono ?_
    rintro e w4 ⟨rfl, c4⟩
    have b4 := step_a b3 c4
    clear c4 b3
    go_wp2_with fail
    refine (sum_of (v := v) (l := [a, bc]) ((ht.below b4).alloc _) (isL_new _ [a, bc] 9) (by simp) Z4.out V4.out).mono ?_
    rintro e w5 ⟨rfl, c5⟩
    have b5 := step_a b4 c5
    clear c5 b4
    go_wp2
    go_ret
    exact ⟨rfl, b5⟩
  · have H1 := Lib.hid h1
    clear h1
    go_enter Tryd.func4, Tryd.ntmps4
    go_wp2_with fail
    refine (awake_any _ ht).mono ?_
    rintro e w1 ⟨rfl, b1⟩
    go_wp2_with fail
    all_goals first
      | (go_ret; exact ⟨rfl, b1⟩)
      | (exfalso; have := H1.out; omega)
end Go.Proofs.YtoagcaldclljgaaDoor
