/-
  awake() answers true; what is opened of what was sealed.
-/
import Derived.Test.YtoagcaldclljgaaDoorOpens
import Derived.KernelRfl
namespace Go.Proofs.YtoagcaldclljgaaDoor
open Go.RowKit Go.Lib
open Crc (W)
theorem seal_size (s : ByteArray) : (sealS s).size = s.size + 4 := by
  rw [← seal_eq, ByteArray.size_append]; rfl
theorem head_seal (s : ByteArray) : headB (sealS s) = s := by
  unfold headB
  rw [seal_size, ← seal_eq, Nat.add_sub_cancel]
  exact ByteArray.extract_append_eq_left rfl
theorem openB_seal (s : ByteArray) : openB (sealS s) = true := by
  unfold openB
  rw [head_seal, seal_size]
  exact decide_eq_true ⟨by omega, rfl⟩
theorem openS_seal (s : ByteArray) : openS (sealS s) = s := by
  unfold openS
  rw [openB_seal, if_pos rfl, head_seal]
theorem open_seal (s : ByteArray) (w : World) (ht : HasTab w) (hs : s.size ≤ 900000) :
    Calls Tryd.prog 9 #[.string (sealS s)] w fun e w' => e = .returned (.tuple #[.string s, .bool true]) ∧ Below w.heap.size w w' := by
  refine (open_any (sealS s) w ht (by rw [seal_size]; omega)).mono ?_
  rw [openS_seal, openB_seal]
  exact fun e w' h => h
def ab : ByteArray := ⟨#[97, 98]⟩
theorem aw_no (w : World) (ht : HasTab w) : Calls Tryd.prog 9 #[.string ⟨#[97, 98, 99, 100, 101]⟩] w fun e w' => e = .returned (.tuple #[.string ⟨#[]⟩, .bool false]) ∧ Below w.heap.size w w' := by
  have e1 : openB ⟨#[97, 98, 99, 100, 101]⟩ = false := by kernel_rfl
  have e2 : openS ⟨#[97, 98, 99, 100, 101]⟩ = ⟨#[]⟩ := by unfold openS; rw [e1]; rfl
  refine (open_any _ w ht (by decide)).mono ?_
  rw [e1, e2]
  exact fun e w' h => h
theorem aw_sum (w : World) (ht : HasTab w) {a : Option Addr} {c : Nat} (h : IsL w a c [⟨#[49, 50, 51, 52]⟩, ⟨#[]⟩, ⟨#[53, 54, 55, 56, 57]⟩]) :
    Calls Tryd.prog 11 #[.slice a 3 c] w fun e w' => e = .returned (.int .u32 58124007) ∧ Below w.heap.size w w' :=
  sum_of (v := 58124007#32) ht h (by decide) (by decide) (by kernel_rfl)
theorem aw_sum0 (w : World) (ht : HasTab w) :
    Calls Tryd.prog 11 #[.slice none 0 0] w fun e w' => e = .returned (.int .u32 4294967295) ∧ Below w.heap.size w w' :=
  sum_of (v := 4294967295#32) (l := []) ht ⟨Nat.le_refl _, fun h => absurd rfl h⟩ (by decide) (by decide) (by kernel_rfl)
theorem aw_bytes (w : World) : Calls Tryd.prog 13 #[.int .u32 16909060] w fun e w' => e = .returned (.string ⟨#[1, 2, 3, 4]⟩) ∧ Below w.heap.size w w' := by
  have e : ofL (Crc.bytes4 16909060#32) = ⟨#[1, 2, 3, 4]⟩ := by kernel_rfl
  have := bytes_any 16909060#32 w
  rw [e] at this
  exact this
set_option maxRecDepth 100000 in
set_option maxHeartbeats 2000000 in
theorem awake_any (w : World) (ht : HasTab w) : Calls Tryd.prog 8 #[] w fun e w' => e = .returned (.bool true) ∧ Below w.heap.size w w' := by
  have hz : (ab.size ≤ 900000) := by decide
  have hl : ab.toList = [97, 98] := by kernel_rfl
  go_enter Tryd.func8, Tryd.ntmps8
  go_wp2_with fail
  refine (seal_any ab _ ht (by decide)).mono ?_
  rintro e w1 ⟨rfl, b1⟩
  go_wp2_with fail
  refine (open_seal ab _ (ht.below b1) hz).mono ?_
  rintro e w2 ⟨rfl, c2⟩
  have b2 := step_b b1 c2
  clear c2 b1
  go_wp2_with fail
  refine (aw_no _ (ht.below b2)).mono ?_
  rintro e w3 ⟨rfl, c3⟩
  have b3 := step_b b2 c3
  clear c3 b2
  go_wp2_with fail
  refine (aw_sum _ ((ht.below b3).alloc _) (isL_new _ [⟨#[49, 50, 51, 52]⟩, ⟨#[]⟩, ⟨#[53, 54, 55, 56, 57]⟩] 9)).mono ?_
  rintro e w4 ⟨rfl, c4⟩
  have b4 := step_a b3 c4
  clear c4 b3
  go_wp2_with fail
  refine (aw_sum0 _ (ht.below b4)).mono ?_
  rintro e w5 ⟨rfl, c5⟩
  have b5 := step_b b4 c5
  clear c5 b4
  go_wp2_with fail
  refine (aw_bytes _).mono ?_
  rintro e w6 ⟨rfl, c6⟩
  have b6 := step_b b5 c6
  clear c6 b5
  go_wp2
  go_ret
  exact ⟨rfl, b6⟩
end Go.Proofs.YtoagcaldclljgaaDoor
