/-
  PLAIN LEAN, NO RUN OF ANY PROGRAM: words of 32 bits as the model's arithmetic has them: one step, four steps by a table, bytes.
-/
import Derived.Test.YtoagcaldclljgaaDoorCrcTwo
import Derived.Laws.BitsAllLaws
namespace Go.Proofs.YtoagcaldclljgaaDoor
open Crc (W)
/-- A word, as a slot holds it. -/
abbrev U (v : W) : Value := .int .u32 ((v.toNat : Nat) : Int)
def four : List Int := [0, 79764919, 159529838, 222504665, 319059676, 398814059, 445009330, 507990021, 638119352, 583659535, 797628118, 726387553, 890018660, 835552979, 1015980042, 944750013]
namespace Crc
theorem xor_word (a b : W) : bits .xor .u32 ((a.toNat : Nat) : Int) ((b.toNat : Nat) : Int) = (((a ^^^ b).toNat : Nat) : Int) := by
  rw [u32_xor_nat _ _ a.isLt b.isLt, BitVec.toNat_xor]
theorem shl_nat (v : W) (k : Nat) : (v <<< k).toNat = v.toNat * 2 ^ k % 4294967296 := by
  rw [BitVec.toNat_shiftLeft, Nat.shiftLeft_eq]
theorem msb_iff (v : W) : v.msb = decide (2147483648 ≤ v.toNat) := by
  rw [BitVec.msb_eq_decide]
theorem step_low (v : W) (h : v.toNat < 2147483648) : step v = v <<< 1 := by
  unfold step
  rw [msb_iff, decide_eq_false (by omega)]; rfl
theorem step_high (v : W) (h : 2147483648 ≤ v.toNat) : step v = (v <<< 1) ^^^ poly := by
  unfold step
  rw [msb_iff, decide_eq_true h]; rfl
theorem steps_low (v : W) (h : v.toNat < 268435456) : steps 4 v = v <<< 4 := by
  have h1 := step_low v (by omega)
  have n1 : (v <<< 1).toNat = v.toNat * 2 := by rw [shl_nat]; omega
  have h2 := step_low (v <<< 1) (by omega)
  have n2 : (v <<< 1 <<< 1).toNat = v.toNat * 4 := by rw [shl_nat]; omega
  have h3 := step_low (v <<< 1 <<< 1) (by omega)
  have n3 : (v <<< 1 <<< 1 <<< 1).toNat = v.toNat * 8 := by rw [shl_nat]; omega
  have h4 := step_low (v <<< 1 <<< 1 <<< 1) (by omega)
  show step (step (step (step v))) = _
  rw [h1, h2, h3, h4]
  apply BitVec.eq_of_toNat_eq
  rw [shl_nat, n3, shl_nat]
  omega
theorem four_ok : ∀ k, k < 16 → 0 ≤ four.getD k 0 ∧ four.getD k 0 < 4294967296 ∧ steps 4 (BitVec.ofNat 32 k <<< 28) = BitVec.ofNat 32 (four.getD k 0).toNat := by decide +kernel
theorem halves (v : W) : v = (v >>> 28) <<< 28 ^^^ (v <<< 4) >>> 4 := by
  apply BitVec.eq_of_getLsbD_eq
  intro i hi
  rw [BitVec.getLsbD_xor, BitVec.getLsbD_shiftLeft, BitVec.getLsbD_ushiftRight, BitVec.getLsbD_ushiftRight, BitVec.getLsbD_shiftLeft]
  by_cases h : i < 28
  · have e : 4 + i - 4 = i := by omega
    have e2 : 4 + i < 32 := by omega
    simp [h, e, e2, hi]
  · have e : 28 + (i - 28) = i := by omega
    have e2 : ¬ 4 + i < 32 := by omega
    simp [h, e, e2, hi]
theorem four_steps (v : W) : bits .xor .u32 ((v.toNat : Int) * (16 : Int) % (4294967296 : Int)) (four.getD (v.toNat / 268435456) 0) = (((steps 4 v).toNat : Nat) : Int) := by
  have hk : v.toNat / 268435456 < 16 := by have := v.isLt; omega
  obtain ⟨h0, h1, h2⟩ := four_ok _ hk
  have e1 : v >>> 28 = BitVec.ofNat 32 (v.toNat / 268435456) := by
    apply BitVec.eq_of_toNat_eq
    rw [BitVec.toNat_ushiftRight, Nat.shiftRight_eq_div_pow, BitVec.toNat_ofNat]
    omega
  have e2 : ((v <<< 4) >>> 4).toNat = v.toNat % 268435456 := by
    rw [BitVec.toNat_ushiftRight, Nat.shiftRight_eq_div_pow, shl_nat]
    omega
  have e3 : ((v <<< 4) >>> 4) <<< 4 = v <<< 4 := by
    apply BitVec.eq_of_toNat_eq
    rw [shl_nat, e2, shl_nat]; omega
  have e4 : steps 4 v = BitVec.ofNat 32 (four.getD (v.toNat / 268435456) 0).toNat ^^^ v <<< 4 := by
    conv => lhs; rw [halves v]
    rw [steps_xor, e1, h2, steps_low _ (by rw [e2]; omega), e3]
  obtain ⟨z, hz⟩ : ∃ z, four.getD (v.toNat / 268435456) 0 = z := ⟨_, rfl⟩
  rw [hz] at h0 h1 e4 ⊢
  have e5 : (v.toNat : Int) * (16 : Int) % (4294967296 : Int) = (((v <<< 4).toNat : Nat) : Int) := by rw [shl_nat]; omega
  have e6 : (((BitVec.ofNat 32 z.toNat).toNat : Nat) : Int) = z := by rw [BitVec.toNat_ofNat]; omega
  have k := xor_word (v <<< 4) (BitVec.ofNat 32 z.toNat)
  rw [e6] at k
  rw [e5, k, e4, BitVec.xor_comm]
theorem one_high (v : W) (h : 2147483648 ≤ v.toNat) : bits .xor .u32 ((2 : Int) * (v.toNat : Int) % (4294967296 : Int)) 79764919 = (((step v).toNat : Nat) : Int) := by
  have e : (2 : Int) * (v.toNat : Int) % (4294967296 : Int) = (((v <<< 1).toNat : Nat) : Int) := by rw [shl_nat]; omega
  have e2 : (79764919 : Int) = ((poly.toNat : Nat) : Int) := by decide
  rw [e, e2, xor_word, step_high v h]
theorem one_low (v : W) (h : v.toNat < 2147483648) : (2 : Int) * (v.toNat : Int) % (4294967296 : Int) = (((step v).toNat : Nat) : Int) := by
  rw [step_low v h, shl_nat]; omega
theorem top_nat (x : UInt8) : (top x).toNat = x.toNat * 16777216 := by
  unfold top
  have := x.toNat_lt
  rw [shl_nat, BitVec.toNat_setWidth]
  have e : x.toBitVec.toNat = x.toNat := rfl
  rw [e]; omega
theorem add_byte (v : W) (x : UInt8) : bits .xor .u32 ((v.toNat : Nat) : Int) ((x.toNat : Int) * (16777216 : Int) % (4294967296 : Int)) = (((v ^^^ top x).toNat : Nat) : Int) := by
  have := x.toNat_lt
  have e : (x.toNat : Int) * (16777216 : Int) % (4294967296 : Int) = (((top x).toNat : Nat) : Int) := by rw [top_nat]; omega
  rw [e, xor_word]
theorem eight_four (v : W) : steps 4 (steps 4 v) = steps 8 v := rfl
end Crc
end Go.Proofs.YtoagcaldclljgaaDoor
