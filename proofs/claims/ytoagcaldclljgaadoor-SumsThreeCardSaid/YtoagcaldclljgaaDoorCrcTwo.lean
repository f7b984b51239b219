/-
  PLAIN LEAN, NO RUN OF ANY PROGRAM: bursts of 32 bits; four bytes that sealOf; three texts.
-/
import Derived.Test.YtoagcaldclljgaaDoorCrc
namespace Go.Proofs.YtoagcaldclljgaaDoor
namespace Crc
theorem xor0 (v : W) : v ^^^ 0 = v := BitVec.xor_zero
theorem z_xor (v : W) : (0 : W) ^^^ v = v := BitVec.zero_xor
/-- The first k bits of b, the lowest one first, as the highest ones of a word. -/
def rev (b : Nat) : Nat → W
  | 0 => 0
  | i + 1 => if b.testBit i then rev b i ^^^ (high >>> i) else rev b i
theorem high_bit : ∀ i, i < 32 → ∀ j, j < 32 → (high >>> i).getLsbD (31 - j) = decide (i = j) := by decide +kernel
theorem rev_bit (b : Nat) : ∀ k, k ≤ 32 → ∀ j, j < 32 → (rev b k).getLsbD (31 - j) = (decide (j < k) && b.testBit j)
  | 0, _, j, _ => by simp [rev]
  | k + 1, hk, j, hj => by
    have ih := rev_bit b k (by omega) j hj
    have hb := high_bit k (by omega) j hj
    unfold rev
    by_cases e : k = j
    · subst e
      cases ht : b.testBit k with
      | true => simp only [if_true, BitVec.getLsbD_xor, ih, hb, ht]; simp
      | false => simp only [Bool.false_eq_true, if_false, ih, ht, Bool.and_false]
    · have e1 : decide (j < k + 1) = decide (j < k) := decide_eq_decide.2 (by omega)
      cases ht : b.testBit k with
      | true => simp only [if_true, BitVec.getLsbD_xor, ih, hb, e1, decide_eq_false e, Bool.xor_false]
      | false => simp only [Bool.false_eq_true, if_false, ih, e1]
theorem rev_none {b : Nat} (hb : b < 4294967296) (h : rev b 32 = 0) : b = 0 := by
  apply Nat.eq_of_testBit_eq
  intro j
  rw [Nat.zero_testBit]
  by_cases hj : j < 32
  · have := rev_bit b 32 (Nat.le_refl _) j hj
    rw [h] at this
    simpa [hj] using this.symm
  · exact Nat.testBit_lt_two_pow (Nat.lt_of_lt_of_le hb (Nat.le_trans (by decide : 4294967296 ≤ 2 ^ 32) (Nat.pow_le_pow_right (by omega) (by omega))))
/-- The bits of l from place p on, turned where b has one, k of them. -/
def flips (l : List UInt8) (p b : Nat) : Nat → List UInt8
  | 0 => l
  | i + 1 => if b.testBit i then flip (flips l p b i) (p + i) else flips l p b i
theorem flips_length (l : List UInt8) (p b k : Nat) : (flips l p b k).length = l.length := by
  induction k with
  | zero => rfl
  | succ k ih => unfold flips; split <;> simp [flip_length, ih]
theorem flips_none (l : List UInt8) (p k : Nat) : flips l p 0 k = l := by
  induction k with
  | zero => rfl
  | succ k ih => unfold flips; rw [Nat.zero_testBit]; simpa using ih
theorem high_steps (i : Nat) (hi : i < 32) : steps (32 - i) high = steps 32 (high >>> i) := by
  have := high_back i hi
  have e : steps (i + (32 - i)) (high >>> i) = steps (32 - i) high := by rw [steps_add, this]
  rw [← e, show i + (32 - i) = 32 by omega]
theorem sum_flips (l : List UInt8) (p b : Nat) (hp : p + 32 ≤ 8 * l.length) : ∀ k, k ≤ 32 → sum (flips l p b k) = sum l ^^^ steps (8 * l.length - p - 32) (steps 32 (rev b k))
  | 0, _ => by simp only [flips, rev, steps_zero, xor0]
  | k + 1, hk => by
    have ih := sum_flips l p b hp k (by omega)
    unfold flips rev
    cases b.testBit k with
    | false => simpa using ih
    | true =>
      simp only [if_true]
      rw [sum_flip _ _ (by rw [flips_length]; omega), flips_length, ih, steps_xor, steps_xor, BitVec.xor_assoc]
      have e : 8 * l.length - (p + k) = (32 - k) + (8 * l.length - p - 32) := by omega
      rw [e, steps_add, high_steps k (by omega)]
/-- A burst is seen. -/
theorem burst_seen (l : List UInt8) (p b : Nat) (hp : p + 32 ≤ 8 * l.length) (hb : b < 4294967296) (h0 : sum l = 0) (h : sum (flips l p b 32) = 0) : b = 0 := by
  rw [sum_flips l p b hp 32 (Nat.le_refl _), h0, z_xor] at h
  exact rev_none hb (steps_none _ (steps_none _ h))

/-- Four bytes in a word. -/
def pack (a b c d : UInt8) : W := top a ^^^ (top b >>> 8) ^^^ (top c >>> 16) ^^^ (top d >>> 24)
theorem tops : ∀ n, n < 256 → steps 8 (top (UInt8.ofNat n) >>> 8) = top (UInt8.ofNat n) ∧ steps 16 (top (UInt8.ofNat n) >>> 16) = top (UInt8.ofNat n) ∧ steps 24 (top (UInt8.ofNat n) >>> 24) = top (UInt8.ofNat n) := by decide +kernel
theorem tops' (x : UInt8) : steps 8 (top x >>> 8) = top x ∧ steps 16 (top x >>> 16) = top x ∧ steps 24 (top x >>> 24) = top x := by
  have := tops x.toNat (UInt8.toNat_lt x)
  rwa [UInt8.ofNat_toNat] at this
theorem sum_four (v : W) (a b c d : UInt8) : sumFrom v [a, b, c, d] = steps 32 (v ^^^ pack a b c d) := by
  have e1 : byteStep v a = steps 8 (v ^^^ top a) := rfl
  have e2 : byteStep (byteStep v a) b = steps 16 (v ^^^ top a ^^^ (top b >>> 8)) := by
    show steps 8 (byteStep v a ^^^ top b) = steps (8 + 8) _
    rw [steps_add, steps_xor 8 (v ^^^ top a), (tops' b).1, e1]
  have e3 : byteStep (byteStep (byteStep v a) b) c = steps 24 (v ^^^ top a ^^^ (top b >>> 8) ^^^ (top c >>> 16)) := by
    show steps 8 (byteStep (byteStep v a) b ^^^ top c) = steps (16 + 8) _
    rw [steps_add, steps_xor 16 (v ^^^ top a ^^^ (top b >>> 8)), (tops' c).2.1, e2]
  show byteStep (byteStep (byteStep (byteStep v a) b) c) d = _
  have e4 : steps 32 (v ^^^ pack a b c d) = steps (24 + 8) (v ^^^ top a ^^^ (top b >>> 8) ^^^ (top c >>> 16) ^^^ (top d >>> 24)) := by
    unfold pack; simp only [BitVec.xor_assoc]
  rw [e4, steps_add, steps_xor 24 (v ^^^ top a ^^^ (top b >>> 8) ^^^ (top c >>> 16)), (tops' d).2.2, ← e3]
  rfl
theorem top_getLsbD (x : UInt8) (i : Nat) : (top x).getLsbD i = (decide (24 ≤ i) && x.toBitVec.getLsbD (i - 24)) := by
  unfold top
  rw [BitVec.getLsbD_shiftLeft, BitVec.getLsbD_setWidth]
  by_cases h : 24 ≤ i
  · by_cases h2 : i < 32
    · have e1 : ¬ i < 24 := by omega
      simp [h, h2, e1]; omega
    · have : x.toBitVec.getLsbD (i - 24) = false := BitVec.getLsbD_of_ge _ _ (by omega)
      simp [this]
  · have e1 : i < 24 := by omega
    simp [h, e1]
theorem pack_bit (a b c d : UInt8) (i : Nat) : (pack a b c d).getLsbD i =
    if i < 8 then d.toBitVec.getLsbD i else if i < 16 then c.toBitVec.getLsbD (i - 8) else if i < 24 then b.toBitVec.getLsbD (i - 16) else a.toBitVec.getLsbD (i - 24) := by
  unfold pack
  simp only [BitVec.getLsbD_xor, BitVec.getLsbD_ushiftRight, top_getLsbD]
  have hz : ∀ (x : UInt8) (j : Nat), 8 ≤ j → x.toBitVec.getLsbD j = false := fun x j h => BitVec.getLsbD_of_ge _ _ h
  split
  · have e1 : ¬ 24 ≤ i := by omega
    have e2 : ¬ 24 ≤ 8 + i := by omega
    have e3 : ¬ 24 ≤ 16 + i := by omega
    have e4 : 24 + i - 24 = i := by omega
    simp [e1, e2, e3, e4]
  · split
    · have e1 : ¬ 24 ≤ i := by omega
      have e2 : ¬ 24 ≤ 8 + i := by omega
      have e3 : 24 ≤ 16 + i := by omega
      have e5 : 16 + i - 24 = i - 8 := by omega
      simp [e1, e2, e3, e5, hz d i (by omega)]
    · split
      · have e1 : ¬ 24 ≤ i := by omega
        have e2 : 24 ≤ 8 + i := by omega
        have e3 : 24 ≤ 16 + i := by omega
        have e5 : 8 + i - 24 = i - 16 := by omega
        simp [e1, e2, e3, e5, hz d i (by omega), hz c (16 + i - 24) (by omega)]
      · have e1 : 24 ≤ i := by omega
        have e2 : 24 ≤ 8 + i := by omega
        have e3 : 24 ≤ 16 + i := by omega
        simp [e1, e2, e3, hz d i (by omega), hz c (16 + i - 24) (by omega), hz b (8 + i - 24) (by omega)]
/-- A word in four bytes, the highest first. -/
def bytes4 (v : W) : List UInt8 := [UInt8.ofNat (v.toNat / 16777216), UInt8.ofNat (v.toNat / 65536), UInt8.ofNat (v.toNat / 256), UInt8.ofNat v.toNat]
theorem byte_bit (n k i : Nat) (hi : i < 8) : (UInt8.ofNat (n / 2 ^ k)).toBitVec.getLsbD i = n.testBit (k + i) := by
  rw [UInt8.toBitVec_ofNat', BitVec.getLsbD_ofNat, Nat.testBit_div_two_pow]
  simp [hi, Nat.add_comm]
theorem pack_bytes4 (v : W) : pack (UInt8.ofNat (v.toNat / 16777216)) (UInt8.ofNat (v.toNat / 65536)) (UInt8.ofNat (v.toNat / 256)) (UInt8.ofNat v.toNat) = v := by
  apply BitVec.eq_of_getLsbD_eq
  intro i hi
  rw [pack_bit]
  have b3 := byte_bit v.toNat 24
  have b2 := byte_bit v.toNat 16
  have b1 := byte_bit v.toNat 8
  have b0 := byte_bit v.toNat 0
  rw [Nat.pow_zero, Nat.div_one] at b0
  have ev : ∀ j, v.getLsbD j = v.toNat.testBit j := fun j => rfl
  rw [ev]
  split
  · rw [b0 i (by omega), Nat.zero_add]
  · split
    · have := b1 (i - 8) (by omega); rw [show 8 + (i - 8) = i by omega] at this; exact this
    · split
      · have := b2 (i - 16) (by omega); rw [show 16 + (i - 16) = i by omega] at this; exact this
      · have := b3 (i - 24) (by omega); rw [show 24 + (i - 24) = i by omega] at this; exact this
theorem pack_inj {a b c d a' b' c' d' : UInt8} (h : pack a b c d = pack a' b' c' d') : a = a' ∧ b = b' ∧ c = c' ∧ d = d' := by
  have hb : ∀ i, (pack a b c d).getLsbD i = (pack a' b' c' d').getLsbD i := fun i => by rw [h]
  simp only [pack_bit] at hb
  refine ⟨?_, ?_, ?_, ?_⟩ <;> refine UInt8.toBitVec_inj.1 (BitVec.eq_of_getLsbD_eq fun i hi => ?_)
  · have := hb (24 + i)
    rw [if_neg (by omega), if_neg (by omega), if_neg (by omega), if_neg (by omega), if_neg (by omega), if_neg (by omega)] at this
    rwa [show 24 + i - 24 = i by omega] at this
  · have := hb (16 + i)
    rw [if_neg (by omega), if_neg (by omega), if_pos (by omega), if_neg (by omega), if_neg (by omega), if_pos (by omega)] at this
    rwa [show 16 + i - 16 = i by omega] at this
  · have := hb (8 + i)
    rw [if_neg (by omega), if_pos (by omega), if_neg (by omega), if_pos (by omega)] at this
    rwa [show 8 + i - 8 = i by omega] at this
  · have := hb i
    rwa [if_pos (by omega), if_pos (by omega)] at this
/-- What is sealed. -/
def sealOf (l : List UInt8) : List UInt8 := l ++ bytes4 (sum l)
theorem sum_bytes4 (v w : W) : sumFrom v (bytes4 w) = steps 32 (v ^^^ w) := by
  unfold bytes4
  rw [sum_four, pack_bytes4]
theorem sum_seal (l : List UInt8) : sum (sealOf l) = 0 := by
  unfold sealOf sum
  rw [sumFrom_append, sum_bytes4, BitVec.xor_self]
  exact steps_zero 32
theorem sealed_iff (l : List UInt8) (a b c d : UInt8) : sum (l ++ [a, b, c, d]) = 0 ↔ [a, b, c, d] = bytes4 (sum l) := by
  constructor
  · intro h
    unfold sum at h
    rw [sumFrom_append, sum_four] at h
    have h2 := steps_none 32 h
    have h3 : sumFrom 4294967295#32 l = pack a b c d := by
      have := congrArg (· ^^^ pack a b c d) h2
      simp only [BitVec.xor_assoc, BitVec.xor_self, BitVec.xor_zero, z_xor] at this
      exact this
    have h4 := pack_bytes4 (sumFrom 4294967295#32 l)
    have h5 := pack_inj (h4.trans h3)
    unfold bytes4 sum
    rw [h5.1, h5.2.1, h5.2.2.1, h5.2.2.2]
  · intro h
    have := sum_seal l
    unfold sealOf at this
    rwa [← h] at this
/-- Of one length, what is in one of them, bit by bit. -/
theorem sumFrom_zip (u v : W) : ∀ (a b : List UInt8), a.length = b.length → sumFrom (u ^^^ v) (List.zipWith (· ^^^ ·) a b) = sumFrom u a ^^^ sumFrom v b := by
  intro a
  induction a generalizing u v with
  | nil => intro b hb; have : b = [] := List.eq_nil_of_length_eq_zero (by simpa using hb.symm); subst this; rfl
  | cons x a ih =>
    intro b hb
    match b with
    | [] => simp at hb
    | y :: b =>
      rw [List.zipWith_cons_cons, sumFrom_cons, sumFrom_cons, sumFrom_cons, byteStep_xor]
      exact ih _ _ b (by simpa using hb)
theorem sum_three (a b c : List UInt8) (h1 : a.length = b.length) (h2 : a.length = c.length) :
    sum (List.zipWith (· ^^^ ·) (List.zipWith (· ^^^ ·) a b) c) = sum a ^^^ sum b ^^^ sum c := by
  have e : (4294967295#32 : W) = 4294967295#32 ^^^ 4294967295#32 ^^^ 4294967295#32 := by decide
  unfold sum
  conv => lhs; rw [e]
  rw [sumFrom_zip _ _ _ c (by rw [List.length_zipWith]; omega), sumFrom_zip _ _ a b h1]
end Crc
end Go.Proofs.YtoagcaldclljgaaDoor
