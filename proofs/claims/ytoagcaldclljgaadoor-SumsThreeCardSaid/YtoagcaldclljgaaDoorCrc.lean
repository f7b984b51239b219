/-
  PLAIN LEAN, NO RUN OF ANY PROGRAM: sums of 32 bits by steps, that are linear, and lose nothing; what follows of what was sealed, and changed.
-/
import GoSem.Op.String
namespace Go.Proofs.YtoagcaldclljgaaDoor
namespace Crc
abbrev W := BitVec 32
def poly : W := 79764919#32
/-- One step. -/
def step (v : W) : W := if v.msb then (v <<< 1) ^^^ poly else v <<< 1
theorem step_xor (a b : W) : step (a ^^^ b) = step a ^^^ step b := by
  unfold step
  rw [BitVec.msb_xor, BitVec.shiftLeft_xor_distrib]
  cases a.msb <;> cases b.msb <;> simp only [Bool.xor_false, Bool.xor_true, Bool.not_true, Bool.not_false, if_true, Bool.false_eq_true, if_false]
  · rw [BitVec.xor_assoc]
  · rw [BitVec.xor_assoc, BitVec.xor_assoc, BitVec.xor_comm (b <<< 1) poly]
  · rw [BitVec.xor_assoc, ← BitVec.xor_assoc poly, BitVec.xor_comm poly, BitVec.xor_assoc (b <<< 1), BitVec.xor_self, BitVec.xor_zero]
theorem step_zero : step 0 = 0 := by decide
theorem step_none {v : W} (h : step v = 0) : v = 0 := by
  unfold step at h
  have h0 := congrArg (fun x : W => x.getLsbD 0) h
  split at h
  · rename_i hm
    rw [if_pos hm] at h0
    simp [poly] at h0
  · rename_i hm
    apply BitVec.eq_of_getLsbD_eq
    intro i hi
    by_cases e : i = 31
    · subst e
      simpa [BitVec.msb_eq_getLsbD_last] using hm
    · have := congrArg (fun x : W => x.getLsbD (i + 1)) h
      simp at this
      simpa using this (by omega)
/-- k steps. -/
def steps : Nat → W → W
  | 0, v => v
  | k + 1, v => steps k (step v)
theorem steps_xor (k : Nat) (a b : W) : steps k (a ^^^ b) = steps k a ^^^ steps k b := by
  induction k generalizing a b with
  | zero => rfl
  | succ k ih => simp only [steps, step_xor, ih]
theorem steps_zero (k : Nat) : steps k 0 = 0 := by
  induction k with
  | zero => rfl
  | succ k ih => simp only [steps, step_zero, ih]
theorem steps_none (k : Nat) {v : W} (h : steps k v = 0) : v = 0 := by
  induction k generalizing v with
  | zero => exact h
  | succ k ih => exact step_none (ih h)
theorem steps_add (j k : Nat) (v : W) : steps (j + k) v = steps k (steps j v) := by
  induction j generalizing v with
  | zero => rw [Nat.zero_add]; rfl
  | succ j ih => rw [Nat.succ_add]; exact ih (step v)
/-- A byte, 24 places up. -/
def top (x : UInt8) : W := (x.toBitVec.setWidth 32) <<< 24
theorem top_xor (x y : UInt8) : top (x ^^^ y) = top x ^^^ top y := by
  unfold top
  rw [UInt8.toBitVec_xor, BitVec.setWidth_xor, BitVec.shiftLeft_xor_distrib]
def byteStep (v : W) (x : UInt8) : W := steps 8 (v ^^^ top x)
/-- The number behind these bytes, from v on. -/
def sumFrom (v : W) (l : List UInt8) : W := l.foldl byteStep v
def sum (l : List UInt8) : W := sumFrom 4294967295#32 l
theorem sumFrom_append (v : W) (a b : List UInt8) : sumFrom v (a ++ b) = sumFrom (sumFrom v a) b := by simp [sumFrom]
theorem sumFrom_cons (v : W) (x : UInt8) (l : List UInt8) : sumFrom v (x :: l) = sumFrom (byteStep v x) l := rfl
theorem byteStep_xor (v d : W) (x y : UInt8) : byteStep (v ^^^ d) (x ^^^ y) = byteStep v x ^^^ byteStep d y := by
  unfold byteStep
  rw [top_xor, ← steps_xor]
  refine congrArg (steps 8) ?_
  rw [BitVec.xor_assoc, BitVec.xor_assoc, ← BitVec.xor_assoc d, BitVec.xor_comm d (top x), BitVec.xor_assoc]
theorem sumFrom_xor (v d : W) (l : List UInt8) : sumFrom (v ^^^ d) l = sumFrom v l ^^^ steps (8 * l.length) d := by
  induction l generalizing v d with
  | nil => rfl
  | cons x l ih =>
    have e : byteStep (v ^^^ d) x = byteStep v x ^^^ steps 8 d := by
      unfold byteStep
      rw [← steps_xor]
      refine congrArg (steps 8) ?_
      rw [BitVec.xor_assoc, BitVec.xor_assoc, BitVec.xor_comm d]
    have e2 : 8 * (x :: l).length = 8 + 8 * l.length := by rw [List.length_cons]; omega
    rw [e2, steps_add, sumFrom_cons, sumFrom_cons, e, ih]
/-- l's bit k, counted from the highest one of the first byte, turned. -/
def flip (l : List UInt8) (k : Nat) : List UInt8 := l.modify (k / 8) (· ^^^ (128 >>> UInt8.ofNat (k % 8)))
def high : W := 2147483648#32
theorem top_bit : ∀ j, j < 8 → steps 8 (top (128 >>> UInt8.ofNat j)) = steps (8 - j) high := by decide +kernel
theorem high_back : ∀ j, j < 32 → steps j (high >>> j) = high := by decide +kernel
theorem flip_length (l : List UInt8) (k : Nat) : (flip l k).length = l.length := by simp [flip]
theorem modify_mid {α : Type} (p q : List α) (x : α) (f : α → α) : (p ++ x :: q).modify p.length f = p ++ f x :: q := by
  induction p with
  | nil => rfl
  | cons y p ih => simp [ih]
theorem flip_split (p q : List UInt8) (x : UInt8) (j : Nat) (hj : j < 8) : flip (p ++ x :: q) (8 * p.length + j) = p ++ (x ^^^ (128 >>> UInt8.ofNat j)) :: q := by
  have e1 : (8 * p.length + j) / 8 = p.length := by omega
  have e2 : (8 * p.length + j) % 8 = j := by omega
  unfold flip
  rw [e1, e2, modify_mid]
theorem sum_flip (l : List UInt8) (k : Nat) (hk : k < 8 * l.length) : sum (flip l k) = sum l ^^^ steps (8 * l.length - k) high := by
  have hlt : k / 8 < l.length := by omega
  have hj : k % 8 < 8 := Nat.mod_lt _ (by omega)
  have hl : l = l.take (k / 8) ++ l[k / 8] :: l.drop (k / 8 + 1) := by rw [List.getElem_cons_drop, List.take_append_drop]
  have hp : (l.take (k / 8)).length = k / 8 := by rw [List.length_take]; omega
  have hq : (l.drop (k / 8 + 1)).length = l.length - (k / 8 + 1) := by rw [List.length_drop]
  have hf := flip_split (l.take (k / 8)) (l.drop (k / 8 + 1)) l[k / 8] (k % 8) hj
  rw [← hl, hp, Nat.div_add_mod] at hf
  obtain ⟨n, hn⟩ : ∃ n, 8 * l.length - k = n := ⟨_, rfl⟩
  have hn2 : n = 8 - k % 8 + 8 * (l.length - (k / 8 + 1)) := by omega
  rw [hf, hn]
  conv => rhs; rw [hl]
  unfold sum
  rw [sumFrom_append, sumFrom_append]
  generalize sumFrom 4294967295#32 (l.take (k / 8)) = v
  show sumFrom (byteStep v (l[k / 8] ^^^ (128 >>> UInt8.ofNat (k % 8)))) _ = sumFrom (byteStep v l[k / 8]) _ ^^^ _
  have e := byteStep_xor v 0#32 l[k / 8] (128 >>> UInt8.ofNat (k % 8))
  rw [BitVec.xor_zero] at e
  have e0 : byteStep 0#32 (128 >>> UInt8.ofNat (k % 8)) = steps (8 - k % 8) high := by
    unfold byteStep
    rw [BitVec.zero_xor]
    exact top_bit _ hj
  rw [e, e0, sumFrom_xor, ← steps_add, hq, hn2]
end Crc
end Go.Proofs.YtoagcaldclljgaaDoor
