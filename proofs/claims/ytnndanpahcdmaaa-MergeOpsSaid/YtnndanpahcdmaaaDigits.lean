/-
  PLAIN LEAN, NO RUN OF ANY PROGRAM: numbers as digits to the base 128, the highest first, all but the last one 128 more.
-/
import GoSem.Op.String
namespace Go.Proofs.Ytnndanpahcdmaaa
namespace Vlq
/-- A number's digits, all of them with 128 more. -/
def high (n : Nat) : List UInt8 := if _h : n = 0 then [] else high (n / 128) ++ [UInt8.ofNat (n % 128 + 128)]
termination_by n
decreasing_by omega
/-- A number's bytes. -/
def one (n : Nat) : List UInt8 := high (n / 128) ++ [UInt8.ofNat (n % 128)]
theorem high_zero : high 0 = [] := by unfold high; rfl
theorem high_pos {n : Nat} (h : n ≠ 0) : high n = high (n / 128) ++ [UInt8.ofNat (n % 128 + 128)] := by
  conv => lhs; unfold high
  rw [dif_neg h]
def val (l : List UInt8) : Nat := l.foldl (fun a x => a * 128 + x.toNat % 128) 0
theorem val_snoc (l : List UInt8) (x : UInt8) : val (l ++ [x]) = val l * 128 + x.toNat % 128 := by simp [val]
theorem low_toNat (n : Nat) : (UInt8.ofNat (n % 128)).toNat = n % 128 := by rw [UInt8.toNat_ofNat']; omega
theorem up_toNat (n : Nat) : (UInt8.ofNat (n % 128 + 128)).toNat = n % 128 + 128 := by rw [UInt8.toNat_ofNat']; omega
theorem val_high (n : Nat) : val (high n) = n := by
  induction n using Nat.strongRecOn with
  | _ n ih =>
    by_cases h : n = 0
    · subst h; rw [high_zero]; rfl
    · rw [high_pos h, val_snoc, ih _ (by omega), up_toNat]; omega
theorem val_one (n : Nat) : val (one n) = n := by
  unfold one
  rw [val_snoc, val_high, low_toNat]; omega
theorem high_big (n : Nat) : ∀ x ∈ high n, 128 ≤ x.toNat := by
  induction n using Nat.strongRecOn with
  | _ n ih =>
    by_cases h : n = 0
    · subst h; rw [high_zero]; intro x hx; cases hx
    · rw [high_pos h]
      intro x hx
      rcases List.mem_append.1 hx with hx | hx
      · exact ih _ (by omega) x hx
      · rw [List.mem_singleton.1 hx, up_toNat]; omega
/-- Bytes up to the first one below 128 are the same ones. -/
theorem first_low : ∀ {h h' : List UInt8} {d d' : UInt8} {r r' : List UInt8}, (∀ x ∈ h, 128 ≤ x.toNat) → (∀ x ∈ h', 128 ≤ x.toNat) → d.toNat < 128 → d'.toNat < 128 →
    h ++ d :: r = h' ++ d' :: r' → h = h' ∧ d = d' ∧ r = r'
  | [], [], d, d', r, r', _, _, _, _, e => by simpa using e
  | [], y :: h', d, d', r, r', _, hb', hd, _, e => by
    simp at e
    have := hb' y (by simp)
    rw [← e.1] at this; omega
  | x :: h, [], d, d', r, r', hb, _, _, hd', e => by
    simp at e
    have := hb x (by simp)
    rw [e.1] at this; omega
  | x :: h, y :: h', d, d', r, r', hb, hb', hd, hd', e => by
    simp only [List.cons_append, List.cons.injEq] at e
    obtain ⟨h1, h2, h3⟩ := first_low (fun z hz => hb z (by simp [hz])) (fun z hz => hb' z (by simp [hz])) hd hd' e.2
    exact ⟨by rw [e.1, h1], h2, h3⟩
theorem one_append (n : Nat) (r : List UInt8) : one n ++ r = high (n / 128) ++ UInt8.ofNat (n % 128) :: r := by simp [one]
theorem low_lt (n : Nat) : (UInt8.ofNat (n % 128)).toNat < 128 := by rw [low_toNat]; omega
/-- No number's bytes begin with another one's. -/
theorem one_inj {n m : Nat} {r s : List UInt8} (h : one n ++ r = one m ++ s) : n = m ∧ r = s := by
  rw [one_append, one_append] at h
  obtain ⟨h1, h2, h3⟩ := first_low (high_big _) (high_big _) (low_lt n) (low_lt m) h
  refine ⟨?_, h3⟩
  have e : one n = one m := by unfold one; rw [h1, h2]
  rw [← val_one n, e, val_one]
theorem high_len (n : Nat) : ∀ k, n < 128 ^ k → (high n).length ≤ k := by
  induction n using Nat.strongRecOn with
  | _ n ih =>
    intro k hk
    by_cases h : n = 0
    · subst h; rw [high_zero]; exact Nat.zero_le _
    · cases k with
      | zero => simp at hk; omega
      | succ k =>
        rw [Nat.pow_succ] at hk
        have := ih (n / 128) (by omega) k (by omega)
        rw [high_pos h, List.length_append, List.length_singleton]; omega
theorem high_lt (n : Nat) : n < 128 ^ (high n).length := by
  induction n using Nat.strongRecOn with
  | _ n ih =>
    by_cases h : n = 0
    · subst h; rw [high_zero]; decide
    · have := ih (n / 128) (by omega)
      rw [high_pos h, List.length_append, List.length_singleton, Nat.pow_succ]; omega
theorem high_mono {a b : Nat} (h : a ≤ b) : (high a).length ≤ (high b).length := high_len a _ (Nat.lt_of_le_of_lt h (high_lt b))
theorem one_len (n : Nat) : (one n).length = (high (n / 128)).length + 1 := by simp [one]
theorem one_mono {a b : Nat} (h : a ≤ b) : (one a).length ≤ (one b).length := by
  rw [one_len, one_len]
  have := high_mono (Nat.div_le_div_right (c := 128) h)
  omega
theorem one_pos (n : Nat) : 1 ≤ (one n).length := by rw [one_len]; omega
theorem one_nine {n : Nat} (h : n < 9223372036854775808) : (one n).length ≤ 9 := by
  rw [one_len]
  have := high_len (n / 128) 8 (by have : (128 : Nat) ^ 8 = 72057594037927936 := by decide
                                   omega)
  omega
theorem one_more {a : Nat} (h : a ≠ 0) : (one (128 * a)).length = (one a).length + 1 := by
  rw [one_len, one_len]
  have e : 128 * a / 128 = a := by omega
  rw [e, high_pos h, List.length_append, List.length_singleton]
theorem one_small {n : Nat} (h : n < 128) : one n = [UInt8.ofNat n] := by
  have e1 : n / 128 = 0 := by omega
  have e2 : n % 128 = n := by omega
  unfold one
  rw [e1, e2, high_zero]; rfl
theorem val_append (a b : List UInt8) : val (a ++ b) = b.foldl (fun a x => a * 128 + x.toNat % 128) (val a) := by simp [val]
theorem val_lt (l : List UInt8) : val l < 128 ^ l.length := by
  suffices h : ∀ (l : List UInt8) (a : Nat) (k : Nat), a < 128 ^ k → l.foldl (fun a x => a * 128 + x.toNat % 128) a < 128 ^ (k + l.length) by
    have := h l 0 0 (by decide)
    rw [Nat.zero_add] at this
    exact this
  intro l
  induction l with
  | nil => intro a k h; simpa using h
  | cons x l ih =>
    intro a k h
    have := ih (a * 128 + x.toNat % 128) (k + 1) (by rw [Nat.pow_succ]; omega)
    rw [List.length_cons]
    rw [show k + (l.length + 1) = k + 1 + l.length by omega]
    exact this
/-- The first low byte is at place i. -/
theorem one_at {n : Nat} {r l : List UInt8} {i : Nat} {x : UInt8} (h : l = one n ++ r) (hi : l[i]? = some x) (hx : x.toNat < 128) (hb : ∀ j y, j < i → l[j]? = some y → 128 ≤ y.toNat) : one n = l.take (i + 1) := by
  have hl : i < l.length := (List.getElem?_eq_some_iff.1 hi).1
  have e : l = l.take i ++ x :: l.drop (i + 1) := by
    have := (List.getElem?_eq_some_iff.1 hi).2
    conv => lhs; rw [← List.take_append_drop i l]
    rw [List.drop_eq_getElem_cons hl, this]
  have hbt : ∀ y ∈ l.take i, 128 ≤ y.toNat := fun y hy => by
    obtain ⟨j, hj, rfl⟩ := List.mem_iff_getElem.1 hy
    rw [List.length_take] at hj
    refine hb j _ (by omega) ?_
    rw [List.getElem?_eq_getElem (by omega), List.getElem_take]
  rw [one_append] at h
  obtain ⟨h1, h2, h3⟩ := first_low (high_big (n / 128)) hbt (low_lt n) hx (h.symm.trans e)
  unfold one
  rw [h1, h2, List.take_add_one, hi]; rfl
/-- A number's bytes have one below 128 among them. -/
theorem one_none {n : Nat} {r l : List UInt8} {i : Nat} (h : l = one n ++ r) (hn : (one n).length ≤ i) (hb : ∀ j y, j < i → l[j]? = some y → 128 ≤ y.toNat) : False := by
  have hlen := one_len n
  have := hb (high (n / 128)).length (UInt8.ofNat (n % 128)) (by omega) (by rw [h, one_append]; simp)
  have := low_lt n
  omega
def ones (l : List Int) : List UInt8 := l.flatMap fun n => one n.toNat
theorem ones_snoc (l : List Int) (n : Int) : ones (l ++ [n]) = ones l ++ one n.toNat := by simp [ones]
theorem ones_append (a b : List Int) : ones (a ++ b) = ones a ++ ones b := by simp [ones]
theorem ones_cons (n : Int) (l : List Int) : ones (n :: l) = one n.toNat ++ ones l := by simp [ones]
theorem ones_len {l : List Int} (h : ∀ n ∈ l, n ≤ 9223372036854775807) : (ones l).length ≤ 9 * l.length := by
  induction l with
  | nil => simp [ones]
  | cons n l ih =>
    have h1 := ih fun m hm => h m (by simp [hm])
    have h2 := h n (by simp)
    have h3 := one_nine (n := n.toNat) (by omega)
    rw [ones_cons, List.length_append, List.length_cons]; omega
/-- What b begins with is this number's bytes, and r stands behind. -/
def Takes (b : List UInt8) (n : Nat) (r : List UInt8) : Prop := b = one n ++ r ∧ n < 9223372036854775808
theorem Takes.inj {b : List UInt8} {n m : Nat} {r s : List UInt8} (h : Takes b n r) (k : Takes b m s) : n = m ∧ r = s := one_inj (h.1.symm.trans k.1)
end Vlq
end Go.Proofs.Ytnndanpahcdmaaa
