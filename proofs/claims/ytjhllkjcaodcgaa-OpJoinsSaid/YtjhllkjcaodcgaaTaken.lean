import Derived.Test.YtjhllkjcaodcgaaTake
namespace Go.Proofs.Ytjhllkjcaodcgaa
open Go.RowKit Go.Lib Go.PlainAid
theorem dn_off (n b0 b1 b2 b3 : Nat) (hc : 128 ≤ b0 ∧ b0 < 194 ∨ 245 ≤ b0 ∧ b0 < 256) : decodeN n b0 b1 b2 b3 = (65533, 1) := by
  unfold decodeN
  repeat' split
  all_goals first | rfl | (exfalso; omega)
theorem dn_2 (n b0 b1 b2 b3 : Nat) (k1 : b1 ≤ 255) (h1 : 194 ≤ b0) (h2 : b0 < 224) : decodeN n b0 b1 b2 b3 = if 2 ≤ n ∧ 128 ≤ b1 ∧ b1 < 192 then (b0 % 64 * 64 + b1 % 64, 2) else (65533, 1) := by
  unfold decodeN
  repeat' split
  all_goals first | rfl | (exfalso; omega) | (apply Prod.ext <;> simp only <;> omega)
theorem dn_3 (n b0 b1 b2 b3 : Nat) (k1 : b1 ≤ 255) (k2 : b2 ≤ 255) (h1 : 224 ≤ b0) (h2 : b0 < 240) : decodeN n b0 b1 b2 b3 =
    if 3 ≤ n ∧ (128 ≤ b1 ∧ b1 < 192) ∧ (128 ≤ b2 ∧ b2 < 192) ∧ 2048 ≤ (b0 % 16 * 64 + b1 % 64) * 64 + b2 % 64 ∧ ((b0 % 16 * 64 + b1 % 64) * 64 + b2 % 64 < 55296 ∨ 57343 < (b0 % 16 * 64 + b1 % 64) * 64 + b2 % 64) then ((b0 % 16 * 64 + b1 % 64) * 64 + b2 % 64, 3) else (65533, 1) := by
  unfold decodeN
  repeat' split
  all_goals first | rfl | (exfalso; omega) | (apply Prod.ext <;> simp only <;> omega)
theorem dn_4 (n b0 b1 b2 b3 : Nat) (k1 : b1 ≤ 255) (k2 : b2 ≤ 255) (k3 : b3 ≤ 255) (h1 : 240 ≤ b0) (h2 : b0 < 245) : decodeN n b0 b1 b2 b3 =
    if 4 ≤ n ∧ (128 ≤ b1 ∧ b1 < 192) ∧ (128 ≤ b2 ∧ b2 < 192) ∧ (128 ≤ b3 ∧ b3 < 192) ∧ 65536 ≤ ((b0 % 8 * 64 + b1 % 64) * 64 + b2 % 64) * 64 + b3 % 64 ∧ ((b0 % 8 * 64 + b1 % 64) * 64 + b2 % 64) * 64 + b3 % 64 ≤ 1114111 then (((b0 % 8 * 64 + b1 % 64) * 64 + b2 % 64) * 64 + b3 % 64, 4) else (65533, 1) := by
  unfold decodeN
  repeat' split
  all_goals first | rfl | (exfalso; omega) | (apply Prod.ext <;> simp only <;> omega)
theorem pick_if (c : Prop) [Decidable c] (r k : Nat) (hk : k ≠ 1) : (if (if c then (r, k) else (65533, 1)) = ((65533, 1) : Nat × Nat) then ((0, 0) : Nat × Nat) else (if c then (r, k) else (65533, 1))) = if c then (r, k) else (0, 0) := by
  by_cases h : c
  · rw [if_pos h, if_pos h, if_neg (by intro e; exact hk (congrArg Prod.snd e))]
  · rw [if_neg h, if_neg h, if_pos rfl]
/-- It is the runes' decoder, that tells 0 bytes where there is none. -/
theorem takeE_dec (n b0 b1 b2 b3 : Nat) (k0 : b0 ≤ 255) (k1 : b1 ≤ 255) (k2 : b2 ≤ 255) (k3 : b3 ≤ 255) :
    takeE n b0 b1 b2 b3 = if decodeN n b0 b1 b2 b3 = (65533, 1) then (0, 0) else decodeN n b0 b1 b2 b3 := by
  by_cases c0 : b0 < 128
  · have e : decodeN n b0 b1 b2 b3 = (b0, 1) := by unfold decodeN; rw [if_pos c0]
    rw [e, if_neg (by intro h; have := congrArg Prod.fst h; simp at this; omega)]
    unfold takeE; rw [if_pos c0]
  by_cases c2 : 194 ≤ b0 ∧ b0 < 224
  · rw [dn_2 n b0 b1 b2 b3 k1 c2.1 c2.2, pick_if _ _ _ (by omega)]
    unfold takeE; rw [if_neg c0, if_pos c2]
  by_cases c3 : 224 ≤ b0 ∧ b0 < 240
  · rw [dn_3 n b0 b1 b2 b3 k1 k2 c3.1 c3.2, pick_if _ _ _ (by omega)]
    unfold takeE; rw [if_neg c0, if_neg c2, if_pos c3]
  by_cases c4 : 240 ≤ b0 ∧ b0 < 245
  · rw [dn_4 n b0 b1 b2 b3 k1 k2 k3 c4.1 c4.2, pick_if _ _ _ (by omega)]
    unfold takeE; rw [if_neg c0, if_neg c2, if_neg c3, if_pos c4]
  · rw [dn_off n b0 b1 b2 b3 (by omega), if_pos rfl]
    unfold takeE; rw [if_neg c0, if_neg c2, if_neg c3, if_neg c4]
theorem bt_get (s : ByteArray) (k : Nat) : bt s k = ((s.get! k).toNat : Int) := by
  unfold bt
  by_cases h : k < s.size
  · rw [dif_pos h]; have := get_at s k h; rw [Nat.add_zero] at this; rw [this]
  · rw [dif_neg h]
    have : s.get! k = 0 := by
      have h2 : ¬ k < s.data.size := h
      show s.data[k]! = 0
      rw [getElem!_neg s.data k h2]; rfl
    rw [this]; rfl
/-- What is taken at a place of a text. -/
def tk (l : List UInt8) : Nat × Nat := if BadHead l then (0, 0) else decodeL l
theorem take_any (s : ByteArray) (p : Nat) (w : World) (hs : s.size ≤ 1000000) (hat : p < s.size) :
    Calls Try.prog 58 #[.string s, .int .i64 p] w fun e w' => e = .returned (.tuple #[.int .i64 (tk (s.data.toList.drop p)).1, .int .i64 (tk (s.data.toList.drop p)).2]) ∧ w = w' := by
  have k0 : (s.get! p).toNat ≤ 255 := by have := UInt8.toNat_lt (s.get! p); omega
  have k1 : (s.get! (p + 1)).toNat ≤ 255 := by have := UInt8.toNat_lt (s.get! (p + 1)); omega
  have k2 : (s.get! (p + 2)).toNat ≤ 255 := by have := UInt8.toNat_lt (s.get! (p + 2)); omega
  have k3 : (s.get! (p + 3)).toNat ≤ 255 := by have := UInt8.toNat_lt (s.get! (p + 3)); omega
  have e : tk (s.data.toList.drop p) = takeE (s.size - p) (s.get! p).toNat (s.get! (p + 1)).toNat (s.get! (p + 2)).toNat (s.get! (p + 3)).toNat := by
    rw [takeE_dec _ _ _ _ _ k0 k1 k2 k3, ← decode_at]
    unfold tk
    by_cases hb : BadHead (s.data.toList.drop p)
    · rw [if_pos hb, if_pos (Prod.ext ((bad_iff s p).1 hb).1 ((bad_iff s p).1 hb).2)]
    · rw [if_neg hb, if_neg (fun h => hb ((bad_iff s p).2 ⟨congrArg Prod.fst h, congrArg Prod.snd h⟩)), decodeL_drop]
  rw [e]
  by_cases c0 : (s.get! p).toNat < 194 ∨ 245 ≤ (s.get! p).toNat
  · exact take_1 s p _ _ _ _ w hs hat (bt_get s p) c0 k0
  by_cases c2 : (s.get! p).toNat < 224
  · exact take_2 s p _ _ _ _ w hs hat (bt_get s p) (bt_get s _) k1 (by omega) c2
  by_cases c3 : (s.get! p).toNat < 240
  · exact take_3 s p _ _ _ _ w hs hat (bt_get s p) (bt_get s _) (bt_get s _) k1 k2 (by omega) c3
  · exact take_4 s p _ _ _ _ w hs hat (bt_get s p) (bt_get s _) (bt_get s _) (bt_get s _) k1 k2 k3 (by omega) (by omega)
end Go.Proofs.Ytjhllkjcaodcgaa
