/-
  PLAIN LEAN, NO RUN OF ANY PROGRAM: a text's runes as a function on lists of bytes, which texts are names, and which of two texts stands ahead; what follows of them.
-/
import Derived.Lib.MapLaws
import Derived.Lib.Strings
import Derived.Lib.TrimUEq
import GoSem.Op.String
namespace Go.Proofs.Ytnndanpahcdmaaa
open Go.Lib

/-- A rune that a name may have. -/
def goodR (r : Nat) : Bool := !(decide (r < 32)) && (!(r == 47) && !(r == 127))
/-- The head of this text is no rune. -/
def BadHead (l : List UInt8) : Prop := (decodeL l).1 = 65533 ∧ (decodeL l).2 = 1
instance (l : List UInt8) : Decidable (BadHead l) := inferInstanceAs (Decidable (_ ∧ _))
def runesF : Nat → List UInt8 → Option (List Nat)
  | 0, _ => some []
  | n + 1, l => if l = [] then some [] else if BadHead l then none else (runesF n (l.drop (decodeL l).2)).map ((decodeL l).1 :: ·)
/-- A text's runes, if it has some. -/
def runes (l : List UInt8) : Option (List Nat) := runesF l.length l

theorem runesF_nil : ∀ n, runesF n [] = some []
  | 0 => rfl
  | _ + 1 => by simp [runesF]
theorem runesF_fuel : ∀ (n m : Nat) (l : List UInt8), l.length ≤ n → l.length ≤ m → runesF n l = runesF m l
  | 0, m, l, hn, _ => by
    have : l = [] := List.eq_nil_of_length_eq_zero (by omega)
    subst this
    rw [runesF_nil, runesF_nil]
  | n + 1, 0, l, _, hm => by
    have : l = [] := List.eq_nil_of_length_eq_zero (by omega)
    subst this
    rw [runesF_nil, runesF_nil]
  | n + 1, m + 1, l, hn, hm => by
    unfold runesF
    by_cases hne : l = []
    · simp [hne]
    · have hw := decodeL_width l
      have hl : 0 < l.length := List.length_pos_iff.2 hne
      rw [if_neg hne, if_neg hne, runesF_fuel n m (l.drop (decodeL l).2) (by rw [List.length_drop]; omega) (by rw [List.length_drop]; omega)]
theorem runes_nil : runes [] = some [] := rfl
theorem runes_bad (l : List UInt8) (hne : l ≠ []) (hb : BadHead l) : runes l = none := by
  have hl : 0 < l.length := List.length_pos_iff.2 hne
  obtain ⟨n, hn⟩ : ∃ n, l.length = n + 1 := ⟨l.length - 1, by omega⟩
  unfold runes
  rw [hn]
  unfold runesF
  rw [if_neg hne, if_pos hb]
theorem runes_step (l : List UInt8) (hne : l ≠ []) (hb : ¬ BadHead l) : runes l = (runes (l.drop (decodeL l).2)).map ((decodeL l).1 :: ·) := by
  have hl : 0 < l.length := List.length_pos_iff.2 hne
  have hw := decodeL_width l
  obtain ⟨n, hn⟩ : ∃ n, l.length = n + 1 := ⟨l.length - 1, by omega⟩
  unfold runes
  rw [hn]
  rw [runesF_fuel (l.drop (decodeL l).2).length n (l.drop (decodeL l).2) (Nat.le_refl _) (by rw [List.length_drop]; omega)]
  show runesF (n + 1) l = _
  conv => lhs; unfold runesF
  rw [if_neg hne, if_neg hb]

/-- From what is behind the first rune to the whole. -/
theorem text_ind {P : List UInt8 → Prop} (h0 : P []) (h1 : ∀ l, l ≠ [] → P (l.drop (decodeL l).2) → P l) : ∀ l, P l := by
  have H : ∀ (n : Nat) (l : List UInt8), l.length ≤ n → P l := by
    intro n
    induction n with
    | zero =>
      intro l hl
      have : l = [] := List.eq_nil_of_length_eq_zero (by omega)
      subst this; exact h0
    | succ n ih =>
      intro l hl
      by_cases hne : l = []
      · subst hne; exact h0
      · have hp : 0 < l.length := List.length_pos_iff.2 hne
        have hw := decodeL_width l
        exact h1 l hne (ih _ (by rw [List.length_drop]; omega))
  exact fun l => H l.length l (Nat.le_refl _)

/-- A rune's bytes, and its number, by how many there are. -/
theorem head_cases (l : List UInt8) (hne : l ≠ []) (hb : ¬ BadHead l) :
    (∃ b0 t, l = b0 :: t ∧ (decodeL l).2 = 1 ∧ b0.toNat < 128 ∧ (decodeL l).1 = b0.toNat) ∨
    (∃ b0 b1 t, l = b0 :: b1 :: t ∧ (decodeL l).2 = 2 ∧ 194 ≤ b0.toNat ∧ b0.toNat < 224 ∧ 128 ≤ b1.toNat ∧ b1.toNat < 192 ∧ (decodeL l).1 + 12416 = b0.toNat * 64 + b1.toNat ∧ 128 ≤ (decodeL l).1) ∨
    (∃ b0 b1 b2 t, l = b0 :: b1 :: b2 :: t ∧ (decodeL l).2 = 3 ∧ 224 ≤ b0.toNat ∧ b0.toNat < 240 ∧ 128 ≤ b1.toNat ∧ b1.toNat < 192 ∧ 128 ≤ b2.toNat ∧ b2.toNat < 192 ∧ (decodeL l).1 + 925824 = b0.toNat * 4096 + b1.toNat * 64 + b2.toNat ∧ 2048 ≤ (decodeL l).1 ∧ ((decodeL l).1 < 55296 ∨ 57344 ≤ (decodeL l).1)) ∨
    (∃ b0 b1 b2 b3 t, l = b0 :: b1 :: b2 :: b3 :: t ∧ (decodeL l).2 = 4 ∧ 240 ≤ b0.toNat ∧ b0.toNat < 245 ∧ 128 ≤ b1.toNat ∧ b1.toNat < 192 ∧ 128 ≤ b2.toNat ∧ b2.toNat < 192 ∧ 128 ≤ b3.toNat ∧ b3.toNat < 192 ∧ (decodeL l).1 + 63447168 = b0.toNat * 262144 + b1.toNat * 4096 + b2.toNat * 64 + b3.toNat ∧ 65536 ≤ (decodeL l).1 ∧ (decodeL l).1 ≤ 1114111) := by
  have hd := decodeL_N l
  unfold BadHead at hb
  rw [hd] at hb ⊢
  match l, hne with
  | b0 :: r, _ =>
    have k0 := UInt8.toNat_lt b0
    simp only [List.getD_cons_zero, List.length_cons] at hb ⊢
    unfold decodeN at hb ⊢
    by_cases c0 : b0.toNat < 128
    · rw [if_pos c0] at hb ⊢
      exact .inl ⟨b0, r, rfl, rfl, c0, rfl⟩
    rw [if_neg c0] at hb ⊢
    match r with
    | [] =>
      exfalso
      simp only [List.length_nil] at hb
      repeat' (split at hb)
      all_goals first | omega | exact hb ⟨rfl, rfl⟩
    | b1 :: r1 =>
      have k1 := UInt8.toNat_lt b1
      simp only [List.getD_cons_succ, List.getD_cons_zero, List.length_cons] at hb ⊢
      by_cases c1 : b0.toNat / 32 = 6 ∧ (1 < r1.length + 1 + 1 ∧ b1.toNat / 64 = 2)
      · rw [if_pos c1] at hb ⊢
        by_cases d1 : b0.toNat % 32 * 64 + b1.toNat % 64 ≥ 128
        · rw [if_pos d1] at hb ⊢
          exact .inr (.inl ⟨b0, b1, r1, rfl, rfl, by omega, by omega, by omega, by omega, by simp only; omega, by simp only; omega⟩)
        · rw [if_neg d1] at hb
          exact absurd ⟨rfl, rfl⟩ hb
      rw [if_neg c1] at hb ⊢
      match r1 with
      | [] =>
        exfalso
        simp only [List.length_nil] at hb
        repeat' (split at hb)
        all_goals first | omega | exact hb ⟨rfl, rfl⟩
      | b2 :: r2 =>
        have k2 := UInt8.toNat_lt b2
        simp only [List.getD_cons_succ, List.getD_cons_zero, List.length_cons] at hb ⊢
        by_cases c2 : b0.toNat / 16 = 14 ∧ (1 < r2.length + 1 + 1 + 1 ∧ b1.toNat / 64 = 2) ∧ (2 < r2.length + 1 + 1 + 1 ∧ b2.toNat / 64 = 2)
        · rw [if_pos c2] at hb ⊢
          split at hb
          · rename_i d2
            rw [if_pos d2]
            exact .inr (.inr (.inl ⟨b0, b1, b2, r2, rfl, rfl, by omega, by omega, by omega, by omega, by omega, by omega, by simp only; omega, by simp only; omega, by simp only; omega⟩))
          · exact absurd ⟨rfl, rfl⟩ hb
        rw [if_neg c2] at hb ⊢
        match r2 with
        | [] =>
          exfalso
          simp only [List.length_nil] at hb
          repeat' (split at hb)
          all_goals first | omega | exact hb ⟨rfl, rfl⟩
        | b3 :: r3 =>
          have k3 := UInt8.toNat_lt b3
          simp only [List.getD_cons_zero, List.length_cons] at hb ⊢
          by_cases c3 : b0.toNat / 8 = 30 ∧ (1 < r3.length + 1 + 1 + 1 + 1 ∧ b1.toNat / 64 = 2) ∧ (2 < r3.length + 1 + 1 + 1 + 1 ∧ b2.toNat / 64 = 2) ∧ (3 < r3.length + 1 + 1 + 1 + 1 ∧ b3.toNat / 64 = 2)
          · rw [if_pos c3] at hb ⊢
            split at hb
            · rename_i d3
              rw [if_pos d3]
              exact .inr (.inr (.inr ⟨b0, b1, b2, b3, r3, rfl, rfl, by omega, by omega, by omega, by omega, by omega, by omega, by omega, by omega, by simp only; omega, by simp only; omega, by simp only; omega⟩))
            · exact absurd ⟨rfl, rfl⟩ hb
          rw [if_neg c3] at hb
          exact absurd ⟨rfl, rfl⟩ hb

/-- At a text whose first rune is U+FFFD: that rune's three bytes stand there, or none. -/
theorem repl (l : List UInt8) (hne : l ≠ []) (hr : (decodeL l).1 = 65533) : hasPrefix l [239, 191, 189] = !decide (BadHead l) := by
  by_cases hb : BadHead l
  · rw [decide_eq_true hb]
    match l, hne with
    | b0 :: r, _ =>
      by_cases h : hasPrefix (b0 :: r) [239, 191, 189] = true
      · exfalso
        unfold hasPrefix at h
        match r with
        | [] => simp [List.isPrefixOf] at h
        | [b1] => simp [List.isPrefixOf] at h
        | b1 :: b2 :: t =>
          simp only [List.isPrefixOf, Bool.and_true, Bool.and_eq_true, beq_iff_eq] at h
          obtain ⟨rfl, rfl, rfl⟩ := h
          have hd := decodeL_N (239 :: 191 :: 189 :: t)
          have h2 := hb.2
          rw [hd] at h2
          simp [decodeN] at h2
      · simpa using h
  · rw [decide_eq_false hb]
    rcases head_cases l hne hb with ⟨b0, t, rfl, hw, h⟩ | ⟨b0, b1, t, rfl, hw, h⟩ | ⟨b0, b1, b2, t, rfl, hw, h⟩ | ⟨b0, b1, b2, b3, t, rfl, hw, h⟩
    · omega
    · omega
    · have e0 : b0 = 239 := UInt8.toNat_inj.1 (by show b0.toNat = 239; omega)
      have e1 : b1 = 191 := UInt8.toNat_inj.1 (by show b1.toNat = 191; omega)
      have e2 : b2 = 189 := UInt8.toNat_inj.1 (by show b2.toNat = 189; omega)
      subst e0 e1 e2
      simp [hasPrefix, List.isPrefixOf]
    · omega

/-- Whether a text is a name. -/
def chk (l : List UInt8) : Bool := match runes l with
  | none => false
  | some rs => rs.all goodR && (decide (1 ≤ rs.length) && (decide (rs.length ≤ 20) && (!(l == [46]) && !(l == [46, 46]))))

/-- Whether a text stands ahead of another one. -/
def lessB (a b : List UInt8) : Bool := if (runes a).isSome = (runes b).isSome then Op.bytesLess a b else (runes a).isSome

theorem bl_irrefl : ∀ a : List UInt8, Op.bytesLess a a = false
  | [] => rfl
  | a :: x => by
    have h := bl_irrefl x
    simp [Op.bytesLess, h]
theorem bl_total : ∀ a b : List UInt8, a ≠ b → (Op.bytesLess a b = !Op.bytesLess b a)
  | [], [], h => absurd rfl h
  | [], _ :: _, _ => rfl
  | _ :: _, [], _ => rfl
  | a :: x, b :: y, h => by
    by_cases e : a = b
    · subst e
      have := bl_total x y (fun e => h (by rw [e]))
      simp [Op.bytesLess, this]
    · have e1 : (a == b) = false := by simpa using e
      have e2 : (b == a) = false := by simpa using fun h => e h.symm
      have n : a.toNat ≠ b.toNat := fun h => e (UInt8.toNat_inj.1 h)
      simp only [Op.bytesLess, e1, e2, Bool.false_and, Bool.or_false]
      rw [Bool.eq_iff_iff]
      simp only [decide_eq_true_eq, Bool.not_eq_true', decide_eq_false_iff_not, UInt8.lt_iff_toNat_lt]
      omega
theorem bl_trans : ∀ a b c : List UInt8, Op.bytesLess a b = true → Op.bytesLess b c = true → Op.bytesLess a c = true
  | _, [], _, h, _ => by simp [Op.bytesLess] at h
  | _, _ :: _, [], _, h => by simp [Op.bytesLess] at h
  | [], _ :: _, _ :: _, _, _ => rfl
  | a :: x, b :: y, c :: z, h, k => by
    simp only [Op.bytesLess, Bool.or_eq_true, Bool.and_eq_true, decide_eq_true_eq, beq_iff_eq, UInt8.lt_iff_toNat_lt] at h k ⊢
    rcases h with h | ⟨rfl, h⟩ <;> rcases k with k | ⟨rfl, k⟩
    · left; omega
    · left; omega
    · left; omega
    · right; exact ⟨rfl, bl_trans x y z h k⟩

theorem lessB_irrefl (a : List UInt8) : lessB a a = false := by simp [lessB, bl_irrefl]
theorem lessB_total (a b : List UInt8) (h : a ≠ b) : lessB a b = !lessB b a := by
  unfold lessB
  cases (runes a).isSome <;> cases (runes b).isSome <;> simp [bl_total a b h]
theorem lessB_trans (a b c : List UInt8) (h : lessB a b = true) (k : lessB b c = true) : lessB a c = true := by
  unfold lessB at h k ⊢
  cases ha : (runes a).isSome <;> cases hb : (runes b).isSome <;> cases hc : (runes c).isSome <;> simp_all <;> exact bl_trans a b c h k
end Go.Proofs.Ytnndanpahcdmaaa
