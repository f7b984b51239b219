/-
  PLAIN LEAN: the runes of two texts, one behind the other; texts with a mark in them; the pieces of a text between marks, and the text of pieces with marks between.
-/
import Derived.Test.YtnndanpahcdmaaaPlain
import Derived.Lib.Join
import Derived.Lib.Split
import Derived.Lib.IndexLaws
import Derived.Lib.IndexBytes
namespace Go.Proofs.Ytnndanpahcdmaaa
open Go.Lib

/-! ### a rune's bytes and whatever is behind -/
theorem dec1 (b0 : UInt8) (t : List UInt8) (h : b0.toNat < 128) : decodeL (b0 :: t) = (b0.toNat, 1) := by
  rw [decodeL_N]; unfold decodeN; rw [if_pos (by simpa using h)]; rfl
theorem dec2 (b0 b1 : UInt8) (t : List UInt8) (h : 194 ≤ b0.toNat ∧ b0.toNat < 224) (h1 : 128 ≤ b1.toNat ∧ b1.toNat < 192) : decodeL (b0 :: b1 :: t) = (b0.toNat % 32 * 64 + b1.toNat % 64, 2) := by
  rw [decodeL_N]
  simp only [List.getD_cons_zero, List.getD_cons_succ, List.length_cons]
  unfold decodeN
  rw [if_neg (by omega), if_pos ⟨by omega, by omega, by omega⟩, if_pos (by omega)]
theorem dec3 (b0 b1 b2 : UInt8) (t : List UInt8) (r : Nat) (h : 224 ≤ b0.toNat ∧ b0.toNat < 240) (h1 : 128 ≤ b1.toNat ∧ b1.toNat < 192) (h2 : 128 ≤ b2.toNat ∧ b2.toNat < 192)
    (hr : r + 925824 = b0.toNat * 4096 + b1.toNat * 64 + b2.toNat) (h3 : 2048 ≤ r) (h4 : r < 55296 ∨ 57344 ≤ r) : decodeL (b0 :: b1 :: b2 :: t) = (r, 3) := by
  rw [decodeL_N]
  simp only [List.getD_cons_zero, List.getD_cons_succ, List.length_cons]
  unfold decodeN
  have e : b0.toNat % 16 * 4096 + b1.toNat % 64 * 64 + b2.toNat % 64 = r := by omega
  rw [if_neg (by omega), if_neg (by omega), if_pos ⟨by omega, ⟨by omega, by omega⟩, by omega, by omega⟩, e, if_pos ⟨by omega, by omega⟩]
theorem dec4 (b0 b1 b2 b3 : UInt8) (t : List UInt8) (r : Nat) (h : 240 ≤ b0.toNat ∧ b0.toNat < 245) (h1 : 128 ≤ b1.toNat ∧ b1.toNat < 192) (h2 : 128 ≤ b2.toNat ∧ b2.toNat < 192) (h3 : 128 ≤ b3.toNat ∧ b3.toNat < 192)
    (hr : r + 63447168 = b0.toNat * 262144 + b1.toNat * 4096 + b2.toNat * 64 + b3.toNat) (h4 : 65536 ≤ r) (h5 : r ≤ 1114111) : decodeL (b0 :: b1 :: b2 :: b3 :: t) = (r, 4) := by
  rw [decodeL_N]
  simp only [List.getD_cons_zero, List.getD_cons_succ, List.length_cons]
  unfold decodeN
  have e : b0.toNat % 8 * 262144 + b1.toNat % 64 * 4096 + b2.toNat % 64 * 64 + b3.toNat % 64 = r := by omega
  rw [if_neg (by omega), if_neg (by omega), if_neg (by omega), if_pos ⟨by omega, ⟨by omega, by omega⟩, ⟨by omega, by omega⟩, by omega, by omega⟩, e, if_pos ⟨by omega, by omega⟩]
/-- What is behind does not matter to the first rune. -/
theorem dec_append (l m : List UInt8) (hne : l ≠ []) (hb : ¬ BadHead l) : decodeL (l ++ m) = decodeL l := by
  rcases head_cases l hne hb with ⟨b0, t, rfl, hw, h, hr⟩ | ⟨b0, b1, t, rfl, hw, h1, h2, h3, h4, hr, h5⟩ | ⟨b0, b1, b2, t, rfl, hw, h1, h2, h3, h4, h5, h6, hr, h7, h8⟩ | ⟨b0, b1, b2, b3, t, rfl, hw, h1, h2, h3, h4, h5, h6, h7, h8, hr, h9, h10⟩
  · rw [List.cons_append, dec1 _ _ h, dec1 _ _ h]
  · rw [List.cons_append, List.cons_append, dec2 _ _ _ ⟨h1, h2⟩ ⟨h3, h4⟩, dec2 _ _ _ ⟨h1, h2⟩ ⟨h3, h4⟩]
  · rw [List.cons_append, List.cons_append, List.cons_append, dec3 _ _ _ _ _ ⟨h1, h2⟩ ⟨h3, h4⟩ ⟨h5, h6⟩ hr h7 h8, dec3 _ _ _ _ _ ⟨h1, h2⟩ ⟨h3, h4⟩ ⟨h5, h6⟩ hr h7 h8]
  · rw [List.cons_append, List.cons_append, List.cons_append, List.cons_append, dec4 _ _ _ _ _ _ ⟨h1, h2⟩ ⟨h3, h4⟩ ⟨h5, h6⟩ ⟨h7, h8⟩ hr h9 h10, dec4 _ _ _ _ _ _ ⟨h1, h2⟩ ⟨h3, h4⟩ ⟨h5, h6⟩ ⟨h7, h8⟩ hr h9 h10]

theorem not_bad {l : List UInt8} {rs : List Nat} (hne : l ≠ []) (h : runes l = some rs) : ¬ BadHead l := fun hb => by rw [runes_bad l hne hb] at h; cases h
theorem runes_append (m : List UInt8) (rm : List Nat) (hm : runes m = some rm) : ∀ (l : List UInt8) (rl : List Nat), runes l = some rl → runes (l ++ m) = some (rl ++ rm) := by
  intro l
  induction l using text_ind with
  | h0 => intro rl h; rw [runes_nil] at h; cases h; simpa using hm
  | h1 l hne ih =>
    intro rl h
    have hb := not_bad hne h
    have hle := decodeL_le l hne
    rw [runes_step l hne hb] at h
    cases hd : runes (l.drop (decodeL l).2) with
    | none => rw [hd] at h; cases h
    | some rd =>
      rw [hd] at h
      simp only [Option.map_some, Option.some.injEq] at h
      have e := dec_append l m hne hb
      have hb2 : ¬ BadHead (l ++ m) := by unfold BadHead; rw [e]; exact hb
      rw [runes_step (l ++ m) (by simp [hne]) hb2, e, List.drop_append_of_le_length hle, ih rd hd, ← h]
      rfl
theorem runes_length : ∀ (l : List UInt8) (rl : List Nat), runes l = some rl → rl.length ≤ l.length := by
  intro l
  induction l using text_ind with
  | h0 => intro rl h; rw [runes_nil] at h; cases h; simp
  | h1 l hne ih =>
    intro rl h
    have hb := not_bad hne h
    have hw := decodeL_width l
    have hp : 0 < l.length := List.length_pos_iff.2 hne
    rw [runes_step l hne hb] at h
    cases hd : runes (l.drop (decodeL l).2) with
    | none => rw [hd] at h; cases h
    | some rd =>
      rw [hd] at h
      simp only [Option.map_some, Option.some.injEq] at h
      have := ih rd hd
      rw [List.length_drop] at this
      rw [← h, List.length_cons]
      omega
/-- A mark among the bytes is one among the runes. -/
theorem mark_in : ∀ (l : List UInt8) (rl : List Nat), runes l = some rl → 47 ∈ l → 47 ∈ rl := by
  intro l
  induction l using text_ind with
  | h0 => intro rl _ h; cases h
  | h1 l hne ih =>
    intro rl h hm
    have hb := not_bad hne h
    have hc := head_cases l hne hb
    rw [runes_step l hne hb] at h
    cases hd : runes (l.drop (decodeL l).2) with
    | none => rw [hd] at h; cases h
    | some rd =>
      rw [hd] at h
      simp only [Option.map_some, Option.some.injEq] at h
      rw [← h]
      have ih := ih rd hd
      rcases hc with ⟨b0, t, rfl, hw, h, hr⟩ | ⟨b0, b1, t, rfl, hw, h1, h2, h3, h4, hr⟩ | ⟨b0, b1, b2, t, rfl, hw, h1, h2, h3, h4, h5, h6, hr⟩ | ⟨b0, b1, b2, b3, t, rfl, hw, h1, h2, h3, h4, h5, h6, h7, h8, hr⟩
      · rw [hw] at ih
        rcases List.mem_cons.1 hm with e | hm
        · rw [hr, ← e]; simp
        · exact List.mem_cons_of_mem _ (ih (by simpa using hm))
      · rw [hw] at ih
        rcases List.mem_cons.1 hm with e | hm
        · exfalso; rw [← e] at h1; simp at h1
        rcases List.mem_cons.1 hm with e | hm
        · exfalso; rw [← e] at h3; simp at h3
        · exact List.mem_cons_of_mem _ (ih (by simpa using hm))
      · rw [hw] at ih
        rcases List.mem_cons.1 hm with e | hm
        · exfalso; rw [← e] at h1; simp at h1
        rcases List.mem_cons.1 hm with e | hm
        · exfalso; rw [← e] at h3; simp at h3
        rcases List.mem_cons.1 hm with e | hm
        · exfalso; rw [← e] at h5; simp at h5
        · exact List.mem_cons_of_mem _ (ih (by simpa using hm))
      · rw [hw] at ih
        rcases List.mem_cons.1 hm with e | hm
        · exfalso; rw [← e] at h1; simp at h1
        rcases List.mem_cons.1 hm with e | hm
        · exfalso; rw [← e] at h3; simp at h3
        rcases List.mem_cons.1 hm with e | hm
        · exfalso; rw [← e] at h5; simp at h5
        rcases List.mem_cons.1 hm with e | hm
        · exfalso; rw [← e] at h7; simp at h7
        · exact List.mem_cons_of_mem _ (ih (by simpa using hm))
theorem chk_mark (l : List UInt8) (h : 47 ∈ l) : chk l = false := by
  unfold chk
  cases hr : runes l with
  | none => rfl
  | some rs =>
    have : rs.all goodR = false := by
      rw [List.all_eq_false]
      exact ⟨47, mark_in l rs hr h, by decide⟩
    simp [this]
theorem chk_no_mark {l : List UInt8} (h : chk l = true) : 47 ∉ l := fun hm => by rw [chk_mark l hm] at h; cases h
theorem chk_ne {l : List UInt8} (h : chk l = true) : l ≠ [] := fun e => by subst e; simp [chk, runes_nil] at h
theorem chk_runes {l : List UInt8} (h : chk l = true) : (runes l).isSome = true := by
  unfold chk at h
  cases hr : runes l with
  | none => rw [hr] at h; cases h
  | some rs => rfl

/-! ### pieces and marks -/
theorem idx_at (c : UInt8) (t : List UInt8) : ∀ x : List UInt8, c ∉ x → indexByte (x ++ c :: t) c = x.length
  | [], _ => by simp [indexByte]
  | b :: x, h => by
    have hb : (b == c) = false := by simp at h; simpa using fun e => h.1 e.symm
    have ih := idx_at c t x (fun hm => h (List.mem_cons_of_mem _ hm))
    have hne : ((x.length : Int) == -1) = false := by simp
    simp only [List.cons_append, indexByte, hb, ih, hne, List.length_cons]
    simp
theorem idx_no (c : UInt8) : ∀ x : List UInt8, c ∉ x → indexByte x c = -1
  | [], _ => rfl
  | b :: x, h => by
    have hb : (b == c) = false := by simp at h; simpa using fun e => h.1 e.symm
    have ih := idx_no c x (fun hm => h (List.mem_cons_of_mem _ hm))
    simp [indexByte, hb, ih]
theorem join_cons2 (x : List UInt8) (l : List (List UInt8)) (hne : l ≠ []) : join (x :: l) [47] = x ++ 47 :: join l [47] := by
  match l, hne with
  | y :: r, _ => rw [join_cons, join_cons]; simp [joinTail]
theorem splitK_join : ∀ (l : List (List UInt8)) (k : Nat), l ≠ [] → (∀ x ∈ l, 47 ∉ x) → l.length ≤ k + 1 → splitK [47] 0 k (join l [47]) = l
  | [], _, h, _, _ => absurd rfl h
  | [x], 0, _, _, _ => by rw [join_one]; rfl
  | [x], k + 1, _, h, _ => by
    rw [join_one, splitK, index_one, idx_no 47 x (h x (by simp))]; rfl
  | x :: y :: r, 0, _, _, hl => by simp at hl
  | x :: y :: r, k + 1, _, h, hl => by
    rw [join_cons2 x (y :: r) (by simp), splitK, index_one, idx_at 47 _ x (h x (by simp))]
    have hne : ((x.length : Int) == -1) = false := by simp
    rw [hne]
    have e1 : (x ++ 47 :: join (y :: r) [47]).take ((x.length : Int).toNat + 0) = x := by simp
    have e2 : (x ++ 47 :: join (y :: r) [47]).drop ((x.length : Int).toNat + ([47] : List UInt8).length) = join (y :: r) [47] := by
      rw [← List.drop_drop]; simp
    rw [e1, e2, splitK_join (y :: r) k (by simp) (fun z hz => h z (by simp [hz])) (by simp at hl ⊢; omega)]
    rfl
theorem splitK_ne (k : Nat) (s : List UInt8) : splitK [47] 0 k s ≠ [] := by
  cases k with
  | zero => simp [splitK]
  | succ k => unfold splitK; split <;> simp
theorem join_splitK : ∀ (k : Nat) (s : List UInt8), join (splitK [47] 0 k s) [47] = s
  | 0, s => by rw [splitK, join_one]
  | k + 1, s => by
    unfold splitK
    split
    · rw [join_one]
    · rename_i hi
      rw [join_cons2 _ _ (splitK_ne k _), join_splitK k]
      rw [index_one] at hi ⊢
      obtain ⟨o, ho⟩ : ∃ o : Nat, indexByte s 47 = o := by
        have := indexByte_ge s 47
        have h2 : indexByte s 47 ≠ -1 := by simpa using hi
        exact ⟨(indexByte s 47).toNat, by omega⟩
      have hs := (indexByte_some ho).1
      rw [ho]
      have hlt : o < s.length := by
        by_cases e : o < s.length
        · exact e
        · rw [List.getElem?_eq_none (by omega)] at hs; cases hs
      have e3 : s.drop o = 47 :: s.drop (o + 1) := by
        rw [List.drop_eq_getElem_cons hlt]
        rw [List.getElem?_eq_getElem hlt] at hs
        rw [Option.some.inj hs]
      have e4 : (o : Int).toNat = o := by simp
      rw [e4, Nat.add_zero]
      show s.take o ++ 47 :: s.drop (o + 1) = s
      rw [← e3, List.take_append_drop]
theorem all_take_succ {α : Type} (p : α → Bool) (l : List α) (k : Nat) (x : α) (h : l[k]? = some x) : (l.take (k + 1)).all p = ((l.take k).all p && p x) := by
  rw [List.take_add_one, h]; simp
theorem all_false {α : Type} (p : α → Bool) (l : List α) (k : Nat) (x : α) (h : l[k]? = some x) (hp : p x = false) : l.all p = false := by
  rw [List.all_eq_false]
  exact ⟨x, List.mem_of_getElem? h, by simp [hp]⟩
end Go.Proofs.Ytnndanpahcdmaaa
