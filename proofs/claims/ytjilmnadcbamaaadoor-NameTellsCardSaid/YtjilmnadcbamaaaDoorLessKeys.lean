import Derived.Test.YtjilmnadcbamaaaDoorRefLess
namespace Go.Proofs.YtjilmnadcbamaaaDoor
open Go.RowKit Go.Lib Go.PlainAid
theorem bl1 (b c : UInt8) (t u : List UInt8) (h : b.toNat < c.toNat) : Op.bytesLess (b :: t) (c :: u) = true := by
  simp [Op.bytesLess, UInt8.lt_iff_toNat_lt, h]
theorem bl_eq (b c : UInt8) (t u : List UInt8) (h : b.toNat = c.toNat) : Op.bytesLess (b :: t) (c :: u) = Op.bytesLess t u := by
  obtain rfl := UInt8.toNat_inj.1 h
  simp [Op.bytesLess]
theorem bl_append (x y : List UInt8) : ∀ p : List UInt8, Op.bytesLess (p ++ x) (p ++ y) = Op.bytesLess x y
  | [] => rfl
  | b :: p => by rw [List.cons_append, List.cons_append, bl_eq _ _ _ _ rfl, bl_append x y p]
theorem ord_lt (a b : List UInt8) (ha : a ≠ []) (hb : b ≠ []) (na : ¬ BadHead a) (nb : ¬ BadHead b) (h : (decodeL a).1 < (decodeL b).1) : Op.bytesLess a b = true := by
  rcases head_cases a ha na with ⟨b0, t, ea, hw, h1, hr⟩ | ⟨b0, b1, t, ea, hw, h1, h2, h3, h4, hr, h5⟩ | ⟨b0, b1, b2, t, ea, hw, h1, h2, h3, h4, h5, h6, hr, h7, h8⟩ | ⟨b0, b1, b2, b3, t, ea, hw, h1, h2, h3, h4, h5, h6, h7, h8, hr, h9, h10⟩ <;>
  rcases head_cases b hb nb with ⟨c0, u, eb, kw, k1, kr⟩ | ⟨c0, c1, u, eb, kw, k1, k2, k3, k4, kr, k5⟩ | ⟨c0, c1, c2, u, eb, kw, k1, k2, k3, k4, k5, k6, kr, k7, k8⟩ | ⟨c0, c1, c2, c3, u, eb, kw, k1, k2, k3, k4, k5, k6, k7, k8, kr, k9, k10⟩ <;>
  rw [ea, eb] <;>
  (by_cases e0 : b0.toNat < c0.toNat
   · exact bl1 _ _ _ _ e0
   · first
     | (exfalso; omega)
     | (rw [bl_eq _ _ _ _ (by omega)]
        by_cases e1 : b1.toNat < c1.toNat
        · exact bl1 _ _ _ _ e1
        · first
          | (exfalso; omega)
          | (rw [bl_eq _ _ _ _ (by omega)]
             by_cases e2 : b2.toNat < c2.toNat
             · exact bl1 _ _ _ _ e2
             · first
               | (exfalso; omega)
               | (rw [bl_eq _ _ _ _ (by omega)]
                  exact bl1 _ _ _ _ (by omega)))))
theorem ord_eq (a b : List UInt8) (ha : a ≠ []) (hb : b ≠ []) (na : ¬ BadHead a) (nb : ¬ BadHead b) (h : (decodeL a).1 = (decodeL b).1) : Op.bytesLess a b = Op.bytesLess (a.drop (decodeL a).2) (b.drop (decodeL b).2) := by
  have e1 := encode_decode a ha na
  have e2 := encode_decode b hb nb
  rw [h] at e1
  have e : a.take (decodeL a).2 = b.take (decodeL b).2 := e1.symm.trans e2
  conv => lhs; rw [← List.take_append_drop (decodeL a).2 a, ← List.take_append_drop (decodeL b).2 b, e]
  exact bl_append _ _ _
theorem bl_nat : ∀ (a b : List UInt8) (ra rb : List Nat), runes a = some ra → runes b = some rb → Op.bytesLess a b = natLess ra rb := by
  intro a
  induction a using text_ind with
  | h0 =>
    intro b ra rb h1 h2
    rw [runes_nil] at h1
    cases h1
    cases b with
    | nil => rw [runes_nil] at h2; cases h2; rfl
    | cons c u =>
      have nb := not_bad (by simp) h2
      rw [runes_step _ (by simp) nb] at h2
      cases hd : runes ((c :: u).drop (decodeL (c :: u)).2) with
      | none => rw [hd] at h2; cases h2
      | some rd =>
        rw [hd] at h2
        simp only [Option.map_some, Option.some.injEq] at h2
        rw [← h2]; rfl
  | h1 a ha ih =>
    intro b ra rb h1 h2
    have na := not_bad ha h1
    rw [runes_step a ha na] at h1
    cases hd : runes (a.drop (decodeL a).2) with
    | none => rw [hd] at h1; cases h1
    | some ra' =>
      rw [hd] at h1
      simp only [Option.map_some, Option.some.injEq] at h1
      subst h1
      by_cases hb : b = []
      · subst hb
        rw [runes_nil] at h2
        cases h2
        cases a with
        | nil => exact absurd rfl ha
        | cons => rfl
      · have nb := not_bad hb h2
        rw [runes_step b hb nb] at h2
        cases hd2 : runes (b.drop (decodeL b).2) with
        | none => rw [hd2] at h2; cases h2
        | some rb' =>
          rw [hd2] at h2
          simp only [Option.map_some, Option.some.injEq] at h2
          subst h2
          show _ = (decide ((decodeL a).1 < (decodeL b).1) || ((decodeL a).1 == (decodeL b).1 && natLess ra' rb'))
          rcases Nat.lt_trichotomy (decodeL a).1 (decodeL b).1 with h | h | h
          · rw [ord_lt a b ha hb na nb h, decide_eq_true h]; rfl
          · rw [ord_eq a b ha hb na nb h, ih _ ra' rb' hd hd2, h]
            simp
          · have e := ord_lt b a hb ha nb na h
            have hne : a ≠ b := fun e => by rw [e] at h; omega
            rw [bl_total a b hne, e, decide_eq_false (by omega), beq_eq_false_iff_ne.2 (by omega)]
            rfl
theorem bl_shift : ∀ a b : List UInt8, Op.bytesLess a b = natLess (a.map fun b => 1114112 + b.toNat) (b.map fun b => 1114112 + b.toNat)
  | [], [] => rfl
  | [], _ :: _ => rfl
  | _ :: _, [] => rfl
  | a :: x, b :: y => by
    rw [List.map_cons, List.map_cons]
    show (decide (a < b) || (a == b && Op.bytesLess x y)) = (decide (1114112 + a.toNat < 1114112 + b.toNat) || (1114112 + a.toNat == 1114112 + b.toNat && natLess _ _))
    rw [bl_shift x y]
    have e1 : decide (a < b) = decide (1114112 + a.toNat < 1114112 + b.toNat) := decide_eq_decide.2 (by rw [UInt8.lt_iff_toNat_lt]; omega)
    have e2 : (a == b) = (1114112 + a.toNat == 1114112 + b.toNat) := by
      rw [Bool.eq_iff_iff, beq_iff_eq, beq_iff_eq, ← UInt8.toNat_inj]; omega
    rw [e1, e2]
theorem runes_head {l : List UInt8} {r : Nat} {rs : List Nat} (h : runes l = some (r :: rs)) : r ≤ 1114111 := by
  by_cases hl : l = []
  · subst hl; rw [runes_nil] at h; cases h
  · have nb := not_bad hl h
    rw [runes_step l hl nb] at h
    cases hd : runes (l.drop (decodeL l).2) with
    | none => rw [hd] at h; cases h
    | some rd =>
      rw [hd] at h
      simp only [Option.map_some, Option.some.injEq, List.cons.injEq] at h
      rw [← h.1]
      exact decodeL_rune l
theorem none_cons {l : List UInt8} (h : runes l = none) : ∃ b t, l = b :: t := by
  cases l with
  | nil => rw [runes_nil] at h; cases h
  | cons b t => exact ⟨b, t, rfl⟩
/-- The order by bytes is the order by what texts are taken by. -/
theorem less_keys (a b : List UInt8) : lessB a b = natLess (keysL a) (keysL b) := by
  unfold lessB keysL
  cases ha : runes a with
  | none =>
    cases hb : runes b with
    | none => simp; exact bl_shift a b
    | some rb =>
      obtain ⟨c, t, rfl⟩ := none_cons ha
      cases rb with
      | nil => rfl
      | cons r rs =>
        have := runes_head hb
        simp only [Option.isSome_none, Option.isSome_some, List.map_cons, natLess]
        rw [decide_eq_false (by omega), beq_eq_false_iff_ne.2 (by omega)]
        rfl
  | some ra =>
    cases hb : runes b with
    | none =>
      obtain ⟨c, t, rfl⟩ := none_cons hb
      cases ra with
      | nil => rfl
      | cons r rs =>
        have := runes_head ha
        simp only [Option.isSome_none, Option.isSome_some, List.map_cons, natLess]
        rw [decide_eq_true (by omega)]
        rfl
    | some rb => simp; exact bl_nat a b ra rb ha hb
end Go.Proofs.YtjilmnadcbamaaaDoor
