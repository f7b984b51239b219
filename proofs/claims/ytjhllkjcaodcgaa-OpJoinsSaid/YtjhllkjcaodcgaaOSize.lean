/-
  PLAIN LEAN, NO RUN OF ANY PROGRAM: an operation that may be is short.
-/
import Derived.Test.YtjhllkjcaodcgaaRPut
namespace Go.Proofs.Ytjhllkjcaodcgaa
open Go.RowKit Go.Lib
theorem runes_four : ∀ (l : List UInt8) (rl : List Nat), runes l = some rl → l.length ≤ 4 * rl.length := by
  intro l
  induction l using text_ind with
  | h0 => intro rl h; simp
  | h1 l hne ih =>
    intro rl h
    have hb := not_bad hne h
    have hw : (decodeL l).2 ≤ 4 := by
      rcases head_cases l hne hb with ⟨_, _, _, e, _⟩ | ⟨_, _, _, _, e, _⟩ | ⟨_, _, _, _, _, e, _⟩ | ⟨_, _, _, _, _, _, e, _⟩ <;> omega
    rw [runes_step l hne hb] at h
    cases hd : runes (l.drop (decodeL l).2) with
    | none => rw [hd] at h; cases h
    | some rd =>
      rw [hd] at h
      simp only [Option.map_some, Option.some.injEq] at h
      have := ih rd hd
      rw [List.length_drop] at this
      rw [← h, List.length_cons]
      omega
theorem one_short {n k : Nat} (h : n < 128 ^ (k + 1)) : (Vlq.one n).length ≤ k + 1 := by
  rw [Vlq.one_len]
  have := Vlq.high_len (n / 128) k (by rw [Nat.pow_succ] at h; omega)
  omega
theorem txt_size {o : Opn} (ho : mayO o = true) : (opB o).length ≤ 150 := by
  obtain ⟨h1, h2, h3⟩ := mayO_parts ho
  have p3 : (128 : Nat) ^ 3 = 2097152 := by decide
  have p4 : (128 : Nat) ^ 4 = 268435456 := by decide
  have e1 := one_short (n := o.c.toNat) (k := 2) (by omega)
  have e2 := one_short (n := o.r.toNat) (k := 0) (by omega)
  have e3 := one_short (n := o.k.toNat) (k := 0) (by omega)
  have e4 := one_short (n := o.n.toNat) (k := 3) (by omega)
  have ht : (txt o).size ≤ 80 := by
    unfold txt
    rcases h3 with ⟨hk, _, hc, _⟩ | ⟨hk, hd, _, _⟩
    · rw [if_pos hk]
      obtain ⟨rs, hr, hl⟩ := chk_size hc
      have := runes_four _ _ hr
      have hz : o.s.data.toList.length = o.s.size := by simp
      omega
    · rw [if_neg (by omega)]; omega
  have e6 := one_short (n := (txt o).size) (k := 0) (by omega)
  have e7 : (txt o).data.toList.length = (txt o).size := by simp
  have e5 : (if o.k = 1 then Vlq.one o.p.toNat else []).length ≤ 4 := by
    rcases h3 with ⟨hk, hp, _⟩ | ⟨hk, _⟩
    · rw [if_pos hk]
      exact one_short (n := o.p.toNat) (k := 3) (by omega)
    · rw [if_neg (by omega)]; simp
  unfold opB
  simp only [List.length_append, e7]
  omega
theorem may_size {o : Opn} (ho : mayO o = true) : o.s.size ≤ 80 ∧ o.d.size ≤ 64 := by
  obtain ⟨_, _, h3⟩ := mayO_parts ho
  rcases h3 with ⟨_, _, hc, hd⟩ | ⟨_, hd, _, hs⟩
  · obtain ⟨rs, hr, hl⟩ := chk_size hc
    have := runes_four _ _ hr
    have hz : o.s.data.toList.length = o.s.size := by simp
    rw [hd]
    exact ⟨by omega, by decide⟩
  · rw [hs]
    exact ⟨by decide, hd⟩
end Go.Proofs.Ytjhllkjcaodcgaa
