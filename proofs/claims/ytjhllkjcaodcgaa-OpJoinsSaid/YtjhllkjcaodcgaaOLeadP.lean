/-
  The landed package op: Take. 
-/
import Derived.Test.YtjhllkjcaodcgaaOParts
namespace Go.Proofs.Ytjhllkjcaodcgaa
open Go.RowKit Go.Lib
theorem may_short {o : Opn} (ho : mayO o = true) : (opB o).length ≤ 134 := by
  obtain ⟨h1, h2, h3⟩ := mayO_parts ho
  have hz := may_size ho
  have p3 : (128 : Nat) ^ 3 = 2097152 := by decide
  have p4 : (128 : Nat) ^ 4 = 268435456 := by decide
  have e1 := one_short (n := o.c.toNat) (k := 2) (by omega)
  have e2 := one_short (n := o.r.toNat) (k := 0) (by omega)
  have e3 := one_short (n := o.k.toNat) (k := 0) (by omega)
  have e4 := one_short (n := o.n.toNat) (k := 3) (by omega)
  have ht : (txt o).size ≤ 80 := by
    unfold txt
    split <;> omega
  have e6 := one_short (n := (txt o).size) (k := 0) (by omega)
  have e7 : (txt o).data.toList.length = (txt o).size := by simp
  have e5 : (if o.k = 1 then Vlq.one o.p.toNat else []).length ≤ 4 := by
    rcases h3 with ⟨hk, hp, _⟩ | ⟨hk, _⟩
    · rw [if_pos hk]
      exact one_short (n := o.p.toNat) (k := 3) (by omega)
    · rw [if_neg (by omega)]; simp
  unfold opB
  simp only [List.length_append, e7]
  omega
theorem cut_back {l : List UInt8} {q : Opn} {r : List UInt8} (h : TakesO (l.take 134) q r) : TakesO l q (r ++ l.drop 134) :=
  ⟨h.1, by rw [← List.append_assoc, ← h.2, List.take_append_drop]⟩
theorem cut_on {l : List UInt8} {q : Opn} {r : List UInt8} (h : TakesO l q r) : ∃ t, TakesO (l.take 134) q t :=
  ⟨r.take (134 - (opB q).length), h.1, by
    have := may_short h.1
    rw [h.2, List.take_append, List.take_of_length_le this]⟩
theorem cut_no {l : List UInt8} (h : NoTakeO (l.take 134)) : NoTakeO l := fun q r k => by
  obtain ⟨t, ht⟩ := cut_on k
  exact h q t ht
theorem takesO_hd {b : List UInt8} {q : Opn} {t : List UInt8} (h : TakesO b q t) : Hd b [q.c.toNat, q.r.toNat, q.k.toNat, q.n.toNat] ((if q.k = 1 then Vlq.one q.p.toNat else []) ++ (Vlq.one (txt q).size ++ ((txt q).data.toList ++ t))) := by
  obtain ⟨h1, h2, h3⟩ := mayO_parts h.1
  refine ⟨?_, fun x hx => ?_⟩
  · rw [h.2]; simp [opB, List.append_assoc]
  · simp only [List.mem_cons, List.not_mem_nil, or_false] at hx
    rcases hx with rfl | rfl | rfl | rfl <;> omega
theorem hd_q {b : List UInt8} {q : Opn} {t r : List UInt8} {n0 n1 n2 n3 : Nat} (hh : Hd b [n0, n1, n2, n3] r) (h : TakesO b q t) :
    q.c = (n0 : Int) ∧ q.r = (n1 : Int) ∧ q.k = (n2 : Int) ∧ q.n = (n3 : Int) ∧ r = (if q.k = 1 then Vlq.one q.p.toNat else []) ++ (Vlq.one (txt q).size ++ ((txt q).data.toList ++ t)) := by
  obtain ⟨h1, h2, h3⟩ := mayO_parts h.1
  obtain ⟨e, er⟩ := Hd.inj (by rfl) hh (takesO_hd h)
  simp only [List.cons.injEq, and_true] at e
  exact ⟨by omega, by omega, by omega, by omega, er⟩
theorem mv_q {b : List UInt8} {q : Opn} {t r : List UInt8} {n0 n1 n2 n3 : Nat} (hh : Hd b [n0, n1, n2, n3] r) (hk : n2 = 1) (h : TakesO b q t) : Mv r q.p.toNat q.s.data.toList t := by
  obtain ⟨h1, h2, h3⟩ := mayO_parts h.1
  obtain ⟨_, _, ek, _, er⟩ := hd_q hh h
  have k1 : q.k = 1 := by omega
  have hz := may_size h.1
  have hl : q.s.data.toList.length = q.s.size := by simp
  rcases h3 with ⟨_, hp, _, _⟩ | ⟨k2, _⟩
  · rw [if_pos k1] at er
    have tq : txt q = q.s := by unfold txt; rw [if_pos k1]
    rw [tq] at er
    exact ⟨_, ⟨er, by omega⟩, by rw [hl], by rw [hl]; omega⟩
  · omega
theorem wt_q {b : List UInt8} {q : Opn} {t r : List UInt8} {n0 n1 n2 n3 : Nat} (hh : Hd b [n0, n1, n2, n3] r) (hk : n2 = 2) (h : TakesO b q t) : TakesT r q.d.data.toList t := by
  obtain ⟨_, _, ek, _, er⟩ := hd_q hh h
  have k1 : ¬ q.k = 1 := by omega
  have hz := may_size h.1
  have hl : q.d.data.toList.length = q.d.size := by simp
  rw [if_neg k1, List.nil_append] at er
  have tq : txt q = q.d := by unfold txt; rw [if_neg k1]
  rw [tq] at er
  exact ⟨by rw [hl]; exact er, by rw [hl]; omega⟩
theorem Mv.inj {b t r t2 r2 : List UInt8} {n m : Nat} (h : Mv b n t r) (k : Mv b m t2 r2) : n = m ∧ t = t2 ∧ r = r2 := by
  obtain ⟨x, h1, h2⟩ := h
  obtain ⟨y, k1, k2⟩ := k
  obtain ⟨rfl, rfl⟩ := h1.inj k1
  obtain ⟨rfl, rfl⟩ := h2.inj k2
  exact ⟨rfl, rfl, rfl⟩
theorem mv_is {b : List UInt8} {q : Opn} {t r x y : List UInt8} {n0 n1 n2 n3 n : Nat} (hh : Hd b [n0, n1, n2, n3] r) (hk : n2 = 1) (hm : Mv r n x y) (h : TakesO b q t) : q = ⟨n0, n1, n2, n3, n, ofL x, ⟨#[]⟩⟩ ∧ t = y := by
  obtain ⟨h1, h2, h3⟩ := mayO_parts h.1
  obtain ⟨ec, er, ek, en, _⟩ := hd_q hh h
  obtain ⟨ep, es, et⟩ := (mv_q hh hk h).inj hm
  rcases h3 with ⟨_, hp, _, hd⟩ | ⟨k2, _⟩
  · refine ⟨?_, et⟩
    obtain ⟨c, r', k, m, p, s, d⟩ := q
    simp only at ec er ek en ep es hd hp
    have e2 : p = (n : Int) := by omega
    have e3 : s = ofL x := text_eq (by rw [data_ofL]; exact es)
    rw [ec, er, ek, en, e2, e3, hd]
  · omega
theorem wt_is {b : List UInt8} {q : Opn} {t r x y : List UInt8} {n0 n1 n2 n3 : Nat} (hh : Hd b [n0, n1, n2, n3] r) (hk : n2 = 2) (hm : TakesT r x y) (h : TakesO b q t) : q = ⟨n0, n1, n2, n3, 0, ⟨#[]⟩, ofL x⟩ ∧ t = y := by
  obtain ⟨h1, h2, h3⟩ := mayO_parts h.1
  obtain ⟨ec, er, ek, en, _⟩ := hd_q hh h
  obtain ⟨es, et⟩ := (wt_q hh hk h).inj hm
  rcases h3 with ⟨k1, _⟩ | ⟨_, _, hp, hs⟩
  · omega
  · refine ⟨?_, et⟩
    obtain ⟨c, r', k, m, p, s, d⟩ := q
    simp only at ec er ek en es hs hp
    have e3 : d = ofL x := text_eq (by rw [data_ofL]; exact es)
    rw [ec, er, ek, en, hp, hs, e3]
theorem mv_takes {b r x y : List UInt8} {n0 n1 n2 n3 n : Nat} (hh : Hd b [n0, n1, n2, n3] r) (hk : n2 = 1) (hm : Mv r n x y) : b = opB ⟨n0, n1, n2, n3, n, ofL x, ⟨#[]⟩⟩ ++ y := by
  obtain ⟨z, h1, h2⟩ := hm
  subst hk
  rw [hh.1, h1.1, h2.1]
  simp [opB, txt, ofL_size, data_ofL, List.append_assoc]
theorem wt_takes {b r x y : List UInt8} {n0 n1 n2 n3 : Nat} (hh : Hd b [n0, n1, n2, n3] r) (hk : n2 = 2) (hm : TakesT r x y) : b = opB ⟨n0, n1, n2, n3, 0, ⟨#[]⟩, ofL x⟩ ++ y := by
  subst hk
  rw [hh.1, hm.1]
  simp [opB, txt, ofL_size, data_ofL, List.append_assoc]
def LdPost (b : List UInt8) (w : World) (e : Ending) (w' : World) : Prop :=
  ((∃ q r, TakesO b q r ∧ e = .returned (.tuple #[OV q, .int .i64 ((opB q).length : Nat), .int .i64 0])) ∨ (NoTakeO b ∧ e = .returned (.tuple #[OV zeroO, .int .i64 0, .int .i64 50]))) ∧ Below w.heap.size w w'
end Go.Proofs.Ytjhllkjcaodcgaa
