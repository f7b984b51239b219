import Derived.Test.YtamnjmlnodhhmaaOpen
import Derived.OwnWalk
import Derived.Laws.AppendOwnNone
namespace Go.Proofs.Ytamnjmlnodhhmaa
open Go.RowKit Go.Lib
def stampCells (l : List (Int × Int)) : List Value := l.flatMap fun s => [.int .i64 s.1, .int .i64 s.2]
theorem stampCells_len (l : List (Int × Int)) : (stampCells l).length = l.length * 2 := by
  induction l with
  | nil => rfl
  | cons s l ih => simp only [stampCells, List.flatMap_cons, List.length_append, List.length_cons, List.length_nil] at ih ⊢; omega
theorem stampCells_append (l m : List (Int × Int)) : stampCells (l ++ m) = stampCells l ++ stampCells m := by simp [stampCells]
theorem stampCells_at (l : List (Int × Int)) : ∀ j u, (stampCells l)[j]? = some u → ∃ i s, l[i]? = some s ∧ ((j = i * 2 ∧ u = .int .i64 s.1) ∨ (j = i * 2 + 1 ∧ u = .int .i64 s.2)) := by
  induction l with
  | nil => intro j u h; simp [stampCells] at h
  | cons s l ih =>
    intro j u h
    match j with
    | 0 => simp [stampCells] at h; exact ⟨0, s, rfl, .inl ⟨rfl, h.symm⟩⟩
    | 1 => simp [stampCells] at h; exact ⟨0, s, rfl, .inr ⟨rfl, h.symm⟩⟩
    | j + 2 =>
      have h' : (stampCells l)[j]? = some u := by simpa [stampCells] using h
      obtain ⟨i, s', hi, hj⟩ := ih j u h'
      refine ⟨i + 1, s', by simpa using hi, ?_⟩
      rcases hj with ⟨rfl, rfl⟩ | ⟨rfl, rfl⟩
      · exact .inl ⟨by omega, rfl⟩
      · exact .inr ⟨by omega, rfl⟩
theorem stampCells_get (l : List (Int × Int)) : ∀ i s, l[i]? = some s → (stampCells l)[i * 2]? = some (.int .i64 s.1) ∧ (stampCells l)[i * 2 + 1]? = some (.int .i64 s.2) := by
  induction l with
  | nil => intro i s h; simp at h
  | cons x l ih =>
    intro i s h
    match i with
    | 0 => simp at h; subst h; simp [stampCells]
    | i + 1 =>
      have := ih i s (by simpa using h)
      have e1 : (i + 1) * 2 = i * 2 + 2 := by omega
      rw [e1]
      simpa [stampCells] using this
theorem stampCells_one (l : List (Int × Int)) : ∀ u ∈ stampCells l, u.oneCell' = true := by
  intro u hu
  simp only [stampCells, List.mem_flatMap, List.mem_cons, List.not_mem_nil, or_false] at hu
  obtain ⟨s, _, rfl | rfl⟩ := hu <;> rfl
theorem own_isS {w : World} {base : Nat} {e : TypeId} {v : Value} {n : Nat} {l : List (Int × Int)} (h : w.ownsRow base e 2 v n (stampCells l)) (hnl : l.length = n) :
    ∃ a c, v = .slice a l.length c ∧ IsS w a c l := by
  subst hnl
  have hc : ∀ g, v.ownBlock = some g → ∀ j u, (stampCells l)[j]? = some u → w.cell? ((⟨g, 0, none⟩ : Addr).add j) = some u := fun g hg => h.cells hg
  have hlt := h.lt
  obtain ⟨hn, ⟨rfl, h0⟩ | ⟨g, cap, cur, rfl, hb, hg, hcap, hm, hs, hx⟩⟩ := h
  · have : l = [] := List.eq_nil_of_length_eq_zero h0
    subst this
    exact ⟨none, 0, rfl, Nat.le_refl _, fun h => absurd rfl h⟩
  · refine ⟨_, cap, rfl, hcap, fun _ => ⟨g, 0, rfl, (hlt g rfl).2, fun j x hj => ?_⟩⟩
    have h2 := stampCells_get l j x hj
    have h3 := hc g rfl _ _ h2.1
    have h4 := hc g rfl _ _ h2.2
    rw [add_none] at h3 h4
    exact ⟨h3, h4⟩
theorem infoS : (Try.prog.info? 23).map (fun i => (i.zero, i.size, i.bytes)) = some (some (.agg #[.int .i64 0, .int .i64 0]), 2, 16) := by kernel_rfl
/-- append(v, x...), both slices of stamps, v a row of the call's own. -/
theorem wpList_append_stamps {w : World} {ops : Array Oper} {rest : List Oper} {o : Oper} {a : Act} {Q : Exit → Act → World → Prop} (hgd : o.guard = none) (s x : Operand)
    (ho : o.op = .call { callee := .builtin .append, args := #[s, x], argTypes := #[24, 24] })
    (base : Nat) (v : Value) (l m : List (Int × Int)) (hs : a.eval s = v) (hown : w.ownsRow base 23 2 v l.length (stampCells l))
    (A : Option Addr) (c : Nat) (hx : a.eval x = .slice A m.length c) (hm : IsS w A c m) (hnone : A = none → c = 0)
    (h63 : l.length + m.length ≤ 1000000) (hbase : base ≤ w.heap.size)
    (h : ∀ v' w', w'.ownsRow base 23 2 v' (l ++ m).length (stampCells (l ++ m)) → w.grownBy w' v.ownBlock → wpList Try.prog ops Q rest (a.put o.dst v') w') :
    wpList Try.prog ops Q (o :: rest) a w := by
  obtain ⟨i, hi, hz, hsz, hby⟩ := info_parts infoS
  have hlen : (l ++ m).length = l.length + m.length := List.length_append
  cases A with
  | none =>
    have hc := hnone rfl
    subst hc
    have : m = [] := List.eq_nil_of_length_eq_zero (by have := hm.1; omega)
    subst this
    refine wpList_append_own_none hgd s x 24 ho base 23 i 2 Try.underlying24 hi v l.length (stampCells l) hs hown hx (h v w ?_ (World.grownBy.refl w _))
    simpa using hown
  | some ad =>
    refine wpList_append_own w hgd s x 24 ho base 23 i (.agg #[.int .i64 0, .int .i64 0]) 2 16 Try.underlying24 hi hz hsz hby rfl (by decide) v l.length (stampCells l) hs hown ad m.length c (stampCells m) hx (stampCells_len m) ?_ (stampCells_one m) (by unfold maxLen; omega) (by omega) hbase ?_
    · intro j u hu
      obtain ⟨k, t, hk, hj⟩ := stampCells_at m j u hu
      have hne : m ≠ [] := by intro e; subst e; simp at hk
      obtain ⟨b, off, e, _, hcell⟩ := hm.2 hne
      simp only [Option.some.injEq] at e
      subst e
      have h2 := hcell k t hk
      rw [add_none]
      rcases hj with ⟨rfl, rfl⟩ | ⟨rfl, rfl⟩
      · exact h2.1
      · exact h2.2
    · intro v' w' h1 h2 _
      exact h v' w' (by rw [hlen, stampCells_append]; exact h1) h2
end Go.Proofs.Ytamnjmlnodhhmaa
