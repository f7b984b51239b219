/-
  The document's Take of an operation, by yes and no.
-/
import Derived.Test.YtjhllkjcaodcgaaRTkO
namespace Go.Proofs.Ytjhllkjcaodcgaa
open Go.RowKit Go.Lib
/-- The operation that bytes may begin with, and what Take tells. -/
theorem rtko_o (b : ByteArray) (hb : b.size ≤ 10000) : ∃ o : Opn, (∀ q r, TakesO b.data.toList q r → q = o) ∧
    ∀ w, Calls Try.prog 14 #[.string b] w fun e w' => e = .returned (tkV b o) ∧ Below w.heap.size w w' := by
  obtain ⟨x1, s1, e1, _, z1, f1, h1⟩ := rtake_some b (by omega)
  obtain ⟨x2, s2, e2, _, z2, f2, h2⟩ := rtake_some s1 (by omega)
  obtain ⟨x3, s3, e3, _, z3, f3, h3⟩ := rtake_some s2 (by omega)
  obtain ⟨x4, s4, e4, _, z4, f4, h4⟩ := rtake_some s3 (by omega)
  obtain ⟨x5, s5, e5, _, z5, f5, h5⟩ := rtake_some s4 (by omega)
  obtain ⟨t, s6, e6, y6, f6, h6⟩ := rtext_some s5 (by omega)
  obtain ⟨u, s7, e7, y7, f7, h7⟩ := rtext_some s4 (by omega)
  refine ⟨if x3 = 1 then ⟨x1, x2, x3, x4, x5, t, ⟨#[]⟩⟩ else ⟨x1, x2, x3, x4, 0, ⟨#[]⟩, u⟩, fun q r h => ?_, fun w => ?_⟩
  · obtain ⟨hq, h⟩ := h
    obtain ⟨p1, p2, p3⟩ := mayO_parts hq
    unfold opB at h
    simp only [List.append_assoc] at h
    have g : ∀ {s : ByteArray} {l : List UInt8}, ofL l = s → s.data.toList = l := fun e => by rw [← e, data_ofL]
    obtain ⟨a1, c1, _⟩ := f1 _ _ ⟨h, by omega⟩
    have d1 := g c1
    obtain ⟨a2, c2, _⟩ := f2 _ _ ⟨d1, by omega⟩
    have d2 := g c2
    obtain ⟨a3, c3, _⟩ := f3 _ _ ⟨d2, by rcases p3 with ⟨e, _⟩ | ⟨e, _⟩ <;> omega⟩
    have d3 := g c3
    obtain ⟨a4, c4, _⟩ := f4 _ _ ⟨d3, by omega⟩
    have d4 := g c4
    have ec : q.c = x1 := by omega
    have er : q.r = x2 := by omega
    have en : q.n = x4 := by omega
    have tl : ∀ s : ByteArray, s.data.toList.length = s.size := fun s => by simp
    rcases p3 with ⟨hk, hp, _, hd⟩ | ⟨hk, hds, hp, hs⟩
    · have k1 : x3 = 1 := by omega
      rw [if_pos k1]
      have tq : txt q = q.s := by unfold txt; rw [if_pos hk]
      rw [if_pos hk, tq] at d4
      obtain ⟨a5, c5, _⟩ := f5 _ _ ⟨d4, by omega⟩
      have d5 := g c5
      obtain ⟨a6, _, _⟩ := f6 q.s.data.toList r ⟨by rw [tl]; exact d5, by
        rw [tl]
        have := congrArg List.length d5
        simp only [List.length_append, tl] at this
        omega⟩
      rw [ofL_data] at a6
      have ep : q.p = x5 := by omega
      have ek : q.k = x3 := by omega
      obtain ⟨c, r', k, n, p, s, d⟩ := q
      simp only at ec er en ep ek a6 hd
      subst ec er en ep ek a6 hd
      rfl
    · have k1 : ¬ x3 = 1 := by omega
      rw [if_neg k1]
      have hk1 : ¬ q.k = 1 := by omega
      have tq : txt q = q.d := by unfold txt; rw [if_neg hk1]
      rw [if_neg hk1, tq, List.nil_append] at d4
      obtain ⟨a6, _, _⟩ := f7 q.d.data.toList r ⟨by rw [tl]; exact d4, by rw [tl]; omega⟩
      rw [ofL_data] at a6
      have ek : q.k = x3 := by omega
      obtain ⟨c, r', k, n, p, s, d⟩ := q
      simp only at ec er en ek a6 hp hs
      subst ec er en hp ek a6 hs
      rfl
  · refine rtko_any b s1 s2 s3 s4 s5 s6 t s7 u x1 x2 x3 x4 x5 e1 e2 e3 e4 e5 e6 e7 _ w ?_ ?_ (fun k => if_pos k) (fun k => if_neg k) h1 h2 h3 h4 h5 h6 h7
    · by_cases k : x3 = 1
      · rw [if_pos k]; show t.size ≤ 10000; omega
      · rw [if_neg k]; exact Nat.zero_le _
    · by_cases k : x3 = 1
      · rw [if_pos k]; exact Nat.zero_le _
      · rw [if_neg k]; show u.size ≤ 10000; omega
theorem rtko_yes (b : ByteArray) (hb : b.size ≤ 10000) (q : Opn) (r : List UInt8) (h : TakesO b.data.toList q r) (w : World) :
    Calls Try.prog 14 #[.string b] w fun e w' => e = .returned (.tuple #[OV q, .string (ofL r), .int .i64 0]) ∧ Below w.heap.size w w' := by
  obtain ⟨o, ho, hc⟩ := rtko_o b hb
  obtain rfl := ho _ _ h
  have hh : headO b q = true := by
    unfold headO
    rw [h.1, h.2, List.take_left', decide_eq_true rfl, Bool.and_true]
    rfl
  have e := tkV_yes hh
  have ex : b.extract (opB q).length b.size = ofL r := by
    apply text_eq
    rw [extract_data, data_ofL]
    have : b.data.toList.length = b.size := by simp
    rw [← this, List.take_length, h.2, List.drop_left']
    rfl
  rw [ex] at e
  rw [← e]
  exact hc w
theorem rtko_no (b : ByteArray) (hb : b.size ≤ 10000) (h : NoTakeO b.data.toList) (w : World) :
    Calls Try.prog 14 #[.string b] w fun e w' => e = .returned (.tuple #[OV ⟨0, 0, 0, 0, 0, ⟨#[]⟩, ⟨#[]⟩⟩, .string ⟨#[]⟩, .int .i64 50]) ∧ Below w.heap.size w w' := by
  obtain ⟨o, _, hc⟩ := rtko_o b hb
  have hh : headO b o = false := by
    cases e : headO b o with
    | false => rfl
    | true =>
      unfold headO at e
      rw [Bool.and_eq_true, decide_eq_true_eq] at e
      refine absurd ⟨e.1, ?_⟩ (h o (b.data.toList.drop (opB o).length))
      conv => lhs; rw [← List.take_append_drop (opB o).length b.data.toList]
      rw [e.2]
  rw [← tkV_no hh]
  exact hc w
end Go.Proofs.Ytjhllkjcaodcgaa
