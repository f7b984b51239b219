/-
  NO PROGRAM: what TreeLast looks for, from the list's end to its head: the last write of a node, and its move.
-/
import Derived.Test.YtefbkhgnhcllbaaPkP
namespace Go.Proofs.Ytefbkhgnhcllbaa
/-- Of the operations from place k on: the last write of node i (its stamp, its data); zero where there is none. -/
def LastTo (l : List Opn) (i : Int) (k : Nat) (c r : Int) (d : ByteArray) : Prop :=
  ((∀ j o, k ≤ j → FirstO l j o → o.k = 2 → o.n ≠ i) ∧ c = 0 ∧ r = 0 ∧ d = emptyB) ∨
  ∃ j q, k ≤ j ∧ FirstO l j q ∧ q.k = 2 ∧ q.n = i ∧ c = q.c ∧ r = q.r ∧ d = q.d ∧ ∀ j' o, k ≤ j' → FirstO l j' o → o.k = 2 → o.n = i → o = q ∨ ltA o q = true
theorem first_lt {l : List Opn} {j : Nat} {o : Opn} (h : FirstO l j o) : j < l.length := (List.getElem?_eq_some_iff.1 h.1).1
theorem first_one {l : List Opn} {j k : Nat} {o q : Opn} (h : FirstO l j o) (g : FirstO l k q) (he : eqA o q) : j = k := by
  rcases Nat.lt_trichotomy j k with hl | hl | hl
  · exact absurd he (g.2.2 j o hl h.1 h.2.1)
  · exact hl
  · exact absurd ⟨he.1.symm, he.2.symm⟩ (h.2.2 k q hl g.1 g.2.1)
theorem lastTo_end {l : List Opn} {i : Int} {k : Nat} (hk : l.length ≤ k) : LastTo l i k 0 0 emptyB :=
  .inl ⟨fun j o hj ho => by have := first_lt ho; omega, rfl, rfl, rfl⟩
theorem first_same {l : List Opn} {k : Nat} {o q : Opn} (h : FirstO l k o) (g : FirstO l k q) : o = q := by
  have := h.1.symm.trans g.1
  cases this; rfl
theorem not_less0 {o : Opn} (h : mayO o = true) : lessS o.c o.r 0 0 = false := by
  have := (mayO_parts h).1
  unfold lessS
  refine decide_eq_false ?_
  omega
theorem lastTo_skip {l : List Opn} {i : Int} {k : Nat} {c r : Int} {d : ByteArray} (h : LastTo l i (k + 1) c r d) (hs : ∀ o, FirstO l k o → o.k = 2 → o.n = i → lessS o.c o.r c r = true) : LastTo l i k c r d := by
  rcases h with ⟨h1, rfl, rfl, rfl⟩ | ⟨j, q, hj, h1, h2, h3, rfl, rfl, rfl, h4⟩
  · refine .inl ⟨fun j o hj ho ho2 hon => ?_, rfl, rfl, rfl⟩
    by_cases e : j = k
    · subst e
      have := hs o ho ho2 hon
      rw [not_less0 ho.2.1] at this
      cases this
    · exact h1 j o (by omega) ho ho2 hon
  · refine .inr ⟨j, q, by omega, h1, h2, h3, rfl, rfl, rfl, fun j' o hj' ho ho2 hon => ?_⟩
    by_cases e : j' = k
    · subst e; exact .inr (hs o ho ho2 hon)
    · exact h4 j' o (by omega) ho ho2 hon
theorem lastTo_take {l : List Opn} {i : Int} {k : Nat} {c r : Int} {d : ByteArray} (h : LastTo l i (k + 1) c r d) {o : Opn} (ho : FirstO l k o) (h2 : o.k = 2) (hn : o.n = i) (hl : lessS o.c o.r c r = false) : LastTo l i k o.c o.r o.d := by
  refine .inr ⟨k, o, Nat.le_refl _, ho, h2, hn, rfl, rfl, rfl, fun j' q hj' hq hq2 hqn => ?_⟩
  by_cases e : j' = k
  · subst e; exact .inl (first_same hq ho)
  · refine .inr ?_
    rcases h with ⟨h1, _⟩ | ⟨j, p, hj, h1, _, _, rfl, rfl, rfl, h4⟩
    · exact absurd hqn (h1 j' q (by omega) hq hq2)
    · have hop : ltA p o = true := by
        rcases ltA_no (show ltA o p = false from hl) with he | hlt
        · have := first_one ho h1 he; omega
        · exact hlt
      rcases h4 j' q (by omega) hq hq2 hqn with rfl | hlt
      · exact hop
      · exact ltA_trans hlt hop
/-- At the list's head: what the node has. -/
theorem lastTo_is {l : List Opn} {i : Int} {x : Nod} {c r : Int} {d : ByteArray} (h : LastTo l i 0 c r d) (hw : WroteBy (sortO l) i x) : x.wc = c ∧ x.wr = r ∧ x.d = d := by
  rcases hw with ⟨w1, w2, w3, hno⟩ | ⟨a, o, b, hs, hk, hn, w1, w2, w3, hb⟩
  · rcases h with ⟨_, rfl, rfl, rfl⟩ | ⟨j, q, _, h1, h2, h3, _⟩
    · exact ⟨w1, w2, w3⟩
    · exact absurd h3 (hno q ((sortO_mem l q).2 ⟨j, h1⟩) h2)
  · have hom : o ∈ sortO l := by rw [hs]; simp
    obtain ⟨jo, hjo⟩ := (sortO_mem l o).1 hom
    rcases h with ⟨h1, _⟩ | ⟨j, q, _, h1, h2, h3, rfl, rfl, rfl, h4⟩
    · exact absurd hn (h1 jo o (Nat.zero_le _) hjo hk)
    · have hqm : q ∈ sortO l := (sortO_mem l q).2 ⟨j, h1⟩
      have hoq : o = q := by
        rcases h4 jo o (Nat.zero_le _) hjo hk hn with e | hlt
        · exact e
        · have hsrt := sortO_srt l
          rw [hs] at hqm hsrt
          rcases List.mem_append.1 hqm with hq | hq
          · have := (List.pairwise_append.1 hsrt).2.2 q hq o (by simp)
            rw [ltA_asym this] at hlt
            cases hlt
          · rcases List.mem_cons.1 hq with rfl | hq
            · rfl
            · exact absurd h3 (hb q hq h2)
      subst hoq
      exact ⟨w1, w2, w3⟩
/-- From place k on the move has been met, if it is there. -/
def MovedTo (l : List Opn) (x : Nod) (k : Nat) (b : Bool) : Prop :=
  ((x.mc = 0 ∧ x.mr = 0) → b = true) ∧ ∀ j o, k ≤ j → l[j]? = some o → mayO o = true → o.n = x.id → o.k = 1 → x.mc = o.c → x.mr = o.r → x.p = o.p → x.s = o.s → b = true
theorem movedTo_end {l : List Opn} {x : Nod} {k : Nat} (hk : l.length ≤ k) {b : Bool} (h : (x.mc = 0 ∧ x.mr = 0) → b = true) : MovedTo l x k b :=
  ⟨h, fun j o hj ho => by rw [List.getElem?_eq_none (by omega)] at ho; cases ho⟩
theorem movedTo_step {l : List Opn} {x : Nod} {k : Nat} {b b' : Bool} (h : MovedTo l x (k + 1) b) (hb : b = true → b' = true)
    (hs : ∀ o, l[k]? = some o → mayO o = true → o.n = x.id → o.k = 1 → x.mc = o.c → x.mr = o.r → x.p = o.p → x.s = o.s → b' = true) : MovedTo l x k b' :=
  ⟨fun e => hb (h.1 e), fun j o hj ho h1 h2 h3 h4 h5 h6 h7 => by
    by_cases e : j = k
    · subst e; exact hs o ho h1 h2 h3 h4 h5 h6 h7
    · exact hb (h.2 j o (by omega) ho h1 h2 h3 h4 h5 h6 h7)⟩
theorem movedTo_is {l : List Opn} {x : Nod} {b : Bool} (h : MovedTo l x 0 b) (hm : MovedBy (sortO l) x.id x) : b = true := by
  rcases hm with hm | ⟨o, ho, h1, h2, h3, h4, h5, h6⟩
  · exact h.1 hm
  · obtain ⟨j, hj⟩ := (sortO_mem l o).1 ho
    exact h.2 j o (Nat.zero_le _) hj.1 hj.2.1 h2 h1 h3 h4 h5 h6
end Go.Proofs.Ytefbkhgnhcllbaa
