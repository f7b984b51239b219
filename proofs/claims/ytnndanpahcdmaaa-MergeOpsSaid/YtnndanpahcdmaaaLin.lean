/-
  A REGION THAT DRAWS ITS ORDER, WHOSE OPERATIONS MAKE MEMORY AND APPEND TO WHAT THEY MADE (in place, where there is room): as XRel, but an operation may take over another one's row, if no other one waits for that. One walk in the order of the text serves every order.
-/
import Derived.Test.YtnndanpahcdmaaaRel
import Derived.Test.YtnndanpahcdmaaaOwn
namespace Go.Proofs.Ytnndanpahcdmaaa
open Go.RowKit Go.Lib
/-- What was there at the region's start is as it was, and v's own row. -/
def Kept (W : World) (v : Value) (w w' : World) : Prop := w.heap.size ≤ w'.heap.size ∧ ∀ k, k < w.heap.size → (k < W.heap.size ∨ v.ownBlock = some k) → w'.heap[k]? = w.heap[k]?
def Ent.stay (W : World) (e : Ent) : Prop := ∀ v w w', e.holds v w → Kept W v w w' → e.holds v w'
def Ent.isRel : Ent → Bool
  | .pure _ => false
  | .rel _ => true
/-- The row that an operation may write: that of the one that it takes over. -/
def rowOf (h : Option Nat) (x : Nat → Value) : Option Nat := h.bind fun j => (x j).ownBlock
def Goes (e : Ent) (row : Option Nat) (w : World) (v : Value) (w' : World) : Prop :=
  e.holds v w' ∧ w.grownBy w' row ∧ (e.isRel = true → ∀ g, v.ownBlock = some g → (w.heap.size ≤ g ∨ row = some g) ∧ g < w'.heap.size)
def stepLin (P : Program) (ops : Array Oper) (o : Oper) (e : Ent) (row : Option Nat) (a : Act) (w : World) : Prop :=
  if Region.wanted o (yielded ops a.tmps) then relOp P o a w (Goes e row w) else e.holds undef w
/-- The operations that this one waits for, and whose values it looks at. -/
def needs (ops : Array Oper) (o : Oper) : List Nat := (waits o).filter fun j => match (ops[j]?).bind (·.dst) with
  | some t => (o.looksAt ops).contains t
  | none => false
theorem needs_waits {ops : Array Oper} {o : Oper} {j : Nat} (h : j ∈ needs ops o) : j ∈ waits o := (List.mem_filter.1 h).1
def FactsN (ops : Array Oper) (env : List Ent) (o : Oper) (x : Nat → Value) (w : World) : Prop := ∀ j ∈ needs ops o, ∀ e, env[j]? = some e → e.holds (x j) w
/-- No operation but c waits for j. -/
def onlyB (ops : Array Oper) (j c : Nat) : Bool := (List.range ops.size).all fun i => match ops[i]? with
  | none => true
  | some p => !(needs ops p).contains j || i == c
theorem onlyB_of {ops : Array Oper} {j c : Nat} (h : onlyB ops j c = true) {i : Nat} {p : Oper} (hp : ops[i]? = some p) (hw : j ∈ needs ops p) : i = c := by
  unfold onlyB at h
  rw [List.all_eq_true] at h
  have := h i (List.mem_range.2 (Array.getElem?_eq_some_iff.1 hp).1)
  simp only [hp, Bool.or_eq_true, Bool.not_eq_true', beq_iff_eq] at this
  rcases this with h1 | h1
  · rw [List.contains_eq_mem] at h1; simp [hw] at h1
  · exact h1
/-- Operation t waits for j, or for one that does, and so on (at most so many steps). -/
def gone (ops : Array Oper) : Nat → Nat → Nat → Bool
  | 0, _, _ => false
  | f + 1, t, j => match ops[t]? with
    | none => false
    | some o => (waits o).contains j || (waits o).any fun i => gone ops f i j
theorem gone_listed {ops : Array Oper} {listed : Array Bool} (hc : ∀ (i : Nat) (p : Oper), ops[i]? = some p → listed.getD i true = true → ∀ j ∈ waits p, listed.getD j true = true) :
    ∀ (f t j : Nat) (o : Oper), ops[t]? = some o → (∀ i ∈ waits o, listed.getD i true = true) → gone ops f t j = true → listed.getD j true = true
  | 0, _, _, _, _, _, h => by cases h
  | f + 1, t, j, o, ho, hw, h => by
    simp only [gone, ho, Bool.or_eq_true, List.any_eq_true] at h
    rcases h with h | ⟨i, hi, h⟩
    · exact hw j (List.contains_iff_mem.1 h)
    · cases hp : ops[i]? with
      | none =>
        cases f with
        | zero => cases h
        | succ f => simp only [gone, hp] at h; cases h
      | some p => exact gone_listed hc f i j p hp (hc i p hp (hw i hi)) h
/-- What the theorem asks of a region's first n operations, and of those behind, which wait for all: closed, by the kernel. -/
def relBN (ops : Array Oper) (m n : Nat) : Bool :=
  Region.noSelect ops && decide (n ≤ ops.size) && ((List.range n).all fun k =>
    match ops[k]? with
    | none => true
    | some o =>
      (match o.dst with | some d => decide (d < m) | none => false) && ((waits o).all fun j => decide (j < k)) &&
      (List.range n).all fun i =>
        match ops[i]? with
        | none => true
        | some p => (i == k || p.dst != o.dst) &&
          (match p.dst with
           | some t => !(o.looksAt ops).contains t || i == k || (decide (i < k) && (waits o).contains i) || (decide (k < i) && (waits p).contains k)
           | none => true)) &&
  (List.range ops.size).all fun t => decide (t < n) || match ops[t]? with
    | none => true
    | some o => ((List.range t).all fun j => gone ops 4 t j) && (waits o).all fun j => decide (j < t)
structure RelOkN (ops : Array Oper) (m n : Nat) : Prop where
  le : n ≤ ops.size
  sel : ∀ (j : Nat) (o : Oper) cs b, ops[j]? = some o → o.op ≠ .select cs b
  dst : ∀ (k : Nat) (o : Oper), k < n → ops[k]? = some o → ∃ d, o.dst = some d ∧ d < m
  early : ∀ (k : Nat) (o : Oper), k < n → ops[k]? = some o → ∀ j ∈ waits o, j < k
  one : ∀ (k i : Nat) (o p : Oper), k < n → i < n → ops[k]? = some o → ops[i]? = some p → i ≠ k → p.dst ≠ o.dst
  looks : ∀ (k i : Nat) (o p : Oper) (t : Tmp), k < n → i < n → ops[k]? = some o → ops[i]? = some p → p.dst = some t → t ∈ o.looksAt ops → i ≠ k → (i < k ∧ i ∈ waits o) ∨ (k < i ∧ k ∈ waits p)
  ahead : ∀ (k : Nat) (o : Oper), ops[k]? = some o → ∀ j ∈ waits o, j < k
  tail : ∀ (t : Nat) (o : Oper), n ≤ t → ops[t]? = some o → ∀ j, j < t → gone ops 4 t j = true
theorem RelOkN.of {ops : Array Oper} {m n : Nat} (h : relBN ops m n = true) : RelOkN ops m n := by
  unfold relBN at h
  rw [Bool.and_eq_true, Bool.and_eq_true, Bool.and_eq_true, List.all_eq_true, List.all_eq_true, decide_eq_true_eq] at h
  obtain ⟨⟨⟨hs, hn⟩, h⟩, ht⟩ := h
  have key : ∀ (k : Nat) (o : Oper), k < n → ops[k]? = some o → _ := fun k o hk ho => by
    have := h k (List.mem_range.2 hk)
    simp only [ho, Bool.and_eq_true, List.all_eq_true, decide_eq_true_eq] at this
    exact this
  refine ⟨hn, Region.noSelect_spec hs, fun k o hk ho => ?_, fun k o hk ho => (key k o hk ho).1.2, fun k i o p hk hi ho hp hne => ?_, fun k i o p t hk hi ho hp ht hm hne => ?_, fun k o ho j hj => ?_, fun t o htn ho j hj => ?_⟩
  · have := (key k o hk ho).1.1
    cases hd : o.dst with
    | none => rw [hd] at this; cases this
    | some d => rw [hd] at this; exact ⟨d, rfl, by simpa using this⟩
  · have := (key k o hk ho).2 i (List.mem_range.2 hi)
    simp only [hp, Bool.and_eq_true, Bool.or_eq_true, beq_iff_eq, bne_iff_ne] at this
    exact this.1.resolve_left hne
  · have := (key k o hk ho).2 i (List.mem_range.2 hi)
    simp only [hp, ht, Bool.and_eq_true, Bool.or_eq_true, beq_iff_eq, Bool.not_eq_true', List.contains_iff_mem, decide_eq_true_eq] at this
    rcases this.2 with ((h1 | h1) | h1) | h1
    · rw [List.contains_eq_mem] at h1; simp [hm] at h1
    · exact absurd h1 hne
    · exact .inl h1
    · exact .inr h1
  · have := ht k (List.mem_range.2 (Array.getElem?_eq_some_iff.1 ho).1)
    simp only [ho, Bool.or_eq_true, decide_eq_true_eq, List.all_eq_true, Bool.and_eq_true] at this
    rcases this with h1 | h1
    · exact (key k o h1 ho).1.2 j hj
    · exact h1.2 j hj
  · have := ht t (List.mem_range.2 (Array.getElem?_eq_some_iff.1 ho).1)
    simp only [ho, Bool.or_eq_true, decide_eq_true_eq, List.all_eq_true, Bool.and_eq_true] at this
    rcases this with h1 | h1
    · omega
    · exact h1.1 j (List.mem_range.2 hj)
/-- A slot behind the first operations. -/
theorem actOf_tmpsN {ops : Array Oper} {m n : Nat} (ok : RelOkN ops m n) (es : List Ent) (a0 : Act) (hm : a0.tmps.size = m) (x : Nat → Value) : ∀ k, k ≤ es.length → k ≤ n →
    (actOf ops.toList es a0 x k).tmps.size = m ∧ (actOf ops.toList es a0 x k).defers = a0.defers ∧
    (∀ t, (∀ (j : Nat) (o : Oper), j < k → ops[j]? = some o → o.dst ≠ some t) → (actOf ops.toList es a0 x k).tmps[t]? = a0.tmps[t]?) ∧
    (∀ (j : Nat) (o : Oper) (e : Ent) (t : Tmp), j < k → ops[j]? = some o → es[j]? = some e → o.dst = some t → (actOf ops.toList es a0 x k).tmps[t]? = some (e.val (x j)))
  | 0, _, _ => ⟨hm, rfl, fun _ _ => rfl, fun j _ _ _ hj => absurd hj (Nat.not_lt_zero _)⟩
  | k + 1, hk, hks => by
    have hle := ok.le
    obtain ⟨h1, h2, h3, h4⟩ := actOf_tmpsN ok es a0 hm x k (by omega) (by omega)
    obtain ⟨o, ho⟩ : ∃ o, ops[k]? = some o := ⟨ops[k], Array.getElem?_eq_getElem (by omega)⟩
    obtain ⟨e, he⟩ : ∃ e, es[k]? = some e := ⟨es[k], List.getElem?_eq_getElem (by omega)⟩
    obtain ⟨d, hd, hdm⟩ := ok.dst k o (by omega) ho
    have hol : ops.toList[k]? = some o := by rw [Array.getElem?_toList]; exact ho
    have hA : actOf ops.toList es a0 x (k + 1) = (actOf ops.toList es a0 x k).put (some d) (e.val (x k)) := by simp only [actOf, hol, he, hd]
    rw [hA]
    generalize actOf ops.toList es a0 x k = A at *
    refine ⟨by simp [Act.put, h1], h2, fun t ht => ?_, fun j o' e' t hj ho' he' ht => ?_⟩
    · have hne : d ≠ t := fun ed => ht k o (Nat.lt_succ_self k) ho (by rw [hd, ed])
      have : (A.put (some d) (e.val (x k))).tmps[t]? = A.tmps[t]? := by simp [Act.put, Array.getElem?_setIfInBounds_ne hne]
      rw [this]
      exact h3 t fun j o' hj ho' => ht j o' (by omega) ho'
    · by_cases hjk : j = k
      · subst hjk
        rw [ho] at ho'; cases ho'
        rw [he] at he'; cases he'
        rw [hd] at ht; cases ht
        simp [Act.put, h1, hdm]
      · have hne : d ≠ t := fun ed => ok.one k j o o' (by omega) (by omega) ho ho' hjk (by rw [ht, hd, ed])
        have : (A.put (some d) (e.val (x k))).tmps[t]? = A.tmps[t]? := by simp [Act.put, Array.getElem?_setIfInBounds_ne hne]
        rw [this]
        exact h4 j o' e' t (by omega) ho' he' ht
/-- What is asked of a taking over. -/
def Takes1 (ops : Array Oper) (o : Oper) (k : Nat) (env : List Ent) (h : Option Nat) : Prop := ∀ j, h = some j → j ∈ needs ops o ∧ onlyB ops j k = true ∧ ∃ S, env[j]? = some (.rel S)
def wpLin (P : Program) (ops : Array Oper) (W : World) (Q : Act → World → Prop) : List Oper → List Ent → List (Option Nat) → ((Nat → Value) → Act) → Prop
  | [], env, hs, A => ∀ (x : Nat → Value) (n : Later W), (∀ (j : Nat) (e : Ent), env[j]? = some e → some j ∉ hs → e.holds (x j) n.w) → Q (A x) n.w
  | o :: rest, env, hs, A => ∃ (e : Ent) (h : Option Nat), e.stay W ∧ Takes1 ops o env.length env h ∧ (∀ (x : Nat → Value) (n : Later W), FactsN ops env o x n.w → stepLin P ops o e (rowOf h x) (A x) n.w) ∧
      wpLin P ops W Q rest (env ++ [e]) (hs ++ [h]) (fun x => (A x).put o.dst (e.val (x env.length)))
theorem wpLin_out {P : Program} {ops : Array Oper} {W : World} {Q : Act → World → Prop} {a0 : Act} : ∀ (rest : List Oper) (env : List Ent) (hs : List (Option Nat)) (A : (Nat → Value) → Act),
    hs.length = env.length → (∀ j, j < rest.length → rest[j]? = ops.toList[env.length + j]?) → (∀ x, A x = actOf ops.toList env a0 x env.length) → wpLin P ops W Q rest env hs A →
    ∃ (es : List Ent) (hs' : List (Option Nat)), es.length = env.length + rest.length ∧ hs'.length = es.length ∧ (∀ j, j < env.length → es[j]? = env[j]? ∧ hs'[j]? = hs[j]?) ∧
      (∀ (k : Nat) (o : Oper) (e : Ent) (h : Option Nat), env.length ≤ k → ops.toList[k]? = some o → es[k]? = some e → hs'[k]? = some h → e.stay W ∧ Takes1 ops o k es h ∧
        ∀ (x : Nat → Value) (n : Later W), FactsN ops (es.take k) o x n.w → stepLin P ops o e (rowOf h x) (actOf ops.toList es a0 x k) n.w) ∧
      (∀ (x : Nat → Value) (n : Later W), (∀ (j : Nat) (e : Ent), es[j]? = some e → some j ∉ hs' → e.holds (x j) n.w) → Q (actOf ops.toList es a0 x es.length) n.w)
  | [], env, hs, A, hl, hr, hA, h => ⟨env, hs, by simp, hl, fun _ _ => ⟨rfl, rfl⟩, fun k o e h hk ho he => (by
      rw [List.getElem?_eq_none (by omega)] at he; cases he), fun x n hx => by rw [← hA]; exact h x n hx⟩
  | o :: rest, env, hs, A, hl, hr, hA, h => by
    obtain ⟨e, h1, hst, htk1, hstep, hrest⟩ := h
    have ho : ops.toList[env.length]? = some o := by have := hr 0 (by simp); simpa using this.symm
    have hA' : ∀ x, (A x).put o.dst (e.val (x env.length)) = actOf ops.toList (env ++ [e]) a0 x (env ++ [e]).length := fun x => by
      have e1 : (env ++ [e]).length = env.length + 1 := by simp
      have e2 : (env ++ [e])[env.length]? = some e := by simp
      rw [e1]
      simp only [actOf, ho, e2]
      rw [actOf_grow _ _ _ _ _ _ (Nat.le_refl _), ← hA]
    obtain ⟨es, hs', hl2, hl3, hpre, hob, hend⟩ := wpLin_out (P := P) (W := W) (Q := Q) rest (env ++ [e]) (hs ++ [h1]) _ (by simp [hl]) (fun j hj => by
      have := hr (j + 1) (by simpa using hj); simp only [List.getElem?_cons_succ] at this; rw [this]; simp; congr 1; omega) hA' hrest
    have hle : (env ++ [e]).length = env.length + 1 := by simp
    have hee : es[env.length]? = some e := by rw [(hpre _ (by omega)).1]; simp
    have hhh : hs'[env.length]? = some h1 := by rw [(hpre _ (by omega)).2, ← hl]; simp
    have hpe : ∀ j, j < env.length → es[j]? = env[j]? := fun j hj => by rw [(hpre j (by omega)).1, List.getElem?_append_left hj]
    have htk : es.take env.length = env := by
      apply List.ext_getElem?
      intro i
      rw [List.getElem?_take]
      by_cases hi : i < env.length
      · rw [if_pos hi, hpe i hi]
      · rw [if_neg hi, List.getElem?_eq_none (by omega)]
    have hact : ∀ x, actOf ops.toList es a0 x env.length = A x := fun x => by
      rw [hA x]
      have e3 := actOf_grow ops.toList env (es.drop env.length) a0 x env.length (Nat.le_refl _)
      rw [← htk] at e3
      rw [List.length_take] at e3
      have e4 : min env.length es.length = env.length := by omega
      rw [e4, List.take_append_drop, htk] at e3
      exact e3
    refine ⟨es, hs', by simp at hl2 ⊢; omega, hl3, fun j hj => ⟨hpe j hj, by rw [(hpre j (by omega)).2, List.getElem?_append_left (by omega)]⟩, ?_, hend⟩
    intro k o' e' h' hk ho' he' hh'
    by_cases hke : k = env.length
    · subst hke
      rw [ho] at ho'; rw [hee] at he'; rw [hhh] at hh'
      cases ho'; cases he'; cases hh'
      refine ⟨hst, fun j hj => ?_, fun x n hf => ?_⟩
      · obtain ⟨q1, q2, S, q3⟩ := htk1 j hj
        exact ⟨q1, q2, S, by rw [hpe j (List.getElem?_eq_some_iff.1 q3).1]; exact q3⟩
      · rw [hact x]
        rw [htk] at hf
        exact hstep x n hf
    · exact hob k o' e' h' (by omega) ho' he' hh'
/-- Is nothing listed that took over j's row? -/
def Free (hs : List (Option Nat)) (listed : Array Bool) (j : Nat) : Prop := ∀ c, hs[c]? = some (some j) → listed.getD c true = false
/-- What holds whatever operations have come up. -/
structure LinInv (ops : Array Oper) (m n : Nat) (es : List Ent) (hs : List (Option Nat)) (a0 : Act) (W : World) (listed : Array Bool) (a : Act) (w : World) : Prop where
  lsize : listed.size = ops.size
  pre : ∀ j, j < ops.size → listed.getD j true = true → j < n
  closed : ∀ (i : Nat) (p : Oper), ops[i]? = some p → listed.getD i true = true → ∀ j ∈ waits p, listed.getD j true = true
  size : a.tmps.size = m
  defers : a.defers = a0.defers
  old : ∀ t, (∀ (j : Nat) (o : Oper), ops[j]? = some o → listed.getD j true = true → o.dst ≠ some t) → a.tmps[t]? = a0.tmps[t]?
  val : ∀ (j : Nat) (o : Oper) (e : Ent) (t : Tmp), ops[j]? = some o → es[j]? = some e → listed.getD j true = true → o.dst = some t → e.val (a.tmps.getD t undef) = a.tmps.getD t undef
  new : ∀ (j : Nat) (e : Ent), es[j]? = some e → listed.getD j true = true → Free hs listed j → e.holds (valsOf ops a j) w
  fresh : ∀ (j : Nat) (S : Value → World → Prop), es[j]? = some (.rel S) → listed.getD j true = true → Free hs listed j → ∀ g, (valsOf ops a j).ownBlock = some g → W.heap.size ≤ g ∧ g < w.heap.size
  apart : ∀ (i j : Nat) (S T : Value → World → Prop), es[i]? = some (.rel S) → es[j]? = some (.rel T) → listed.getD i true = true → listed.getD j true = true → Free hs listed i → Free hs listed j → i ≠ j →
    ∀ g, (valsOf ops a i).ownBlock = some g → (valsOf ops a j).ownBlock ≠ some g
  later : Below W.heap.size W w
theorem LinInv.slot {ops : Array Oper} {m n : Nat} {es : List Ent} {hs : List (Option Nat)} {a0 : Act} {W : World} {listed : Array Bool} {a : Act} {w : World} (I : LinInv ops m n es hs a0 W listed a w) (ok : RelOkN ops m n) (hm : a0.tmps.size = m) (hes : es.length = n)
    {k : Nat} {o : Oper} (hkn : k < n) (ho : ops[k]? = some o) (hun : listed.getD k true = false) (hw : ∀ j ∈ waits o, listed.getD j true = true) {t : Tmp} (ht : t ∈ o.looksAt ops) :
    (actOf ops.toList es a0 (valsOf ops a) k).tmps[t]? = a.tmps[t]? := by
  have hk : k < ops.size := (Array.getElem?_eq_some_iff.1 ho).1
  obtain ⟨h1, _, h3, h4⟩ := actOf_tmpsN ok es a0 hm (valsOf ops a) k (by omega) (by omega)
  by_cases hwr : ∃ (j : Nat) (p : Oper), ops[j]? = some p ∧ p.dst = some t ∧ j < k
  · obtain ⟨j, p, hp, hpt, hjk⟩ := hwr
    have hj : j ∈ waits o := by
      rcases ok.looks k j o p t hkn (by omega) ho hp hpt ht (by omega) with h | h
      · exact h.2
      · omega
    have hl := hw j hj
    obtain ⟨e, he⟩ : ∃ e, es[j]? = some e := ⟨es[j]'(by omega), List.getElem?_eq_getElem (by omega)⟩
    rw [h4 j p e t hjk hp he hpt]
    have hh := I.val j p e t hp he hl hpt
    have hv : valsOf ops a j = a.tmps.getD t undef := by simp [valsOf, hp, hpt]
    rw [hv, hh]
    obtain ⟨d, hd, hdm⟩ := ok.dst j p (by omega) hp
    rw [hpt] at hd; cases hd
    have : t < a.tmps.size := by rw [I.size]; exact hdm
    simp [this]
  · rw [h3 t fun j p hj hp hpt => hwr ⟨j, p, hp, hpt, hj⟩]
    refine (I.old t fun j p hp hl hpt => ?_).symm
    have hjk : j ≠ k := fun e => by rw [e, hun] at hl; cases hl
    rcases ok.looks k j o p t hkn (I.pre j (Array.getElem?_eq_some_iff.1 hp).1 hl) ho hp hpt ht hjk with h | h
    · exact hwr ⟨j, p, hp, hpt, h.1⟩
    · have := I.closed j p hp hl k h.2
      rw [hun] at this; cases this
def LinOk (P : Program) (ops : Array Oper) (es : List Ent) (hs : List (Option Nat)) (a0 : Act) (W : World) : Prop :=
  ∀ (k : Nat) (o : Oper) (e : Ent) (h : Option Nat), ops[k]? = some o → es[k]? = some e → hs[k]? = some h → e.stay W ∧ Takes1 ops o k es h ∧
    ∀ (x : Nat → Value) (n : Later W), FactsN ops (es.take k) o x n.w → stepLin P ops o e (rowOf h x) (actOf ops.toList es a0 x k) n.w
theorem LinInv.step {P : Program} {ops : Array Oper} {m n : Nat} {es : List Ent} {hs : List (Option Nat)} {a0 : Act} {W : World} {listed : Array Bool} {a : Act} {w : World} (I : LinInv ops m n es hs a0 W listed a w) (ok : RelOkN ops m n) (hm : a0.tmps.size = m) (hes : es.length = n) (hhs : hs.length = es.length)
    (hst : LinOk P ops es hs a0 W)
    {Q : Exit → Act → World → Prop} {k : Nat} (hkn : k < n) (hr : k ∈ Region.ready .any ops listed) {K : Act → World → Prop}
    (hK : ∀ a' w', LinInv ops m n es hs a0 W (listed.setIfInBounds k true) a' w' → K a' w') : wpOp P ops Q k K a w := by
  obtain ⟨hun, o, ho, hall⟩ := mem_ready.1 hr
  have hk : k < ops.size := (Array.getElem?_eq_some_iff.1 ho).1
  have hw : ∀ j ∈ waits o, listed.getD j true = true := fun j hj => by
    unfold waits at hj
    obtain ⟨ed, hed, rfl⟩ := List.mem_map.1 hj
    rw [List.mem_filter] at hed
    have hq := hall ed (by simpa using hed.1) hed.2
    have hjs : ed.on < listed.size := by
      rcases Nat.lt_or_ge ed.on listed.size with h | h
      · exact h
      · simp [Array.getElem?_eq_none h] at hq
    simp [hjs] at hq ⊢
    exact hq
  obtain ⟨e, he⟩ : ∃ e, es[k]? = some e := ⟨es[k]'(by omega), List.getElem?_eq_getElem (by omega)⟩
  obtain ⟨h, hh⟩ : ∃ h, hs[k]? = some h := ⟨hs[k]'(by omega), List.getElem?_eq_getElem (by omega)⟩
  obtain ⟨hsta, htak, hob⟩ := hst k o e h ho he hh
  -- what k waits for is still there
  have hfree : ∀ j ∈ needs ops o, Free hs listed j := fun j hj c hc => by
    have hcl : c < ops.size := by have h0 := (List.getElem?_eq_some_iff.1 hc).1; have := ok.le; omega
    have hce : c < es.length := by have h0 := (List.getElem?_eq_some_iff.1 hc).1; omega
    obtain ⟨e2, he2⟩ : ∃ e, es[c]? = some e := ⟨es[c]'(by omega), List.getElem?_eq_getElem (by omega)⟩
    obtain ⟨_, htc, _⟩ := hst c ops[c] e2 (some j) (Array.getElem?_eq_getElem hcl) he2 hc
    obtain ⟨_, ho1, _⟩ := htc j rfl
    rw [← onlyB_of ho1 ho hj]
    exact hun
  have hf : FactsN ops (es.take k) o (valsOf ops a) w := fun j hj e' he' => by
    rw [List.getElem?_take] at he'
    split at he'
    · exact I.new j e' he' (hw j (needs_waits hj)) (hfree j hj)
    · cases he'
  have hs1 := hob (valsOf ops a) ⟨w, I.later⟩ hf
  have hslot : ∀ t, t ∈ o.looksAt ops → (actOf ops.toList es a0 (valsOf ops a) k).tmps[t]? = a.tmps[t]? := fun t ht => I.slot ok hm hes hkn ho hun hw ht
  have hexe : execOp (actOf ops.toList es a0 (valsOf ops a) k).eval o = execOp a.eval o := execOp_congr o (fun cs b => ok.sel k o cs b ho) fun y hy => by
    cases y with
    | tmp t =>
      have := hslot t (List.mem_append_left _ (List.mem_filterMap.2 ⟨.tmp t, by simpa using hy, rfl⟩))
      simp only [Act.eval, Array.getD_eq_getD_getElem?, this]
    | _ => rfl
  have hwan : Region.wanted o (yielded ops (actOf ops.toList es a0 (valsOf ops a) k).tmps) = Region.wanted o (yielded ops a.tmps) := by
    unfold Region.wanted
    cases hg : o.guard with
    | none => rfl
    | some gw =>
      obtain ⟨g, want⟩ := gw
      have hy : yielded ops (actOf ops.toList es a0 (valsOf ops a) k).tmps g = yielded ops a.tmps g := by
        unfold yielded
        cases ht : (ops[g]?).bind (·.dst) with
        | none => rfl
        | some t =>
          have := hslot t (List.mem_append_right _ (by simp [hg, ht]))
          simp only [Option.bind_some, this]
      simp only [hy]
  obtain ⟨d, hd, hdm⟩ := ok.dst k o hkn ho
  -- the row that is taken over
  have hrow : ∀ g, rowOf h (valsOf ops a) = some g → W.heap.size ≤ g ∧ ∃ j S, h = some j ∧ es[j]? = some (.rel S) ∧ listed.getD j true = true ∧ Free hs listed j ∧ (valsOf ops a j).ownBlock = some g := fun g hg => by
    cases h with
    | none => simp [rowOf] at hg
    | some j =>
      obtain ⟨q1, _, S, q3⟩ := htak j rfl
      have hg' : (valsOf ops a j).ownBlock = some g := by simpa [rowOf] using hg
      exact ⟨(I.fresh j S q3 (hw j (needs_waits q1)) (hfree j q1) g hg').1, j, S, rfl, q3, hw j (needs_waits q1), hfree j q1, hg'⟩
  have next : ∀ v w', Goes e (rowOf h (valsOf ops a)) w v w' → K (a.put o.dst v) w' := fun v w' hgo => by
    obtain ⟨hv, hg, hfr⟩ := hgo
    refine hK _ _ ?_
    have hset : ∀ j, (listed.setIfInBounds k true).getD j true = true → j ≠ k → listed.getD j true = true := fun j h hne => by
      rwa [getD_set_ne true (Ne.symm hne)] at h
    have hput : ∀ t, t ≠ d → (a.put o.dst v).tmps[t]? = a.tmps[t]? := fun t hne => by
      rw [hd]; simp [Act.put, Array.getElem?_setIfInBounds_ne (Ne.symm hne)]
    have hvk : valsOf ops (a.put o.dst v) k = v := by
      have hdl : d < a.tmps.size := by rw [I.size]; exact hdm
      simp [valsOf, ho, hd, Act.put, hdl]
    have hvj : ∀ j, j ≠ k → j < n → valsOf ops (a.put o.dst v) j = valsOf ops a j := fun j hne hj => by
      have hjs : j < ops.size := Nat.lt_of_lt_of_le hj ok.le
      have hp : ops[j]? = some ops[j] := Array.getElem?_eq_getElem hjs
      obtain ⟨t, ht, _⟩ := ok.dst j _ hj hp
      have hne2 : t ≠ d := fun e => ok.one k j o ops[j] hkn hj ho hp hne (by rw [ht, hd, e])
      have hsame : (a.put o.dst v).tmps.getD t undef = a.tmps.getD t undef := by
        simp only [Array.getD_eq_getD_getElem?, hput t hne2]
      simp only [valsOf, hp, Option.bind_some, ht, hsame]
    -- what is free behind the step was free ahead of it, and is not what was taken over
    have hfr0 : ∀ j, Free hs (listed.setIfInBounds k true) j → Free hs listed j := fun j hf c hc => by
      have := hf c hc
      by_cases hck : c = k
      · subst hck
        simp [I.lsize, hk] at this
      · rwa [getD_set_ne true (Ne.symm hck)] at this
    have hnot : ∀ j, Free hs (listed.setIfInBounds k true) j → h ≠ some j := fun j hf e => by
      have := hf k (by rw [hh, e])
      simp [I.lsize, hk] at this
    have hrowj : ∀ (j : Nat) (S : Value → World → Prop), es[j]? = some (.rel S) → listed.getD j true = true → Free hs (listed.setIfInBounds k true) j → ∀ g, (valsOf ops a j).ownBlock = some g → rowOf h (valsOf ops a) ≠ some g := fun j S hjs hl hf g hg1 hg2 => by
      obtain ⟨_, i, T, q1, q2, q3, q4, q5⟩ := hrow g hg2
      have hij : j ≠ i := fun e => hnot j hf (by rw [q1, e])
      exact I.apart j i S T hjs q2 hl q3 (hfr0 j hf) q4 hij g hg1 q5
    have hlt : ∀ {j : Nat} {e' : Ent}, es[j]? = some e' → j < n := fun he' => by have := (List.getElem?_eq_some_iff.1 he').1; omega
    have hkold : ∀ q, q < W.heap.size → rowOf h (valsOf ops a) ≠ some q := fun q hq e => by have := (hrow q e).1; omega
    have hB : Below W.heap.size w w' := ⟨hg.os, hg.tape, hg.output, hg.size, fun q hq => hg.block q (Nat.lt_of_lt_of_le hq I.later.size) (fun e => hkold q hq e.symm)⟩
    refine ⟨by simp [I.lsize], fun j hj hl => ?_, fun i p hp hl j hj => ?_, by rw [hd]; simp [Act.put, I.size], by rw [hd]; exact I.defers, fun t ht => ?_, fun j p e' t hp he' hl hpt => ?_, fun j e' he' hl hf => ?_, fun j S he' hl hf g hgj => ?_, fun i j S T hi hj hli hlj hfi hfj hij g hgi hgj => ?_, I.later.trans hB⟩
    · by_cases hjk : j = k
      · rw [hjk]; exact hkn
      · exact I.pre j hj (hset j hl hjk)
    · by_cases hik : i = k
      · subst hik
        rw [ho] at hp; cases hp
        have := hw j hj
        by_cases hjk : j = i
        · subst hjk; simp
        · rw [getD_set_ne true (Ne.symm hjk)]; exact this
      · have := I.closed i p hp (hset i hl hik) j hj
        by_cases hjk : j = k
        · rw [hjk]; rw [hjk, hun] at this; cases this
        · rw [getD_set_ne true (Ne.symm hjk)]; exact this
    · have hne : t ≠ d := fun e => ht k o ho (by simp [I.lsize, hk]) (by rw [hd, e])
      rw [hput t hne]
      refine I.old t fun j p hp hl => ht j p hp ?_
      by_cases hjk : j = k
      · rw [hjk]; simp [I.lsize, hk]
      · rw [getD_set_ne true (Ne.symm hjk)]; exact hl
    · by_cases hjk : j = k
      · subst hjk
        rw [ho] at hp; cases hp
        rw [he] at he'; cases he'
        rw [hd] at hpt; cases hpt
        have : (a.put o.dst v).tmps.getD d undef = v := by
          have : d < a.tmps.size := by rw [I.size]; exact hdm
          rw [hd]; simp [Act.put, this]
        rw [this]; exact Ent.val_of hv
      · have hne : t ≠ d := fun e => ok.one k j o p hkn (hlt he') ho hp hjk (by rw [hpt, hd, e])
        have hsame : (a.put o.dst v).tmps.getD t undef = a.tmps.getD t undef := by
          simp only [Array.getD_eq_getD_getElem?, hput t hne]
        rw [hsame]
        exact I.val j p e' t hp he' (hset j hl hjk) hpt
    · by_cases hjk : j = k
      · subst hjk
        rw [he] at he'; cases he'
        rw [hvk]; exact hv
      · rw [hvj j hjk (hlt he')]
        have hold := I.new j e' he' (hset j hl hjk) (hfr0 j hf)
        cases e' with
        | pure c => exact hold
        | rel S =>
          obtain ⟨hsj, _⟩ := hst j ops[j]! (.rel S) hs[j]! (by
            have := Nat.lt_of_lt_of_le (hlt he') ok.le
            simp [this]) he' (by
            have := hlt he'
            have h2 : j < hs.length := by omega
            simp [h2])
          refine hsj _ _ _ hold ⟨hg.size, fun q hq hor => hg.block q hq fun e => ?_⟩
          rcases hor with h1 | h1
          · exact hkold q h1 e.symm
          · exact hrowj j S he' (hset j hl hjk) hf q h1 e.symm
    · by_cases hjk : j = k
      · subst hjk
        rw [he] at he'; cases he'
        rw [hvk] at hgj
        obtain ⟨q1, q2⟩ := hfr rfl g hgj
        refine ⟨?_, q2⟩
        rcases q1 with q1 | q1
        · exact Nat.le_trans I.later.size q1
        · exact (hrow g q1).1
      · rw [hvj j hjk (hlt he')] at hgj
        obtain ⟨q1, q2⟩ := I.fresh j S he' (hset j hl hjk) (hfr0 j hf) g hgj
        exact ⟨q1, Nat.lt_of_lt_of_le q2 hg.size⟩
    · have main : ∀ (j : Nat) (T : Value → World → Prop), es[j]? = some (.rel T) → (listed.setIfInBounds k true).getD j true = true → Free hs (listed.setIfInBounds k true) j → j ≠ k → e.isRel = true → ∀ g, v.ownBlock = some g → (valsOf ops a j).ownBlock ≠ some g := fun j T hj hlj hfj hjk her g hg1 hg2 => by
        obtain ⟨q1, _⟩ := hfr her g hg1
        rcases q1 with q1 | q1
        · have := (I.fresh j T hj (hset j hlj hjk) (hfr0 j hfj) g hg2).2
          omega
        · exact hrowj j T hj (hset j hlj hjk) hfj g hg2 q1
      by_cases hik : i = k
      · subst hik
        rw [he] at hi; cases hi
        rw [hvk] at hgi
        rw [hvj j (Ne.symm hij) (hlt hj)] at hgj
        exact main j T hj hlj hfj (Ne.symm hij) rfl g hgi hgj
      · rw [hvj i hik (hlt hi)] at hgi
        by_cases hjk : j = k
        · subst hjk
          rw [he] at hj; cases hj
          rw [hvk] at hgj
          exact main i S hi hli hfi hik rfl g hgj hgi
        · rw [hvj j hjk (hlt hj)] at hgj
          exact I.apart i j S T hi hj (hset i hli hik) (hset j hlj hjk) (hfr0 i hfi) (hfr0 j hfj) hij g hgi hgj
  unfold stepLin at hs1
  rw [hwan] at hs1
  unfold wpOp
  simp only [ho]
  split
  · rename_i hwd
    simp only [hwd, if_true] at hs1
    refine .inl (wp_of_relOp (R := Goes e (rowOf h (valsOf ops a)) w) ?_ fun v w' h => next v w' h)
    unfold relOp at hs1 ⊢
    rw [← hexe]; exact hs1
  · rename_i hwd
    simp only [hwd] at hs1
    exact next _ _ ⟨hs1, World.grownBy.refl w _, fun _ g hg => by cases hg⟩
theorem ready_noneN {ops : Array Oper} {m n : Nat} (ok : RelOkN ops m n) {listed : Array Bool} (hl : listed.size = ops.size) (h : ∀ k, k < n → k ∉ Region.ready .any ops listed) : ∀ k, k < n → listed.getD k true = true := by
  intro k
  have hle := ok.le
  induction k using Nat.strongRecOn with
  | _ k ih =>
    intro hk
    cases hb : listed.getD k true with
    | true => rfl
    | false =>
      exfalso
      refine h k hk (mem_ready.2 ⟨hb, ops[k], Array.getElem?_eq_getElem (by omega), fun e he hbd => ?_⟩)
      have hj : e.on ∈ waits ops[k] := List.mem_map.2 ⟨e, List.mem_filter.2 ⟨by simpa using he, hbd⟩, rfl⟩
      have hlt := ok.early k ops[k] hk (Array.getElem?_eq_getElem (by omega)) e.on hj
      have := ih e.on hlt (by omega)
      have hs : e.on < listed.size := by omega
      simp [hs] at this ⊢
      exact this
/-- The operations behind, one by one. -/
theorem wpAny_tail {P : Program} {ops : Array Oper} {m n : Nat} (ok : RelOkN ops m n) {Q : Exit → Act → World → Prop} : ∀ (fuel : Nat) (listed : Array Bool) (a : Act) (w : World) (q : Nat), n ≤ q → q ≤ ops.size → listed.size = ops.size → (∀ j, j < ops.size → (listed.getD j true = true ↔ j < q)) →
    left ops listed ≤ fuel → wpList P ops Q (ops.toList.drop q) a w → wpAny P .any ops Q fuel listed a w := by
  have only : ∀ (listed : Array Bool) (q : Nat), n ≤ q → listed.size = ops.size → (∀ j, j < ops.size → (listed.getD j true = true ↔ j < q)) → ∀ k ∈ Region.ready .any ops listed, k = q := fun listed q hq hls hli k hk => by
    obtain ⟨hun, o, ho, hall⟩ := mem_ready.1 hk
    have hks := (Array.getElem?_eq_some_iff.1 ho).1
    have hnk : q ≤ k := by
      rcases Nat.lt_or_ge k q with h | h
      · rw [(hli k hks).2 h] at hun; cases hun
      · exact h
    rcases Nat.lt_or_ge q k with h | h
    · exfalso
      have hwa : ∀ j ∈ waits o, listed.getD j true = true := fun j hj => by
        unfold waits at hj
        obtain ⟨ed, hed, he⟩ := List.mem_map.1 hj
        rw [List.mem_filter] at hed
        have hq2 := hall ed (by simpa using hed.1) hed.2
        rw [he] at hq2
        by_cases hjs : j < listed.size
        · simp [hjs] at hq2 ⊢
          exact hq2
        · simp [hjs]
      have h1 : listed.getD q true = true := gone_listed (fun i p hp hli2 j hj => by
        have his := (Array.getElem?_eq_some_iff.1 hp).1
        have h3 := (hli i his).1 hli2
        have h4 := ok.ahead i p hp j hj
        exact (hli j (by omega)).2 (by omega)) 4 k q o ho hwa (ok.tail k o (by omega) ho q h)
      have := (hli q (by omega)).1 h1
      omega
    · omega
  have fin : ∀ (listed : Array Bool) (a : Act) (w : World) (q : Nat), n ≤ q → q ≤ ops.size → listed.size = ops.size → (∀ j, j < ops.size → (listed.getD j true = true ↔ j < q)) → wpList P ops Q (ops.toList.drop q) a w → Region.ready .any ops listed = [] → Q .normal a w := fun listed a w q hq hqs hls hli h hr => by
    have e : q = ops.size := by
      rcases Nat.lt_or_ge q ops.size with h1 | h1
      · exfalso
        have hun : listed.getD q true = false := by
          cases hb : listed.getD q true with
          | false => rfl
          | true => have := (hli q h1).1 hb; omega
        have : q ∈ Region.ready .any ops listed := mem_ready.2 ⟨hun, ops[q], Array.getElem?_eq_getElem h1, fun e he hbd => by
          have hj : e.on ∈ waits ops[q] := List.mem_map.2 ⟨e, List.mem_filter.2 ⟨by simpa using he, hbd⟩, rfl⟩
          have hlt : e.on < q := by
            rcases Nat.lt_or_ge e.on q with h3 | h3
            · exact h3
            · exfalso
              -- what waits waits for what stands ahead
              exact absurd (ok.ahead q ops[q] (Array.getElem?_eq_getElem h1) e.on hj) (by omega)
          have h2 := (hli e.on (by omega)).2 hlt
          have hs : e.on < listed.size := by omega
          simp [hs] at h2 ⊢
          exact h2⟩
        rw [hr] at this; cases this
      · omega
    subst e
    rw [List.drop_of_length_le (by simp)] at h
    exact h
  intro fuel
  induction fuel with
  | zero =>
    intro listed a w q hq hqs hls hli hle h
    have hr : Region.ready .any ops listed = [] := by
      rw [List.eq_nil_iff_forall_not_mem]
      intro k hk
      obtain ⟨hun, o, ho, _⟩ := mem_ready.1 hk
      have := left_step (Array.getElem?_eq_some_iff.1 ho).1 hls hun
      omega
    exact ⟨hr, fin listed a w q hq hqs hls hli h hr⟩
  | succ fuel ih =>
    intro listed a w q hq hqs hls hli hle h
    refine ⟨fin listed a w q hq hqs hls hli h, fun k hk => ?_⟩
    obtain rfl := only listed q hq hls hli k hk
    obtain ⟨hun, o, ho, _⟩ := mem_ready.1 hk
    have hks := (Array.getElem?_eq_some_iff.1 ho).1
    have hl2 := left_step hks hls hun
    have hdrop : ops.toList.drop k = o :: ops.toList.drop (k + 1) := by
      rw [List.drop_eq_getElem_cons (by simpa using hks)]
      congr 1
      have := (Array.getElem?_eq_some_iff.1 ho).2
      simpa using this
    have next : ∀ a' w', wpList P ops Q (ops.toList.drop (k + 1)) a' w' → wpAny P .any ops Q fuel (listed.setIfInBounds k true) a' w' := fun a' w' h' => by
      refine ih (listed.setIfInBounds k true) a' w' (k + 1) (by omega) (by omega) (by simp [hls]) (fun j hj => ?_) (by omega) h'
      by_cases hjk : j = k
      · subst hjk; simp [hls, hj]
      · rw [getD_set_ne true (Ne.symm hjk), hli j hj]; omega
    rw [hdrop] at h
    unfold wpList at h
    unfold wpOp
    simp only [ho]
    split
    · rename_i hwd
      rw [if_pos hwd] at h
      rcases h with h | h
      · exact .inl (Oper.wp_mono next h)
      · exact .inr h
    · rename_i hwd
      rw [if_neg hwd] at h
      exact next _ _ h
theorem wpAny_lin {P : Program} {ops : Array Oper} {m n : Nat} {es : List Ent} {hs : List (Option Nat)} {a0 : Act} {W : World} (ok : RelOkN ops m n) (hm : a0.tmps.size = m) (hes : es.length = n) (hhs : hs.length = es.length)
    (hst : LinOk P ops es hs a0 W)
    {Q : Exit → Act → World → Prop} (hQ : ∀ (x : Nat → Value) (w : Later W), (∀ (j : Nat) (e : Ent), es[j]? = some e → some j ∉ hs → e.holds (x j) w.w) → wpList P ops Q (ops.toList.drop n) (actOf ops.toList es a0 x es.length) w.w) :
    ∀ (fuel : Nat) (listed : Array Bool) (a : Act) (w : World), LinInv ops m n es hs a0 W listed a w → left ops listed ≤ fuel → wpAny P .any ops Q fuel listed a w := by
  have hle := ok.le
  have done : ∀ (listed : Array Bool) (a : Act) (w : World), LinInv ops m n es hs a0 W listed a w → (∀ k, k < n → listed.getD k true = true) → wpList P ops Q (ops.toList.drop n) a w := fun listed a w I hall => by
    have hf := hQ (valsOf ops a) ⟨w, I.later⟩ (fun j e he hno => by
      have hj : j < n := by have := (List.getElem?_eq_some_iff.1 he).1; omega
      exact I.new j e he (hall j hj) (fun c hc => absurd (List.mem_of_getElem? hc) hno))
    have ea : actOf ops.toList es a0 (valsOf ops a) es.length = a := by
      obtain ⟨h1, h2, h3, h4⟩ := actOf_tmpsN ok es a0 hm (valsOf ops a) es.length (Nat.le_refl _) (by omega)
      have et : (actOf ops.toList es a0 (valsOf ops a) es.length).tmps = a.tmps := by
        apply Array.ext_getElem?
        intro t
        by_cases hwr : ∃ (j : Nat) (p : Oper), j < n ∧ ops[j]? = some p ∧ p.dst = some t
        · obtain ⟨j, p, hj, hp, hpt⟩ := hwr
          obtain ⟨e, he⟩ : ∃ e, es[j]? = some e := ⟨es[j]'(by omega), List.getElem?_eq_getElem (by omega)⟩
          rw [h4 j p e t (by omega) hp he hpt]
          have hh := I.val j p e t hp he (hall j hj) hpt
          have hv : valsOf ops a j = a.tmps.getD t undef := by simp [valsOf, hp, hpt]
          rw [hv, hh]
          obtain ⟨d, hd, hdm⟩ := ok.dst j p hj hp
          rw [hpt] at hd; cases hd
          have : t < a.tmps.size := by rw [I.size]; exact hdm
          simp [this]
        · rw [h3 t fun j p hj hp hpt => hwr ⟨j, p, by omega, hp, hpt⟩]
          exact (I.old t fun j p hp hl hpt => hwr ⟨j, p, I.pre j (Array.getElem?_eq_some_iff.1 hp).1 hl, hp, hpt⟩).symm
      have ed : (actOf ops.toList es a0 (valsOf ops a) es.length).defers = a.defers := by rw [h2, I.defers]
      cases a
      generalize actOf ops.toList es a0 _ es.length = A at *
      cases A
      simp only [Act.mk.injEq]
      exact ⟨et, ed⟩
    rw [ea] at hf
    exact hf
  have turn : ∀ (fuel : Nat) (listed : Array Bool) (a : Act) (w : World), LinInv ops m n es hs a0 W listed a w → left ops listed ≤ fuel → (∀ k, k < n → listed.getD k true = true) → wpAny P .any ops Q fuel listed a w := fun fuel listed a w I hl hall =>
    wpAny_tail ok fuel listed a w n (Nat.le_refl _) hle I.lsize (fun j hj => ⟨fun h => I.pre j hj h, fun h => hall j h⟩) hl (done listed a w I hall)
  intro fuel
  induction fuel with
  | zero =>
    intro listed a w I hle0
    refine turn 0 listed a w I hle0 (ready_noneN ok I.lsize fun k hk hr => ?_)
    obtain ⟨hun, o, ho, _⟩ := mem_ready.1 hr
    have := left_step (Array.getElem?_eq_some_iff.1 ho).1 I.lsize hun
    omega
  | succ fuel ih =>
    intro listed a w I hle0
    by_cases hall : ∀ k, k < n → listed.getD k true = true
    · exact turn _ listed a w I hle0 hall
    · have hex : ∃ q, q < n ∧ listed.getD q true = false := by
        apply Classical.byContradiction
        intro hno
        refine hall fun k hk => ?_
        cases hb : listed.getD k true with
        | true => rfl
        | false => exact absurd ⟨k, hk, hb⟩ hno
      obtain ⟨q, hq, hqf⟩ := hex
      refine ⟨fun hr => absurd (ready_noneN ok I.lsize (fun k _ hk => by rw [hr] at hk; cases hk)) hall, fun k hk => ?_⟩
      obtain ⟨hun, o, ho, hrd⟩ := mem_ready.1 hk
      have hks := (Array.getElem?_eq_some_iff.1 ho).1
      have := left_step hks I.lsize hun
      have hkn : k < n := by
        rcases Nat.lt_or_ge k n with h | h
        · exact h
        · exfalso
          have hwa : ∀ j ∈ waits o, listed.getD j true = true := fun j hj => by
            unfold waits at hj
            obtain ⟨ed, hed, he⟩ := List.mem_map.1 hj
            rw [List.mem_filter] at hed
            have hq2 := hrd ed (by simpa using hed.1) hed.2
            rw [he] at hq2
            by_cases hjs : j < listed.size
            · simp [hjs] at hq2 ⊢
              exact hq2
            · simp [hjs]
          have hq2 := gone_listed I.closed 4 k q o ho hwa (ok.tail k o h ho q (by omega))
          rw [hqf] at hq2; cases hq2
      exact I.step ok hm hes hhs hst hkn hk fun a' w' I' => ih _ a' w' I' (by omega)
/-- **ONE WALK OF THE LEXICAL ORDER SERVES EVERY ORDER**; behind it the last operations, that wait for all. -/
theorem wp_region_linT {P : Program} {id : Nat} {Q : Exit → Act → World → Prop} {a : Act} {W : World} {l : List Oper} (n : Nat) (hm : P.follows .mixedOrders = true) (hB : relBN l.toArray a.tmps.size n = true)
    (h : wpLin P l.toArray W (fun a' w' => wpList P l.toArray Q (l.drop n) a' w') (l.take n) [] [] (fun _ => a)) : (Code.region id l.toArray true).wp P Q a W := by
  have ok := RelOkN.of hB
  have hle : n ≤ l.length := by have := ok.le; simpa using this
  have htl : (l.take n).length = n := by rw [List.length_take]; omega
  obtain ⟨es, hs, hl, hhs, _, hob, hend⟩ := wpLin_out (P := P) (ops := l.toArray) (W := W) (a0 := a) (l.take n) [] [] (fun _ => a) rfl (fun j hj => by
    rw [List.getElem?_take_of_lt (by omega)]; simp) (fun _ => rfl) h
  have hes : es.length = n := by rw [hl, htl]; simp
  have hno : ∀ j, j < l.toArray.size → (Array.replicate l.toArray.size false).getD j true = false := fun j hj => by simp at hj; simp [hj]
  have hno2 : ∀ (j : Nat) (o : Oper), l.toArray[j]? = some o → (Array.replicate l.toArray.size false).getD j true = true → False := fun j o ho h => by
    rw [hno j (Array.getElem?_eq_some_iff.1 ho).1] at h; cases h
  have hno3 : ∀ (j : Nat) (e : Ent), es[j]? = some e → (Array.replicate l.toArray.size false).getD j true = true → False := fun j e he h => by
    rw [hno j (by have := (List.getElem?_eq_some_iff.1 he).1; have := ok.le; omega)] at h; cases h
  refine wp_region_any hm (wpAny_lin ok rfl hes hhs (fun k o e h ho he hh => hob k o e h (Nat.zero_le _) (by rw [Array.getElem?_toList]; exact ho) he hh) hend _ _ _ _ ?_ ?_)
  · exact ⟨by simp, fun j hj h => (by rw [hno j hj] at h; cases h), fun i p hp h => (hno2 i p hp h).elim, rfl, rfl, fun _ _ => rfl, fun j o e t ho _ h _ => (hno2 j o ho h).elim, fun j e he h _ => (hno3 j e he h).elim, fun j S he h _ => (hno3 j _ he h).elim, fun i j S T hi _ h _ _ _ _ => (hno3 i _ hi h).elim, (Below.refl _ _).drew⟩
  · unfold left
    exact Nat.le_trans (List.length_filter_le _ _) (by simp)
/-- THE WALK, with the relations alone in the list (k: the place of the next operation). -/
def wpL (P : Program) (ops : Array Oper) (W : World) (Q : Act → World → Prop) : List Oper → Nat → List (Nat × (Value → World → Prop)) → ((Nat → Value) → Act) → Prop
  | [], _, env, A => ∀ (x : Nat → Value) (n : Later W), (∀ p ∈ env, p.2 (x p.1) n.w) → Q (A x) n.w
  | o :: rest, k, env, A =>
    (∃ c, (∀ (x : Nat → Value) (n : Later W), (∀ p ∈ env, p.1 ∈ needs ops o → p.2 (x p.1) n.w) → stepLin P ops o (.pure c) none (A x) n.w) ∧ wpL P ops W Q rest (k + 1) env (fun x => (A x).put o.dst c)) ∨
    (∃ S : Value → World → Prop, (∀ v w w', S v w → Kept W v w w' → S v w') ∧
      (∀ (x : Nat → Value) (n : Later W), (∀ p ∈ env, p.1 ∈ needs ops o → p.2 (x p.1) n.w) → stepLin P ops o (.rel S) none (A x) n.w) ∧ wpL P ops W Q rest (k + 1) ((k, S) :: env) (fun x => (A x).put o.dst (x k))) ∨
    (∃ (S : Value → World → Prop) (i j : Nat) (T : Value → World → Prop), (∀ v w w', S v w → Kept W v w w' → S v w') ∧ env[i]? = some (j, T) ∧ j ∈ needs ops o ∧ onlyB ops j k = true ∧
      (∀ (x : Nat → Value) (n : Later W), (∀ p ∈ env, p.1 ∈ needs ops o → p.2 (x p.1) n.w) → stepLin P ops o (.rel S) (x j).ownBlock (A x) n.w) ∧ wpL P ops W Q rest (k + 1) ((k, S) :: env.eraseIdx i) (fun x => (A x).put o.dst (x k)))
theorem wpLin_of {P : Program} {ops : Array Oper} {W : World} {Q : Act → World → Prop} : ∀ (l : List Oper) (k : Nat) (env : List (Nat × (Value → World → Prop))) (A : (Nat → Value) → Act) (es : List Ent) (hs : List (Option Nat)),
    es.length = k → (env.map (·.1)).Nodup → (∀ j, some j ∈ hs → j < k) → (∀ p ∈ env, es[p.1]? = some (.rel p.2) ∧ some p.1 ∉ hs) → wpL P ops W Q l k env A → wpLin P ops W Q l es hs A
  | [], _, env, A, es, hs, hl, hnd, hh, he, h => fun x n hx => h x n fun p hp => hx p.1 _ (he p hp).1 (he p hp).2
  | o :: rest, k, env, A, es, hs, hl, hnd, hh, he, h => by
    subst hl
    have lt : ∀ p ∈ env, p.1 < es.length := fun p hp => (List.getElem?_eq_some_iff.1 (he p hp).1).1
    have old : ∀ (e : Ent) (p : Nat × (Value → World → Prop)), p ∈ env → (es ++ [e])[p.1]? = some (.rel p.2) := fun e p hp => by rw [List.getElem?_append_left (lt p hp)]; exact (he p hp).1
    rcases h with ⟨c, hc, hr⟩ | ⟨S, hS, hc, hr⟩ | ⟨S, i, j, T, hS, hi, hj, ho, hc, hr⟩
    · refine ⟨.pure c, none, fun _ _ _ h _ => h, fun _ h => (by cases h), fun x n hf => hc x n fun p hp hw => hf p.1 hw _ (he p hp).1, ?_⟩
      exact wpLin_of rest (es.length + 1) env _ (es ++ [.pure c]) (hs ++ [none]) (by simp) hnd (fun j hj => by have := hh j (by simpa using hj); omega) (fun p hp => ⟨old _ p hp, by simpa using (he p hp).2⟩) hr
    · refine ⟨.rel S, none, hS, fun _ h => (by cases h), fun x n hf => hc x n fun p hp hw => hf p.1 hw _ (he p hp).1, ?_⟩
      refine wpLin_of rest (es.length + 1) ((es.length, S) :: env) _ (es ++ [.rel S]) (hs ++ [none]) (by simp) ?_ (fun j hj => by have := hh j (by simpa using hj); omega) (fun p hp => ?_) hr
      · rw [List.map_cons, List.nodup_cons]
        exact ⟨fun h => by
          obtain ⟨p, hp, e⟩ := List.mem_map.1 h
          have := lt p hp
          simp only at e; omega, hnd⟩
      · rcases List.mem_cons.1 hp with rfl | hp
        · exact ⟨by simp, fun h => by have := hh es.length (by simpa using h); omega⟩
        · exact ⟨old _ p hp, by simpa using (he p hp).2⟩
    · have hm := List.mem_of_getElem? hi
      refine ⟨.rel S, some j, hS, fun j' h => by cases h; exact ⟨hj, ho, T, (he _ hm).1⟩, fun x n hf => hc x n fun p hp hw => hf p.1 hw _ (he p hp).1, ?_⟩
      have hsub : ∀ p, p ∈ env.eraseIdx i → p ∈ env ∧ p.1 ≠ j := fun p hp => by
        obtain ⟨q, hq, hpq⟩ := List.mem_eraseIdx_iff_getElem?.1 hp
        refine ⟨List.mem_of_getElem? hpq, fun e => hq ?_⟩
        have h1 : (env.map (·.1))[q]? = some j := by rw [List.getElem?_map, hpq]; simp [e]
        have h2 : (env.map (·.1))[i]? = some j := by rw [List.getElem?_map, hi]; rfl
        have hql := (List.getElem?_eq_some_iff.1 h1).1
        have hil := (List.getElem?_eq_some_iff.1 h2).1
        have e3 : (env.map (·.1))[q] = (env.map (·.1))[i] := by rw [(List.getElem?_eq_some_iff.1 h1).2, (List.getElem?_eq_some_iff.1 h2).2]
        rcases Nat.lt_trichotomy q i with h | h | h
        · exact absurd e3 (List.pairwise_iff_getElem.1 hnd q i hql hil h)
        · exact h
        · exact absurd e3.symm (List.pairwise_iff_getElem.1 hnd i q hil hql h)
      refine wpLin_of rest (es.length + 1) ((es.length, S) :: env.eraseIdx i) _ (es ++ [.rel S]) (hs ++ [some j]) (by simp) ?_ (fun j' hj' => ?_) (fun p hp => ?_) hr
      · rw [List.map_cons, List.nodup_cons]
        refine ⟨fun h => ?_, ?_⟩
        · obtain ⟨p, hp, e⟩ := List.mem_map.1 h
          have := lt p (hsub p hp).1
          simp only at e; omega
        · exact hnd.sublist ((List.eraseIdx_sublist env i).map _)
      · rcases List.mem_append.1 hj' with h | h
        · have := hh j' h; omega
        · simp at h; subst h
          have := lt _ hm
          simp only at this; omega
      · rcases List.mem_cons.1 hp with rfl | hp
        · refine ⟨by simp, fun h => ?_⟩
          rcases List.mem_append.1 h with h | h
          · have := hh _ h
            simp only at this; omega
          · simp at h
            have := lt _ hm
            simp only at this; omega
        · obtain ⟨h1, h2⟩ := hsub p hp
          refine ⟨old _ p h1, fun h => ?_⟩
          rcases List.mem_append.1 h with h | h
          · exact (he p h1).2 h
          · simp at h; exact h2 h
theorem wp_region_t {P : Program} {id : Nat} {Q : Exit → Act → World → Prop} {a : Act} {W : World} {l : List Oper} (n : Nat) (hm : P.follows .mixedOrders = true) (hB : relBN l.toArray a.tmps.size n = true)
    (h : wpL P l.toArray W (fun a' w' => wpList P l.toArray Q (l.drop n) a' w') (l.take n) 0 [] (fun _ => a)) : (Code.region id l.toArray true).wp P Q a W :=
  wp_region_linT n hm hB (wpLin_of (l.take n) 0 [] _ [] [] rfl List.nodup_nil (fun _ h => by cases h) (fun _ h => by cases h) h)
theorem wp_region_l {P : Program} {id : Nat} {Q : Exit → Act → World → Prop} {a : Act} {W : World} {l : List Oper} (hm : P.follows .mixedOrders = true) (hB : relBN l.toArray a.tmps.size l.length = true)
    (h : wpL P l.toArray W (fun a' w' => Q .normal a' w') l 0 [] (fun _ => a)) : (Code.region id l.toArray true).wp P Q a W := by
  refine wp_region_t l.length hm hB ?_
  rw [List.take_length, List.drop_length]
  exact h
section
variable {P : Program} {ops : Array Oper} {W : World} {Q : Act → World → Prop} {o : Oper} {rest : List Oper} {k : Nat} {env : List (Nat × (Value → World → Prop))} {A : (Nat → Value) → Act}
theorem grown_of_below {w w' : World} (h : Below w.heap.size w w') (r : Option Nat) : w.grownBy w' r := ⟨h.os, h.tape, h.output, h.size, fun k hk _ => h.block k hk⟩
theorem relOp_mono {P : Program} {o : Oper} {a : Act} {w : World} {R R' : Value → World → Prop} (h : relOp P o a w R) (hi : ∀ v w', R v w' → R' v w') : relOp P o a w R' := by
  unfold relOp at *
  generalize (execOp a.eval o).run P w = r at *
  cases r with
  | ok n w' =>
    cases n <;> simp only [relUpon] at h ⊢
    case value v => exact hi _ _ h
    case skip => exact hi _ _ h
    case enter f args => exact h.mono fun e w'' ⟨v, he, hr⟩ => ⟨v, he, hi _ _ hr⟩
    case row row args => exact h.mono fun v w'' hr => hi _ _ hr
  | halt x w' => simp only [relUpon] at h
theorem stepLin_quiet {c : Value} {a : Act} {w : World} (h : if Region.wanted o (yielded ops a.tmps) then o.quietAt P a (fun w' => Below w.heap.size w w') w c else c = undef) : stepLin P ops o (.pure c) none a w := by
  have h1 := stepRel_quiet (P := P) h
  unfold stepRel at h1
  unfold stepLin
  split
  · rename_i hw
    rw [if_pos hw] at h1
    exact relOp_mono h1 fun v w' ⟨q1, q2⟩ => ⟨q1, grown_of_below q2 _, fun h => by cases h⟩
  · rename_i hw
    rw [if_neg hw] at h1
    exact h1
theorem wpL_pure (h : ∀ K : ((Nat → Value) → Act) → Prop, (∀ A', wpL P ops W Q rest (k + 1) env A' → K A') →
      ∃ c, (∀ (x : Nat → Value) (n : Later W), if Region.wanted o (yielded ops (A x).tmps) then o.quietAt P (A x) (fun w' => Below n.w.heap.size n.w w') n.w c else c = undef) ∧ K (fun x => (A x).put o.dst c)) :
    wpL P ops W Q (o :: rest) k env A := by
  obtain ⟨c, h1, h2⟩ := h (fun A' => wpL P ops W Q rest (k + 1) env A') (fun _ h => h)
  exact .inl ⟨c, fun x n _ => stepLin_quiet (h1 x n), h2⟩
/-- One operation that looks at what was made, and whose value is known. -/
theorem wpL_use (c : Value) (h1 : ∀ (x : Nat → Value) (n : Later W), (∀ p ∈ env, p.1 ∈ needs ops o → p.2 (x p.1) n.w) → if Region.wanted o (yielded ops (A x).tmps) then o.quietAt P (A x) (fun w' => Below n.w.heap.size n.w w') n.w c else c = undef)
    (h2 : ∀ K : ((Nat → Value) → Act) → Prop, (∀ A', wpL P ops W Q rest (k + 1) env A' → K A') → K (fun x => (A x).put o.dst c)) : wpL P ops W Q (o :: rest) k env A :=
  .inl ⟨c, fun x n hf => stepLin_quiet (h1 x n hf), h2 (fun A' => wpL P ops W Q rest (k + 1) env A') (fun _ h => h)⟩
/-- One operation that makes something. -/
theorem wpL_make (S : Value → World → Prop) (hS : ∀ v w w', S v w → Kept W v w w' → S v w')
    (h1 : ∀ (x : Nat → Value) (n : Later W), (∀ p ∈ env, p.1 ∈ needs ops o → p.2 (x p.1) n.w) → if Region.wanted o (yielded ops (A x).tmps) then relOp P o (A x) n.w (fun v w' => S v w' ∧ Below n.w.heap.size n.w w' ∧ ∀ g, v.ownBlock = some g → n.w.heap.size ≤ g ∧ g < w'.heap.size) else S undef n.w)
    (h2 : ∀ K : ((Nat → Value) → Act) → Prop, (∀ A', wpL P ops W Q rest (k + 1) ((k, S) :: env) A' → K A') → K (fun x => (A x).put o.dst (x k))) : wpL P ops W Q (o :: rest) k env A :=
  .inr (.inl ⟨S, hS, fun x n hf => by
    have := h1 x n hf
    unfold stepLin
    split
    · rename_i hw
      rw [if_pos hw] at this
      exact relOp_mono this fun v w' ⟨q1, q2, q3⟩ => ⟨q1, grown_of_below q2 _, fun _ g hg => ⟨.inl (q3 g hg).1, (q3 g hg).2⟩⟩
    · rename_i hw
      rw [if_neg hw] at this
      exact this, h2 (fun A' => wpL P ops W Q rest (k + 1) ((k, S) :: env) A') (fun _ h => h)⟩)
/-- One operation that takes over the row of what stands at place i of the list. -/
theorem wpL_take (i : Nat) {j : Nat} {T : Value → World → Prop} (S : Value → World → Prop) (hS : ∀ v w w', S v w → Kept W v w w' → S v w') (hi : env[i]? = some (j, T)) (hw : (needs ops o).contains j = true) (ho : onlyB ops j k = true)
    (h1 : ∀ (x : Nat → Value) (n : Later W), (∀ p ∈ env, p.1 ∈ needs ops o → p.2 (x p.1) n.w) → if Region.wanted o (yielded ops (A x).tmps) then relOp P o (A x) n.w (fun v w' => S v w' ∧ n.w.grownBy w' (x j).ownBlock ∧ ∀ g, v.ownBlock = some g → (n.w.heap.size ≤ g ∨ (x j).ownBlock = some g) ∧ g < w'.heap.size) else S undef n.w)
    (h2 : ∀ K : ((Nat → Value) → Act) → Prop, (∀ A', wpL P ops W Q rest (k + 1) ((k, S) :: env.eraseIdx i) A' → K A') → K (fun x => (A x).put o.dst (x k))) : wpL P ops W Q (o :: rest) k env A :=
  .inr (.inr ⟨S, i, j, T, hS, hi, List.contains_iff_mem.1 hw, ho, fun x n hf => by
    have := h1 x n hf
    unfold stepLin
    split
    · rename_i hw
      rw [if_pos hw] at this
      exact relOp_mono this fun v w' ⟨q1, q2, q3⟩ => ⟨q1, q2, fun _ => q3⟩
    · rename_i hw
      rw [if_neg hw] at this
      exact this, h2 (fun A' => wpL P ops W Q rest (k + 1) ((k, S) :: env.eraseIdx i) A') (fun _ h => h)⟩)
/-- What is known of what operation j made, where this one needs it (i: its place in the list). -/
theorem factL {x : Nat → Value} {w : World} (hf : ∀ p ∈ env, p.1 ∈ needs ops o → p.2 (x p.1) w) (i : Nat) {j : Nat} {S : Value → World → Prop} (hi : env[i]? = some (j, S)) (hw : (needs ops o).contains j = true) : S (x j) w :=
  hf (j, S) (List.mem_of_getElem? hi) (List.contains_iff_mem.1 hw)
theorem wpL_nil (h : ∀ (x : Nat → Value) (n : Later W), (∀ p ∈ env, p.2 (x p.1) n.w) → Q (A x) n.w) : wpL P ops W Q [] k env A := h
/-- An append, as an operation of the region. -/
theorem relOp_append {P : Program} {o : Oper} {a : Act} {w : World} {R : Value → World → Prop} (s y : Operand) (t tx : TypeId) (ho : o.op = .call { callee := .builtin .append, args := #[s, y], argTypes := #[t, tx] })
    {v yv v' : Value} {w' : World} (hv : a.eval s = v) (hy : a.eval y = yv) (hrun : (Builtin.append_ #[t, tx] o.type #[v, yv]).run P w = .ok v' w') (hR : R v' w') : relOp P o a w R := by
  unfold relOp
  simp [execOp, ho, resolve, invoke, builtin, hv, hy, hrun, Result.andThen, relUpon]
  exact hR
end
theorem new_own (w : World) (o : Obj) (n c : Nat) : ∀ g, (Value.slice (some ⟨w.heap.size, 0, none⟩) n c).ownBlock = some g → w.heap.size ≤ g ∧ g < (w.alloc o).heap.size := fun g hg => by
  simp [Value.ownBlock] at hg
  subst hg
  exact ⟨Nat.le_refl _, by simp⟩
theorem OwnC.stay {W w w' : World} {base size n : Nat} {v : Value} {xs : List Value} (h : OwnC w base size v n xs) (hk : Kept W v w w') : OwnC w' base size v n xs :=
  h.own hk.1 fun g hg => hk.2 g (h.lt g hg).2 (.inr hg)
end Go.Proofs.Ytnndanpahcdmaaa
