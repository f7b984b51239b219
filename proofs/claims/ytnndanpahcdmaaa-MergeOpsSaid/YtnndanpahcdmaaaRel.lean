/-
  A REGION THAT DRAWS ITS ORDER, WHOSE OPERATIONS MAKE MEMORY BUT CHANGE NONE THAT WAS THERE, and hand what they made to one another: each operation has a relation that its value stands in (to the world, and stays so as memory grows), shown from the relations of those operations alone that it waits for. One walk in the order of the text serves every order.
-/
import Derived.Test.YtnndanpahcdmaaaLater
import Derived.Orders
namespace Go.Proofs.Ytnndanpahcdmaaa
open Go.RowKit Go.Lib
/-- What is known of an operation's value: that it is c; or that it stands so to the world. -/
inductive Ent where
  | pure (c : Value)
  | rel (S : Value → World → Prop)
def Ent.val : Ent → Value → Value
  | .pure c, _ => c
  | .rel _, v => v
def Ent.holds : Ent → Value → World → Prop
  | .pure c, v, _ => v = c
  | .rel S, v, w => S v w
def Ent.stable (e : Ent) : Prop := ∀ v w w', e.holds v w → Below w.heap.size w w' → e.holds v w'
theorem Ent.val_of {e : Ent} {v : Value} {w : World} (h : e.holds v w) : e.val v = v := by
  cases e with
  | pure c => exact h.symm
  | rel S => rfl
/-- The operations that this one waits for. -/
def waits (o : Oper) : List Nat := (o.after.toList.filter fun e => Region.binds .any e).map (·.on)
/-- What an operation's run must come to: a value that stands so to the world. -/
def relUpon (P : Program) (R : Value → World → Prop) : Result Next → Prop
  | .ok (.value v) w' => R v w'
  | .ok .skip w' => R undef w'
  | .ok (.enter f args) w' => Calls P f args w' fun e w'' => ∃ v, e = .returned v ∧ R v w''
  | .ok (.row row args) w' => Rows P row args w' R
  | _ => False
def relOp (P : Program) (o : Oper) (a : Act) (w : World) (R : Value → World → Prop) : Prop := relUpon P R ((execOp a.eval o).run P w)
theorem wp_of_relOp {P : Program} {o : Oper} {a : Act} {w : World} {R : Value → World → Prop} {K : Act → World → Prop} {Q : Exit → Act → World → Prop}
    (h : relOp P o a w R) (hK : ∀ v w', R v w' → K (a.put o.dst v) w') : o.wp P a w K Q := by
  unfold relOp at h
  unfold Oper.wp
  generalize (execOp a.eval o).run P w = r at *
  cases r with
  | ok n w' =>
    cases n <;> simp only [relUpon] at h <;> simp only [Oper.upon]
    case value v => exact hK _ _ h
    case skip => exact hK _ _ h
    case enter f args => exact h.mono fun e w'' ⟨v, he, hr⟩ => by subst he; exact hK _ _ hr
    case row row args => exact h.mono fun v w'' hr => hK _ _ hr
  | halt x w' => simp only [relUpon] at h
def stepRel (P : Program) (ops : Array Oper) (o : Oper) (e : Ent) (a : Act) (w : World) : Prop :=
  if Region.wanted o (yielded ops a.tmps) then relOp P o a w (fun v w' => e.holds v w' ∧ Below w.heap.size w w') else e.holds undef w
def Facts (env : List Ent) (o : Oper) (x : Nat → Value) (w : World) : Prop := ∀ j ∈ waits o, ∀ e, env[j]? = some e → e.holds (x j) w
/-- THE WALK. -/
def wpRel (P : Program) (ops : Array Oper) (W : World) (Q : Act → World → Prop) : List Oper → List Ent → ((Nat → Value) → Act) → Prop
  | [], env, A => ∀ (x : Nat → Value) (n : Later W), (∀ (j : Nat) (e : Ent), env[j]? = some e → e.holds (x j) n.w) → Q (A x) n.w
  | o :: rest, env, A => ∃ e : Ent, e.stable ∧ (∀ (x : Nat → Value) (n : Later W), Facts env o x n.w → stepRel P ops o e (A x) n.w) ∧
      wpRel P ops W Q rest (env ++ [e]) (fun x => (A x).put o.dst (e.val (x env.length)))
/-- The act behind the first operations. -/
def actOf (ops : List Oper) (es : List Ent) (a0 : Act) (x : Nat → Value) : Nat → Act
  | 0 => a0
  | k + 1 => match ops[k]?, es[k]? with
    | some o, some e => (actOf ops es a0 x k).put o.dst (e.val (x k))
    | _, _ => actOf ops es a0 x k
theorem actOf_grow (ops : List Oper) (es r : List Ent) (a0 : Act) (x : Nat → Value) : ∀ k, k ≤ es.length → actOf ops (es ++ r) a0 x k = actOf ops es a0 x k
  | 0, _ => rfl
  | k + 1, h => by
    have e : (es ++ r)[k]? = es[k]? := List.getElem?_append_left (by omega)
    simp only [actOf, e, actOf_grow ops es r a0 x k (by omega)]
theorem wpRel_out {P : Program} {ops : Array Oper} {W : World} {Q : Act → World → Prop} {a0 : Act} : ∀ (rest : List Oper) (env : List Ent) (A : (Nat → Value) → Act),
    (∀ j, rest[j]? = ops.toList[env.length + j]?) → (∀ x, A x = actOf ops.toList env a0 x env.length) → wpRel P ops W Q rest env A →
    ∃ es : List Ent, es.length = env.length + rest.length ∧ (∀ j, j < env.length → es[j]? = env[j]?) ∧
      (∀ (k : Nat) (o : Oper) (e : Ent), env.length ≤ k → ops.toList[k]? = some o → es[k]? = some e → e.stable ∧ ∀ (x : Nat → Value) (n : Later W), Facts (es.take k) o x n.w → stepRel P ops o e (actOf ops.toList es a0 x k) n.w) ∧
      (∀ (x : Nat → Value) (n : Later W), (∀ (j : Nat) (e : Ent), es[j]? = some e → e.holds (x j) n.w) → Q (actOf ops.toList es a0 x es.length) n.w)
  | [], env, A, hr, hA, h => ⟨env, by simp, fun _ _ => rfl, fun k o e hk ho he => (by
      rw [List.getElem?_eq_none (by omega)] at he; cases he), fun x n hx => by rw [← hA]; exact h x n hx⟩
  | o :: rest, env, A, hr, hA, h => by
    obtain ⟨e, hs, hst, hrest⟩ := h
    have ho : ops.toList[env.length]? = some o := by have := hr 0; simpa using this.symm
    have hA' : ∀ x, (A x).put o.dst (e.val (x env.length)) = actOf ops.toList (env ++ [e]) a0 x (env ++ [e]).length := fun x => by
      have e1 : (env ++ [e]).length = env.length + 1 := by simp
      have e2 : (env ++ [e])[env.length]? = some e := by simp
      rw [e1]
      simp only [actOf, ho, e2]
      rw [actOf_grow _ _ _ _ _ _ (Nat.le_refl _), ← hA]
    obtain ⟨es, hl, hpre, hob, hend⟩ := wpRel_out (P := P) (W := W) (Q := Q) rest (env ++ [e]) _ (fun j => by
      have := hr (j + 1); simp only [List.getElem?_cons_succ] at this; rw [this]; simp; congr 1; omega) hA' hrest
    have hle : (env ++ [e]).length = env.length + 1 := by simp
    have hee : es[env.length]? = some e := by rw [hpre _ (by omega)]; simp
    have htk : es.take env.length = env := by
      apply List.ext_getElem?
      intro i
      rw [List.getElem?_take]
      by_cases hi : i < env.length
      · rw [if_pos hi, hpre i (by omega), List.getElem?_append_left hi]
      · rw [if_neg hi, List.getElem?_eq_none (by omega)]
    have hact : ∀ x, actOf ops.toList es a0 x env.length = A x := fun x => by
      rw [hA x]
      have e3 := actOf_grow ops.toList env (es.drop env.length) a0 x env.length (Nat.le_refl _)
      rw [← htk] at e3
      rw [List.length_take] at e3
      have e4 : min env.length es.length = env.length := by omega
      rw [e4, List.take_append_drop, htk] at e3
      exact e3
    refine ⟨es, by simp at hl ⊢; omega, fun j hj => by rw [hpre j (by omega), List.getElem?_append_left hj], ?_, hend⟩
    intro k o' e' hk ho' he'
    by_cases hke : k = env.length
    · subst hke
      rw [ho] at ho'; rw [hee] at he'
      cases ho'; cases he'
      refine ⟨hs, fun x n hf => ?_⟩
      rw [hact x]
      rw [htk] at hf
      exact hst x n hf
    · exact hob k o' e' (by omega) ho' he'
/-- What the theorem asks of a region: closed, by the kernel. -/
def relB (ops : Array Oper) (m : Nat) : Bool :=
  Region.noSelect ops && (List.range ops.size).all fun k =>
    match ops[k]? with
    | none => true
    | some o =>
      (match o.dst with | some d => decide (d < m) | none => false) && ((waits o).all fun j => decide (j < k)) &&
      (List.range ops.size).all fun i =>
        match ops[i]? with
        | none => true
        | some p => (i == k || p.dst != o.dst) &&
          (match p.dst with
           | some t => !(o.looksAt ops).contains t || i == k || (decide (i < k) && (waits o).contains i) || (decide (k < i) && (waits p).contains k)
           | none => true)
structure RelOk (ops : Array Oper) (m : Nat) : Prop where
  sel : ∀ (j : Nat) (o : Oper) cs b, ops[j]? = some o → o.op ≠ .select cs b
  dst : ∀ (k : Nat) (o : Oper), ops[k]? = some o → ∃ d, o.dst = some d ∧ d < m
  early : ∀ (k : Nat) (o : Oper), ops[k]? = some o → ∀ j ∈ waits o, j < k
  one : ∀ (k i : Nat) (o p : Oper), ops[k]? = some o → ops[i]? = some p → i ≠ k → p.dst ≠ o.dst
  looks : ∀ (k i : Nat) (o p : Oper) (t : Tmp), ops[k]? = some o → ops[i]? = some p → p.dst = some t → t ∈ o.looksAt ops → i ≠ k → (i < k ∧ i ∈ waits o) ∨ (k < i ∧ k ∈ waits p)
theorem RelOk.of {ops : Array Oper} {m : Nat} (h : relB ops m = true) : RelOk ops m := by
  unfold relB at h
  rw [Bool.and_eq_true, List.all_eq_true] at h
  obtain ⟨hs, h⟩ := h
  have key : ∀ (k : Nat) (o : Oper), ops[k]? = some o → _ := fun k o ho => by
    have hk : k < ops.size := (Array.getElem?_eq_some_iff.1 ho).1
    have := h k (List.mem_range.2 hk)
    simp only [ho, Bool.and_eq_true, List.all_eq_true, decide_eq_true_eq] at this
    exact this
  refine ⟨Region.noSelect_spec hs, fun k o ho => ?_, fun k o ho => (key k o ho).1.2, fun k i o p ho hp hne => ?_, fun k i o p t ho hp ht hm hne => ?_⟩
  · have := (key k o ho).1.1
    cases hd : o.dst with
    | none => rw [hd] at this; cases this
    | some d => rw [hd] at this; exact ⟨d, rfl, by simpa using this⟩
  · have hi : i < ops.size := (Array.getElem?_eq_some_iff.1 hp).1
    have := (key k o ho).2 i (List.mem_range.2 hi)
    simp only [hp, Bool.and_eq_true, Bool.or_eq_true, beq_iff_eq, bne_iff_ne] at this
    exact this.1.resolve_left hne
  · have hi : i < ops.size := (Array.getElem?_eq_some_iff.1 hp).1
    have := (key k o ho).2 i (List.mem_range.2 hi)
    simp only [hp, ht, Bool.and_eq_true, Bool.or_eq_true, beq_iff_eq, Bool.not_eq_true', List.contains_iff_mem, decide_eq_true_eq] at this
    rcases this.2 with ((h1 | h1) | h1) | h1
    · rw [List.contains_eq_mem] at h1; simp [hm] at h1
    · exact absurd h1 hne
    · exact .inl h1
    · exact .inr h1
/-- A slot behind the first operations. -/
theorem actOf_tmps {ops : Array Oper} {m : Nat} (ok : RelOk ops m) (es : List Ent) (a0 : Act) (hm : a0.tmps.size = m) (x : Nat → Value) : ∀ k, k ≤ es.length → k ≤ ops.size →
    (actOf ops.toList es a0 x k).tmps.size = m ∧ (actOf ops.toList es a0 x k).defers = a0.defers ∧
    (∀ t, (∀ (j : Nat) (o : Oper), j < k → ops[j]? = some o → o.dst ≠ some t) → (actOf ops.toList es a0 x k).tmps[t]? = a0.tmps[t]?) ∧
    (∀ (j : Nat) (o : Oper) (e : Ent) (t : Tmp), j < k → ops[j]? = some o → es[j]? = some e → o.dst = some t → (actOf ops.toList es a0 x k).tmps[t]? = some (e.val (x j)))
  | 0, _, _ => ⟨hm, rfl, fun _ _ => rfl, fun j _ _ _ hj => absurd hj (Nat.not_lt_zero _)⟩
  | k + 1, hk, hks => by
    obtain ⟨h1, h2, h3, h4⟩ := actOf_tmps ok es a0 hm x k (by omega) (by omega)
    obtain ⟨o, ho⟩ : ∃ o, ops[k]? = some o := ⟨ops[k], Array.getElem?_eq_getElem (by omega)⟩
    obtain ⟨e, he⟩ : ∃ e, es[k]? = some e := ⟨es[k], List.getElem?_eq_getElem (by omega)⟩
    obtain ⟨d, hd, hdm⟩ := ok.dst k o ho
    have hol : ops.toList[k]? = some o := by rw [Array.getElem?_toList]; exact ho
    have hA : actOf ops.toList es a0 x (k + 1) = (actOf ops.toList es a0 x k).put (some d) (e.val (x k)) := by simp only [actOf, hol, he, hd]
    rw [hA]
    generalize actOf ops.toList es a0 x k = A at *
    refine ⟨by simp [Act.put, h1], h2, fun t ht => ?_, fun j o' e' t hj ho' he' ht => ?_⟩
    · have hne : d ≠ t := fun ed => ht k o (Nat.lt_succ_self k) ho (by rw [hd, ed])
      have : (A.put (some d) (e.val (x k))).tmps[t]? = A.tmps[t]? := by simp [Act.put, Array.getElem?_setIfInBounds_ne hne]
      rw [this]
      exact h3 t fun j o' hj ho' => ht j o' (by omega) ho'
    · by_cases hjk : j = k
      · subst hjk
        rw [ho] at ho'; cases ho'
        rw [he] at he'; cases he'
        rw [hd] at ht; cases ht
        simp [Act.put, h1, hdm]
      · have hne : d ≠ t := fun ed => ok.one k j o o' ho ho' hjk (by rw [ht, hd, ed])
        have : (A.put (some d) (e.val (x k))).tmps[t]? = A.tmps[t]? := by simp [Act.put, Array.getElem?_setIfInBounds_ne hne]
        rw [this]
        exact h4 j o' e' t (by omega) ho' he' ht
/-- What holds whatever operations have come up. -/
structure RelInv (ops : Array Oper) (m : Nat) (es : List Ent) (a0 : Act) (W : World) (listed : Array Bool) (a : Act) (w : World) : Prop where
  lsize : listed.size = ops.size
  closed : ∀ (i : Nat) (p : Oper), ops[i]? = some p → listed.getD i true = true → ∀ j ∈ waits p, listed.getD j true = true
  size : a.tmps.size = m
  defers : a.defers = a0.defers
  old : ∀ t, (∀ (j : Nat) (o : Oper), ops[j]? = some o → listed.getD j true = true → o.dst ≠ some t) → a.tmps[t]? = a0.tmps[t]?
  new : ∀ (j : Nat) (o : Oper) (e : Ent) (t : Tmp), ops[j]? = some o → es[j]? = some e → listed.getD j true = true → o.dst = some t → e.holds (a.tmps.getD t undef) w
  later : Below W.heap.size W w
/-- The values that stand in the slots now. -/
def valsOf (ops : Array Oper) (a : Act) (j : Nat) : Value := match (ops[j]?).bind (·.dst) with | some d => a.tmps.getD d undef | none => undef
theorem RelInv.facts {ops : Array Oper} {m : Nat} {es : List Ent} {a0 : Act} {W : World} {listed : Array Bool} {a : Act} {w : World} (I : RelInv ops m es a0 W listed a w) (ok : RelOk ops m) {j : Nat} {o : Oper} {e : Ent}
    (ho : ops[j]? = some o) (he : es[j]? = some e) (hl : listed.getD j true = true) : e.holds (valsOf ops a j) w := by
  obtain ⟨d, hd, _⟩ := ok.dst j o ho
  have := I.new j o e d ho he hl hd
  simpa [valsOf, ho, hd] using this
/-- The slots that operation k looks at are those of the walk. -/
theorem RelInv.slot {ops : Array Oper} {m : Nat} {es : List Ent} {a0 : Act} {W : World} {listed : Array Bool} {a : Act} {w : World} (I : RelInv ops m es a0 W listed a w) (ok : RelOk ops m) (hm : a0.tmps.size = m) (hes : es.length = ops.size)
    {k : Nat} {o : Oper} (ho : ops[k]? = some o) (hun : listed.getD k true = false) (hw : ∀ j ∈ waits o, listed.getD j true = true) {t : Tmp} (ht : t ∈ o.looksAt ops) :
    (actOf ops.toList es a0 (valsOf ops a) k).tmps[t]? = a.tmps[t]? := by
  have hk : k < ops.size := (Array.getElem?_eq_some_iff.1 ho).1
  obtain ⟨h1, _, h3, h4⟩ := actOf_tmps ok es a0 hm (valsOf ops a) k (by omega) (by omega)
  by_cases hwr : ∃ (j : Nat) (p : Oper), ops[j]? = some p ∧ p.dst = some t ∧ j < k
  · obtain ⟨j, p, hp, hpt, hjk⟩ := hwr
    have hj : j ∈ waits o := by
      rcases ok.looks k j o p t ho hp hpt ht (by omega) with h | h
      · exact h.2
      · omega
    have hl := hw j hj
    obtain ⟨e, he⟩ : ∃ e, es[j]? = some e := ⟨es[j]'(by omega), List.getElem?_eq_getElem (by omega)⟩
    rw [h4 j p e t hjk hp he hpt]
    have hh := I.new j p e t hp he hl hpt
    have hv : valsOf ops a j = a.tmps.getD t undef := by simp [valsOf, hp, hpt]
    rw [hv, Ent.val_of hh]
    obtain ⟨d, hd, hdm⟩ := ok.dst j p hp
    rw [hpt] at hd; cases hd
    have : t < a.tmps.size := by rw [I.size]; exact hdm
    simp [this]
  · rw [h3 t fun j p hj hp hpt => hwr ⟨j, p, hp, hpt, hj⟩]
    refine (I.old t fun j p hp hl hpt => ?_).symm
    have hjk : j ≠ k := fun e => by rw [e, hun] at hl; cases hl
    rcases ok.looks k j o p t ho hp hpt ht hjk with h | h
    · exact hwr ⟨j, p, hp, hpt, h.1⟩
    · have := I.closed j p hp hl k h.2
      rw [hun] at this; cases this
theorem RelInv.step {P : Program} {ops : Array Oper} {m : Nat} {es : List Ent} {a0 : Act} {W : World} {listed : Array Bool} {a : Act} {w : World} (I : RelInv ops m es a0 W listed a w) (ok : RelOk ops m) (hm : a0.tmps.size = m) (hes : es.length = ops.size)
    (hst : ∀ (k : Nat) (o : Oper) (e : Ent), ops[k]? = some o → es[k]? = some e → e.stable ∧ ∀ (x : Nat → Value) (n : Later W), Facts (es.take k) o x n.w → stepRel P ops o e (actOf ops.toList es a0 x k) n.w)
    {Q : Exit → Act → World → Prop} {k : Nat} (hr : k ∈ Region.ready .any ops listed) {K : Act → World → Prop}
    (hK : ∀ a' w', RelInv ops m es a0 W (listed.setIfInBounds k true) a' w' → K a' w') : wpOp P ops Q k K a w := by
  obtain ⟨hun, o, ho, hall⟩ := mem_ready.1 hr
  have hk : k < ops.size := (Array.getElem?_eq_some_iff.1 ho).1
  have hw : ∀ j ∈ waits o, listed.getD j true = true := fun j hj => by
    unfold waits at hj
    obtain ⟨ed, hed, rfl⟩ := List.mem_map.1 hj
    rw [List.mem_filter] at hed
    have hq := hall ed (by simpa using hed.1) hed.2
    have hjs : ed.on < listed.size := by
      rcases Nat.lt_or_ge ed.on listed.size with h | h
      · exact h
      · simp [Array.getElem?_eq_none h] at hq
    simp [hjs] at hq ⊢
    exact hq
  obtain ⟨e, he⟩ : ∃ e, es[k]? = some e := ⟨es[k]'(by omega), List.getElem?_eq_getElem (by omega)⟩
  obtain ⟨hsta, hob⟩ := hst k o e ho he
  have hf : Facts (es.take k) o (valsOf ops a) w := fun j hj e' he' => by
    rw [List.getElem?_take] at he'
    split at he'
    · have hjk := ok.early k o ho j hj
      obtain ⟨p, hp⟩ : ∃ p, ops[j]? = some p := ⟨ops[j]'(by omega), Array.getElem?_eq_getElem (by omega)⟩
      exact I.facts ok hp he' (hw j hj)
    · cases he'
  have hs := hob (valsOf ops a) ⟨w, I.later⟩ hf
  have hslot : ∀ t, t ∈ o.looksAt ops → (actOf ops.toList es a0 (valsOf ops a) k).tmps[t]? = a.tmps[t]? := fun t ht => I.slot ok hm hes ho hun hw ht
  have hexe : execOp (actOf ops.toList es a0 (valsOf ops a) k).eval o = execOp a.eval o := execOp_congr o (fun cs b => ok.sel k o cs b ho) fun y hy => by
    cases y with
    | tmp t =>
      have := hslot t (List.mem_append_left _ (List.mem_filterMap.2 ⟨.tmp t, by simpa using hy, rfl⟩))
      simp only [Act.eval, Array.getD_eq_getD_getElem?, this]
    | _ => rfl
  have hwan : Region.wanted o (yielded ops (actOf ops.toList es a0 (valsOf ops a) k).tmps) = Region.wanted o (yielded ops a.tmps) := by
    unfold Region.wanted
    cases hg : o.guard with
    | none => rfl
    | some gw =>
      obtain ⟨g, want⟩ := gw
      have hy : yielded ops (actOf ops.toList es a0 (valsOf ops a) k).tmps g = yielded ops a.tmps g := by
        unfold yielded
        cases ht : (ops[g]?).bind (·.dst) with
        | none => rfl
        | some t =>
          have := hslot t (List.mem_append_right _ (by simp [hg, ht]))
          simp only [Option.bind_some, this]
      simp only [hy]
  obtain ⟨d, hd, hdm⟩ := ok.dst k o ho
  have next : ∀ v w', e.holds v w' → Below w.heap.size w w' → K (a.put o.dst v) w' := fun v w' hv hb => by
    refine hK _ _ ?_
    have hset : ∀ j, (listed.setIfInBounds k true).getD j true = true → j ≠ k → listed.getD j true = true := fun j h hne => by
      rwa [getD_set_ne true (Ne.symm hne)] at h
    have hput : ∀ t, t ≠ d → (a.put o.dst v).tmps[t]? = a.tmps[t]? := fun t hne => by
      rw [hd]; simp [Act.put, Array.getElem?_setIfInBounds_ne (Ne.symm hne)]
    refine ⟨by simp [I.lsize], fun i p hp hl j hj => ?_, by rw [hd]; simp [Act.put, I.size], by rw [hd]; exact I.defers, fun t ht => ?_, fun j p e' t hp he' hl hpt => ?_, I.later.trans (hb.mono I.later.size)⟩
    · by_cases hik : i = k
      · subst hik
        rw [ho] at hp; cases hp
        have := hw j hj
        by_cases hjk : j = i
        · subst hjk; simp
        · rw [getD_set_ne true (Ne.symm hjk)]; exact this
      · have := I.closed i p hp (hset i hl hik) j hj
        by_cases hjk : j = k
        · rw [hjk]; rw [hjk, hun] at this; cases this
        · rw [getD_set_ne true (Ne.symm hjk)]; exact this
    · have hne : t ≠ d := fun e => ht k o ho (by simp [I.lsize, hk]) (by rw [hd, e])
      rw [hput t hne]
      refine I.old t fun j p hp hl => ht j p hp ?_
      by_cases hjk : j = k
      · rw [hjk]; simp [I.lsize, hk]
      · rw [getD_set_ne true (Ne.symm hjk)]; exact hl
    · by_cases hjk : j = k
      · subst hjk
        rw [ho] at hp; cases hp
        rw [he] at he'; cases he'
        rw [hd] at hpt; cases hpt
        have : (a.put o.dst v).tmps.getD d undef = v := by
          have : d < a.tmps.size := by rw [I.size]; exact hdm
          rw [hd]; simp [Act.put, this]
        rw [this]; exact hv
      · have hne : t ≠ d := fun e => ok.one k j o p ho hp hjk (by rw [hpt, hd, e])
        have hsame : (a.put o.dst v).tmps.getD t undef = a.tmps.getD t undef := by
          simp only [Array.getD_eq_getD_getElem?, hput t hne]
        rw [hsame]
        obtain ⟨hsj, _⟩ := hst j p e' hp he'
        exact hsj _ _ _ (I.new j p e' t hp he' (hset j hl hjk) hpt) hb
  unfold stepRel at hs
  rw [hwan] at hs
  unfold wpOp
  simp only [ho]
  split
  · rename_i hwd
    simp only [hwd, if_true] at hs
    refine .inl (wp_of_relOp (R := fun v w' => e.holds v w' ∧ Below w.heap.size w w') ?_ fun v w' h => next v w' h.1 h.2)
    unfold relOp at hs ⊢
    rw [← hexe]; exact hs
  · rename_i hwd
    simp only [hwd] at hs
    exact next _ _ hs (Below.refl _ _)
theorem ready_none {ops : Array Oper} {m : Nat} (ok : RelOk ops m) {listed : Array Bool} (hl : listed.size = ops.size) (h : Region.ready .any ops listed = []) : ∀ k, k < ops.size → listed.getD k true = true := by
  intro k
  induction k using Nat.strongRecOn with
  | _ k ih =>
    intro hk
    cases hb : listed.getD k true with
    | true => rfl
    | false =>
      exfalso
      have : k ∈ Region.ready .any ops listed := mem_ready.2 ⟨hb, ops[k], Array.getElem?_eq_getElem hk, fun e he hbd => by
        have hj : e.on ∈ waits ops[k] := List.mem_map.2 ⟨e, List.mem_filter.2 ⟨by simpa using he, hbd⟩, rfl⟩
        have hlt := ok.early k ops[k] (Array.getElem?_eq_getElem hk) e.on hj
        have := ih e.on hlt (by omega)
        have hs : e.on < listed.size := by omega
        simp [hs] at this ⊢
        exact this⟩
      rw [h] at this; cases this
def left (ops : Array Oper) (listed : Array Bool) : Nat := ((List.range ops.size).filter fun j => !listed.getD j true).length
theorem left_step {ops : Array Oper} {listed : Array Bool} {k : Nat} (hk : k < ops.size) (hl : listed.size = ops.size) (hun : listed.getD k true = false) : left ops (listed.setIfInBounds k true) < left ops listed := by
  unfold left
  have e : ((List.range ops.size).filter fun j => !(listed.setIfInBounds k true).getD j true) = ((List.range ops.size).filter fun j => !listed.getD j true).filter fun j => j != k := by
    rw [List.filter_filter]
    refine List.filter_congr fun j _ => ?_
    by_cases hjk : j = k
    · subst hjk; simp [hl, hk]
    · rw [getD_set_ne true (Ne.symm hjk)]; simp [hjk]
  rw [e, List.length_filter_lt_length_iff_exists]
  exact ⟨k, List.mem_filter.2 ⟨List.mem_range.2 hk, by simp [hun]⟩, by simp⟩
theorem wpAny_rel {P : Program} {ops : Array Oper} {m : Nat} {es : List Ent} {a0 : Act} {W : World} (ok : RelOk ops m) (hm : a0.tmps.size = m) (hes : es.length = ops.size)
    (hst : ∀ (k : Nat) (o : Oper) (e : Ent), ops[k]? = some o → es[k]? = some e → e.stable ∧ ∀ (x : Nat → Value) (n : Later W), Facts (es.take k) o x n.w → stepRel P ops o e (actOf ops.toList es a0 x k) n.w)
    {Q : Exit → Act → World → Prop} (hQ : ∀ (x : Nat → Value) (n : Later W), (∀ (j : Nat) (e : Ent), es[j]? = some e → e.holds (x j) n.w) → Q .normal (actOf ops.toList es a0 x es.length) n.w) :
    ∀ (fuel : Nat) (listed : Array Bool) (a : Act) (w : World), RelInv ops m es a0 W listed a w → left ops listed ≤ fuel → wpAny P .any ops Q fuel listed a w := by
  have done : ∀ (listed : Array Bool) (a : Act) (w : World), RelInv ops m es a0 W listed a w → Region.ready .any ops listed = [] → Q .normal a w := fun listed a w I h => by
    have hall := ready_none ok I.lsize h
    have hf := hQ (valsOf ops a) ⟨w, I.later⟩ (fun j e he => by
      have hj : j < ops.size := by have := (List.getElem?_eq_some_iff.1 he).1; omega
      exact I.facts ok (Array.getElem?_eq_getElem hj) he (hall j hj))
    have ea : actOf ops.toList es a0 (valsOf ops a) es.length = a := by
      obtain ⟨h1, h2, h3, h4⟩ := actOf_tmps ok es a0 hm (valsOf ops a) es.length (Nat.le_refl _) (by omega)
      have et : (actOf ops.toList es a0 (valsOf ops a) es.length).tmps = a.tmps := by
        apply Array.ext_getElem?
        intro t
        by_cases hwr : ∃ (j : Nat) (p : Oper), ops[j]? = some p ∧ p.dst = some t
        · obtain ⟨j, p, hp, hpt⟩ := hwr
          have hj : j < ops.size := (Array.getElem?_eq_some_iff.1 hp).1
          obtain ⟨e, he⟩ : ∃ e, es[j]? = some e := ⟨es[j]'(by omega), List.getElem?_eq_getElem (by omega)⟩
          rw [h4 j p e t (by omega) hp he hpt]
          have hh := I.new j p e t hp he (hall j hj) hpt
          have hv : valsOf ops a j = a.tmps.getD t undef := by simp [valsOf, hp, hpt]
          rw [hv, Ent.val_of hh]
          obtain ⟨d, hd, hdm⟩ := ok.dst j p hp
          rw [hpt] at hd; cases hd
          have : t < a.tmps.size := by rw [I.size]; exact hdm
          simp [this]
        · rw [h3 t fun j p _ hp hpt => hwr ⟨j, p, hp, hpt⟩]
          exact (I.old t fun j p hp _ hpt => hwr ⟨j, p, hp, hpt⟩).symm
      have ed : (actOf ops.toList es a0 (valsOf ops a) es.length).defers = a.defers := by rw [h2, I.defers]
      cases a
      generalize actOf ops.toList es a0 _ es.length = A at *
      cases A
      simp only [Act.mk.injEq]
      exact ⟨et, ed⟩
    rw [ea] at hf
    exact hf
  intro fuel
  induction fuel with
  | zero =>
    intro listed a w I hle
    have hr : Region.ready .any ops listed = [] := by
      rw [List.eq_nil_iff_forall_not_mem]
      intro k hk
      obtain ⟨hun, o, ho, _⟩ := mem_ready.1 hk
      have := left_step (Array.getElem?_eq_some_iff.1 ho).1 I.lsize hun
      omega
    exact ⟨hr, done listed a w I hr⟩
  | succ fuel ih =>
    intro listed a w I hle
    refine ⟨done listed a w I, fun k hk => ?_⟩
    obtain ⟨hun, o, ho, _⟩ := mem_ready.1 hk
    have := left_step (Array.getElem?_eq_some_iff.1 ho).1 I.lsize hun
    exact I.step ok hm hes hst hk fun a' w' I' => ih _ a' w' I' (by omega)
/-- **ONE WALK OF THE LEXICAL ORDER SERVES EVERY ORDER.** -/
theorem wp_region_rel {P : Program} {id : Nat} {Q : Exit → Act → World → Prop} {a : Act} {W : World} {l : List Oper} (hm : P.follows .mixedOrders = true) (hB : relB l.toArray a.tmps.size = true)
    (h : wpRel P l.toArray W (fun a' w' => Q .normal a' w') l [] (fun _ => a)) : (Code.region id l.toArray true).wp P Q a W := by
  obtain ⟨es, hl, _, hob, hend⟩ := wpRel_out (P := P) (ops := l.toArray) (W := W) (a0 := a) l [] (fun _ => a) (fun j => by simp) (fun _ => rfl) h
  have hes : es.length = l.toArray.size := by simpa using hl
  have ok := RelOk.of hB
  refine wp_region_any hm (wpAny_rel ok rfl hes (fun k o e ho he => hob k o e (Nat.zero_le _) (by rw [Array.getElem?_toList]; exact ho) he) hend _ _ _ _ ?_ ?_)
  · have hno : ∀ j, j < l.toArray.size → (Array.replicate l.toArray.size false).getD j true = false := fun j hj => by simp at hj; simp [hj]
    have hno2 : ∀ (j : Nat) (o : Oper), l.toArray[j]? = some o → (Array.replicate l.toArray.size false).getD j true = true → False := fun j o ho h => by
      rw [hno j (Array.getElem?_eq_some_iff.1 ho).1] at h; cases h
    exact ⟨by simp, fun i p hp h => (hno2 i p hp h).elim, rfl, rfl, fun _ _ => rfl, fun j o e t ho _ h _ => (hno2 j o ho h).elim, (Below.refl _ _).drew⟩
  · unfold left
    exact Nat.le_trans (List.length_filter_le _ _) (by simp)
/-- THE WALK, with the relations alone in the list (k: the place of the next operation). -/
def wpR (P : Program) (ops : Array Oper) (W : World) (Q : Act → World → Prop) : List Oper → Nat → List (Nat × (Value → World → Prop)) → ((Nat → Value) → Act) → Prop
  | [], _, env, A => ∀ (x : Nat → Value) (n : Later W), (∀ p ∈ env, p.2 (x p.1) n.w) → Q (A x) n.w
  | o :: rest, k, env, A =>
    (∃ c, (∀ (x : Nat → Value) (n : Later W), (∀ p ∈ env, p.1 ∈ waits o → p.2 (x p.1) n.w) → stepRel P ops o (.pure c) (A x) n.w) ∧ wpR P ops W Q rest (k + 1) env (fun x => (A x).put o.dst c)) ∨
    (∃ S : Value → World → Prop, (∀ v w w', S v w → Below w.heap.size w w' → S v w') ∧
      (∀ (x : Nat → Value) (n : Later W), (∀ p ∈ env, p.1 ∈ waits o → p.2 (x p.1) n.w) → stepRel P ops o (.rel S) (A x) n.w) ∧ wpR P ops W Q rest (k + 1) ((k, S) :: env) (fun x => (A x).put o.dst (x k)))
theorem wpRel_of {P : Program} {ops : Array Oper} {W : World} {Q : Act → World → Prop} : ∀ (l : List Oper) (k : Nat) (env : List (Nat × (Value → World → Prop))) (A : (Nat → Value) → Act) (es : List Ent),
    es.length = k → (∀ p ∈ env, es[p.1]? = some (.rel p.2)) → wpR P ops W Q l k env A → wpRel P ops W Q l es A
  | [], _, env, A, es, hl, he, h => fun x n hx => h x n fun p hp => hx p.1 _ (he p hp)
  | o :: rest, k, env, A, es, hl, he, h => by
    have lt : ∀ p ∈ env, p.1 < es.length := fun p hp => (List.getElem?_eq_some_iff.1 (he p hp)).1
    rcases h with ⟨c, hc, hr⟩ | ⟨S, hS, hc, hr⟩
    · refine ⟨.pure c, fun _ _ _ h _ => h, fun x n hf => hc x n fun p hp hw => hf p.1 hw _ (he p hp), ?_⟩
      exact wpRel_of rest (k + 1) env _ (es ++ [.pure c]) (by simp [hl]) (fun p hp => by rw [List.getElem?_append_left (lt p hp)]; exact he p hp) hr
    · subst hl
      refine ⟨.rel S, hS, fun x n hf => hc x n fun p hp hw => hf p.1 hw _ (he p hp), ?_⟩
      refine wpRel_of rest (es.length + 1) ((es.length, S) :: env) _ (es ++ [.rel S]) (by simp) (fun p hp => ?_) hr
      rcases List.mem_cons.1 hp with rfl | hp
      · simp
      · rw [List.getElem?_append_left (lt p hp)]; exact he p hp
theorem wp_region_r {P : Program} {id : Nat} {Q : Exit → Act → World → Prop} {a : Act} {W : World} {l : List Oper} (hm : P.follows .mixedOrders = true) (hB : relB l.toArray a.tmps.size = true)
    (h : wpR P l.toArray W (fun a' w' => Q .normal a' w') l 0 [] (fun _ => a)) : (Code.region id l.toArray true).wp P Q a W :=
  wp_region_rel hm hB (wpRel_of l 0 [] _ [] rfl (fun _ h => by cases h) h)
section
variable {P : Program} {ops : Array Oper} {W : World} {Q : Act → World → Prop} {o : Oper} {rest : List Oper} {k : Nat} {env : List (Nat × (Value → World → Prop))} {A : (Nat → Value) → Act}
theorem stepRel_quiet {c : Value} {a : Act} {w : World} (h : if Region.wanted o (yielded ops a.tmps) then o.quietAt P a (fun w' => Below w.heap.size w w') w c else c = undef) : stepRel P ops o (.pure c) a w := by
  unfold stepRel
  split
  · rename_i hw
    rw [if_pos hw] at h
    unfold Oper.quietAt at h
    unfold relOp
    generalize (execOp a.eval o).run P w = r at *
    cases r with
    | ok n w' =>
      cases n <;> simp only [Oper.quietUpon] at h <;> simp only [relUpon]
      case value u => obtain ⟨rfl, rfl⟩ := h; exact ⟨rfl, Below.refl _ _⟩
      case skip => obtain ⟨rfl, rfl⟩ := h; exact ⟨rfl, Below.refl _ _⟩
      case enter f args => obtain ⟨rfl, h⟩ := h; exact h.mono fun e w'' ⟨he, hb⟩ => ⟨c, he, rfl, hb⟩
    | halt x w' => simp only [Oper.quietUpon] at h
  · rename_i hw
    rw [if_neg hw] at h
    exact h.symm
/-- One operation that needs nothing of what was made. -/
theorem wpR_pure (h : ∀ K : ((Nat → Value) → Act) → Prop, (∀ A', wpR P ops W Q rest (k + 1) env A' → K A') →
      ∃ c, (∀ (x : Nat → Value) (n : Later W), if Region.wanted o (yielded ops (A x).tmps) then o.quietAt P (A x) (fun w' => Below n.w.heap.size n.w w') n.w c else c = undef) ∧ K (fun x => (A x).put o.dst c)) :
    wpR P ops W Q (o :: rest) k env A := by
  obtain ⟨c, h1, h2⟩ := h (fun A' => wpR P ops W Q rest (k + 1) env A') (fun _ h => h)
  exact .inl ⟨c, fun x n _ => stepRel_quiet (h1 x n), h2⟩
/-- One operation that looks at what was made, and whose value is known. -/
theorem wpR_use (c : Value) (h1 : ∀ (x : Nat → Value) (n : Later W), (∀ p ∈ env, p.1 ∈ waits o → p.2 (x p.1) n.w) → if Region.wanted o (yielded ops (A x).tmps) then o.quietAt P (A x) (fun w' => Below n.w.heap.size n.w w') n.w c else c = undef)
    (h2 : ∀ K : ((Nat → Value) → Act) → Prop, (∀ A', wpR P ops W Q rest (k + 1) env A' → K A') → K (fun x => (A x).put o.dst c)) : wpR P ops W Q (o :: rest) k env A :=
  .inl ⟨c, fun x n hf => stepRel_quiet (h1 x n hf), h2 (fun A' => wpR P ops W Q rest (k + 1) env A') (fun _ h => h)⟩
/-- One operation that makes something. -/
theorem wpR_make (S : Value → World → Prop) (hS : ∀ v w w', S v w → Below w.heap.size w w' → S v w')
    (h1 : ∀ (x : Nat → Value) (n : Later W), (∀ p ∈ env, p.1 ∈ waits o → p.2 (x p.1) n.w) → if Region.wanted o (yielded ops (A x).tmps) then relOp P o (A x) n.w (fun v w' => S v w' ∧ Below n.w.heap.size n.w w') else S undef n.w)
    (h2 : ∀ K : ((Nat → Value) → Act) → Prop, (∀ A', wpR P ops W Q rest (k + 1) ((k, S) :: env) A' → K A') → K (fun x => (A x).put o.dst (x k))) : wpR P ops W Q (o :: rest) k env A :=
  .inr ⟨S, hS, fun x n hf => h1 x n hf, h2 (fun A' => wpR P ops W Q rest (k + 1) ((k, S) :: env) A') (fun _ h => h)⟩
/-- What is known of what operation j made, where this one waits for it (i: its place in the list). -/
theorem fact_at {x : Nat → Value} {w : World} (hf : ∀ p ∈ env, p.1 ∈ waits o → p.2 (x p.1) w) (i : Nat) {j : Nat} {S : Value → World → Prop} (hi : env[i]? = some (j, S)) (hw : (waits o).contains j = true) : S (x j) w :=
  hf (j, S) (List.mem_of_getElem? hi) (List.contains_iff_mem.1 hw)
theorem wpR_nil (h : ∀ (x : Nat → Value) (n : Later W), (∀ p ∈ env, p.2 (x p.1) n.w) → Q (A x) n.w) : wpR P ops W Q [] k env A := h
end
end Go.Proofs.Ytnndanpahcdmaaa
