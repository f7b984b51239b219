/- Several texts of this seat in one, in build order. -/
import Derived.Test.YtnndanpahcdmaaaOpn
/-
  PLAIN LEAN, NO RUN OF ANY PROGRAM: nodes by rising numbers; what is done to them, and taken back.
-/
namespace Go.Proofs.Ytnndanpahcdmaaa
/-- A node. -/
structure Nod where
  id : Int
  p : Int
  s : ByteArray
  mc : Int
  mr : Int
  d : ByteArray
  wc : Int
  wr : Int
  deriving DecidableEq
abbrev emptyB : ByteArray := ⟨#[]⟩
def noNod : Nod := ⟨0, 0, emptyB, 0, 0, emptyB, 0, 0⟩
structure Und where
  did : Bool
  had : Bool
  was : Nod
  deriving DecidableEq
def noUnd : Und := ⟨false, false, noNod⟩
/-- Nodes that may be. -/
def MayN (l : List Nod) : Prop := (∀ x ∈ l, isN x.id = true) ∧ l.Pairwise (fun a b => a.id < b.id)
instance (l : List Nod) : Decidable (MayN l) := by unfold MayN; exact inferInstance
def chkN (l : List Nod) : Bool := decide (MayN l)
theorem chkN_iff {l : List Nod} : chkN l = true ↔ MayN l := by simp [chkN]
/-- The node of a number. -/
def getN (l : List Nod) (i : Int) : Option Nod := l.find? fun x => decide (x.id = i)
theorem getN_nil (i : Int) : getN [] i = none := rfl
theorem getN_cons (x : Nod) (l : List Nod) (i : Int) : getN (x :: l) i = if x.id = i then some x else getN l i := by
  unfold getN
  rw [List.find?_cons]
  by_cases h : x.id = i <;> simp [h]
theorem getN_some {l : List Nod} {i : Int} {x : Nod} (h : getN l i = some x) : x ∈ l ∧ x.id = i := by
  unfold getN at h
  exact ⟨List.mem_of_find?_eq_some h, by simpa using List.find?_some h⟩
theorem getN_none {l : List Nod} {i : Int} (h : getN l i = none) : ∀ x ∈ l, x.id ≠ i := by
  unfold getN at h
  rw [List.find?_eq_none] at h
  intro x hx e
  exact h x hx (by simpa using e)
theorem getN_of_mem {l : List Nod} (h : MayN l) {x : Nod} (hx : x ∈ l) : getN l x.id = some x := by
  induction l with
  | nil => cases hx
  | cons y r ih =>
    rw [getN_cons]
    have hp := List.pairwise_cons.1 h.2
    rcases List.mem_cons.1 hx with rfl | hx
    · rw [if_pos rfl]
    · have := hp.1 x hx
      rw [if_neg (by omega)]
      exact ih ⟨fun z hz => h.1 z (by simp [hz]), hp.2⟩ hx
theorem MayN.tail {x : Nod} {l : List Nod} (h : MayN (x :: l)) : MayN l := ⟨fun z hz => h.1 z (by simp [hz]), (List.pairwise_cons.1 h.2).2⟩
/-- Nodes that may be, and tell the same of each number, are the same. -/
theorem nod_ext : ∀ {a b : List Nod}, MayN a → MayN b → (∀ i, getN a i = getN b i) → a = b
  | [], [], _, _, _ => rfl
  | [], y :: b, _, _, h => by have := h y.id; rw [getN_nil, getN_cons, if_pos rfl] at this; cases this
  | x :: a, [], _, _, h => by have := h x.id; rw [getN_nil, getN_cons, if_pos rfl] at this; cases this
  | x :: a, y :: b, ha, hb, h => by
    have pa := List.pairwise_cons.1 ha.2
    have pb := List.pairwise_cons.1 hb.2
    have e : x = y := by
      have h1 := h x.id
      have h2 := h y.id
      rw [getN_cons, if_pos rfl, getN_cons] at h1
      rw [getN_cons, getN_cons, if_pos rfl] at h2
      by_cases e : y.id = x.id
      · rw [if_pos e] at h1; cases h1; rfl
      · rw [if_neg e] at h1
        rw [if_neg (fun e2 => e e2.symm)] at h2
        have m1 := getN_some h1.symm
        have m2 := getN_some h2
        have q1 := pb.1 x m1.1
        have q2 := pa.1 y m2.1
        omega
    subst e
    congr 1
    refine nod_ext ha.tail hb.tail fun i => ?_
    have := h i
    rw [getN_cons, getN_cons] at this
    by_cases e : x.id = i
    · have n1 : getN a i = none := by
        cases hg : getN a i with
        | none => rfl
        | some z => have m := getN_some hg; have := pa.1 z m.1; omega
      have n2 : getN b i = none := by
        cases hg : getN b i with
        | none => rfl
        | some z => have m := getN_some hg; have := pb.1 z m.1; omega
      rw [n1, n2]
    · rwa [if_neg e, if_neg e] at this
def without (l : List Nod) (i : Int) : List Nod := l.filter fun x => decide (x.id ≠ i)
def insN (n : Nod) : List Nod → List Nod
  | [] => [n]
  | x :: r => if x.id < n.id then x :: insN n r else n :: x :: r
def withN (l : List Nod) (n : Nod) : List Nod := insN n (without l n.id)
theorem without_may {l : List Nod} (h : MayN l) (i : Int) : MayN (without l i) :=
  ⟨fun x hx => h.1 x (List.mem_filter.1 hx).1, h.2.sublist List.filter_sublist⟩
theorem getN_without (l : List Nod) (i j : Int) : getN (without l i) j = if j = i then none else getN l j := by
  induction l with
  | nil => simp [without, getN]
  | cons x r ih =>
    unfold without at ih ⊢
    rw [List.filter_cons]
    by_cases h : x.id = i
    · rw [if_neg (by simp [h]), ih, getN_cons]
      by_cases hj : j = i
      · rw [if_pos hj, if_pos hj]
      · rw [if_neg hj, if_neg hj, if_neg (by omega)]
    · rw [if_pos (by simpa using h), getN_cons, ih, getN_cons]
      by_cases hj : j = i
      · rw [if_pos hj, if_pos hj, if_neg (by omega)]
      · rw [if_neg hj, if_neg hj]
theorem insN_mem (n : Nod) : ∀ {l : List Nod} {x : Nod}, x ∈ insN n l ↔ x = n ∨ x ∈ l
  | [], x => by simp [insN]
  | y :: r, x => by
    unfold insN
    split
    · rw [List.mem_cons, insN_mem n, List.mem_cons]
      constructor
      · rintro (h | h | h)
        · exact .inr (.inl h)
        · exact .inl h
        · exact .inr (.inr h)
      · rintro (h | h | h)
        · exact .inr (.inl h)
        · exact .inl h
        · exact .inr (.inr h)
    · simp
theorem insN_may {l : List Nod} {n : Nod} (h : MayN l) (hn : isN n.id = true) (hne : ∀ x ∈ l, x.id ≠ n.id) : MayN (insN n l) := by
  refine ⟨fun x hx => ?_, ?_⟩
  · rcases (insN_mem n).1 hx with rfl | hx
    · exact hn
    · exact h.1 x hx
  · have hp := h.2
    clear h
    induction l with
    | nil => simp [insN]
    | cons y r ih =>
      have p := List.pairwise_cons.1 hp
      unfold insN
      split
      · rename_i hlt
        rw [List.pairwise_cons]
        refine ⟨fun z hz => ?_, ih (fun z hz => hne z (by simp [hz])) p.2⟩
        rcases (insN_mem n).1 hz with rfl | hz
        · exact hlt
        · exact p.1 z hz
      · rename_i hlt
        have := hne y (by simp)
        rw [List.pairwise_cons]
        refine ⟨fun z hz => ?_, hp⟩
        rcases List.mem_cons.1 hz with rfl | hz
        · omega
        · have := p.1 z hz; omega
theorem getN_ins (n : Nod) : ∀ (l : List Nod) (j : Int), (∀ x ∈ l, x.id ≠ n.id) → getN (insN n l) j = if j = n.id then some n else getN l j
  | [], j, _ => by
    unfold insN
    rw [getN_cons]
    by_cases h : j = n.id
    · rw [if_pos h.symm, if_pos h]
    · rw [if_neg (fun e => h e.symm), if_neg h]
  | x :: r, j, hne => by
    have hx := hne x (by simp)
    unfold insN
    split
    · rw [getN_cons, getN_ins n r j (fun z hz => hne z (by simp [hz])), getN_cons]
      by_cases h : j = n.id
      · rw [if_pos h, if_neg (by omega), if_pos h]
      · rw [if_neg h, if_neg h]
    · rw [getN_cons]
      by_cases h : j = n.id
      · rw [if_pos h.symm, if_pos h]
      · rw [if_neg (fun e => h e.symm), if_neg h]
theorem without_ne (l : List Nod) (i : Int) : ∀ x ∈ without l i, x.id ≠ i := fun x hx => by
  have := (List.mem_filter.1 hx).2
  simpa using this
theorem withN_may {l : List Nod} {n : Nod} (h : MayN l) (hn : isN n.id = true) : MayN (withN l n) := insN_may (without_may h _) hn (without_ne l _)
theorem getN_with (l : List Nod) (n : Nod) (j : Int) : getN (withN l n) j = if j = n.id then some n else getN l j := by
  unfold withN
  rw [getN_ins n _ j (without_ne l _), getN_without]
  by_cases h : j = n.id
  · rw [if_pos h, if_pos h]
  · rw [if_neg h, if_neg h, if_neg h]
/-- What is above a number, so many at most. -/
def upN (l : List Nod) : Nat → Int → List Int
  | 0, _ => []
  | k + 1, i => match getN l i with
    | none => []
    | some x => if x.p = -1 then [] else x.p :: upN l k x.p
def aboveN (l : List Nod) (i : Int) : List Int := if chkN l then upN l l.length i else []
def loopsN (l : List Nod) (o : Opn) : Bool := (aboveN l o.p).contains o.n || decide (o.p = o.n)
def findN (l : List Nod) (i : Int) : Option Nod := if chkN l then getN l i else none
/-- The node that an operation changes, as it was; one that was not there is nowhere. -/
def oldN (l : List Nod) (i : Int) : Nod := (getN l i).getD ⟨i, -1, emptyB, 0, 0, emptyB, 0, 0⟩
def undN (l : List Nod) (i : Int) : Und := ⟨true, (getN l i).isSome, (getN l i).getD noNod⟩
def wroteN (l : List Nod) (o : Opn) : Nod := { oldN l o.n with d := o.d, wc := o.c, wr := o.r }
def movedN (l : List Nod) (o : Opn) : Nod := { oldN l o.n with p := o.p, s := o.s, mc := o.c, mr := o.r }
def doN (l : List Nod) (o : Opn) : List Nod × Und :=
  if chkN l && mayO o then
    if o.k = 2 then (withN l (wroteN l o), undN l o.n)
    else if loopsN l o then (l, noUnd) else (withN l (movedN l o), undN l o.n)
  else (l, noUnd)
def backN (l : List Nod) (o : Opn) (u : Und) : List Nod :=
  if chkN l && u.did then
    if u.had && (decide (u.was.id = o.n) && isN o.n) then withN l u.was else without l o.n
  else l
theorem oldN_id (l : List Nod) (i : Int) : (oldN l i).id = i := by
  unfold oldN
  cases h : getN l i with
  | none => rfl
  | some x => exact (getN_some h).2
/-- What is done: nothing; or one node has come, or is another one. -/
theorem doN_cases (l : List Nod) (o : Opn) : doN l o = (l, noUnd) ∨
    (MayN l ∧ mayO o = true ∧ ∃ n : Nod, n.id = o.n ∧ isN o.n = true ∧ doN l o = (withN l n, undN l o.n) ∧ ((o.k = 2 ∧ n = wroteN l o) ∨ (o.k = 1 ∧ loopsN l o = false ∧ n = movedN l o))) := by
  unfold doN
  by_cases h : chkN l && mayO o
  · rw [if_pos h]
    rw [Bool.and_eq_true] at h
    have hm := mayO_parts h.2
    have hn : isN o.n = true := decide_eq_true hm.2.1
    by_cases h2 : o.k = 2
    · rw [if_pos h2]
      exact .inr ⟨chkN_iff.1 h.1, h.2, wroteN l o, oldN_id _ _, hn, rfl, .inl ⟨h2, rfl⟩⟩
    · rw [if_neg h2]
      by_cases h3 : loopsN l o
      · rw [if_pos h3]; exact .inl rfl
      · rw [if_neg h3]
        have h1 : o.k = 1 := by
          rcases hm.2.2 with h4 | h4
          · exact h4.1
          · exact absurd h4.1 h2
        exact .inr ⟨chkN_iff.1 h.1, h.2, movedN l o, oldN_id _ _, hn, rfl, .inr ⟨h1, by simpa using h3, rfl⟩⟩
  · rw [if_neg h]; exact .inl rfl
theorem doN_chk (l : List Nod) (o : Opn) : chkN (doN l o).1 = chkN l := by
  rcases doN_cases l o with h | ⟨hl, _, n, hi, hn, h, _⟩
  · rw [h]
  · rw [h]
    have h1 : chkN l = true := chkN_iff.2 hl
    rw [h1]
    exact chkN_iff.2 (withN_may hl (by rw [hi]; exact hn))
theorem doN_may {l : List Nod} (h : MayN l) (o : Opn) : MayN (doN l o).1 := by
  have := doN_chk l o
  rw [chkN_iff.2 h] at this
  exact chkN_iff.1 this
/-- What is done is taken back. -/
theorem back_do (l : List Nod) (o : Opn) : backN (doN l o).1 o (doN l o).2 = l := by
  rcases doN_cases l o with h | ⟨hl, _, n, hi, hn, h, _⟩
  · rw [h]
    unfold backN noUnd
    simp
  · rw [h]
    have hm : MayN (withN l n) := withN_may hl (by rw [hi]; exact hn)
    unfold backN undN
    simp only [chkN_iff.2 hm, Bool.and_true, if_true]
    cases hg : getN l o.n with
    | none =>
      simp only [Option.isSome_none, Bool.false_and, Bool.false_eq_true, if_false]
      refine nod_ext (without_may hm _) hl fun i => ?_
      rw [getN_without, getN_with]
      by_cases e : i = o.n
      · rw [if_pos e, e, hg]
      · rw [if_neg e, if_neg (by omega)]
    | some x =>
      have hx := (getN_some hg).2
      simp only [Option.isSome_some, Bool.true_and, Option.getD_some, hx, decide_true, hn, if_true]
      refine nod_ext (withN_may hm (by rw [hx]; exact hn)) hl fun i => ?_
      rw [getN_with, getN_with]
      by_cases e : i = o.n
      · rw [if_pos (by omega), e, hg]
      · rw [if_neg (by omega), if_neg (by omega)]
theorem do_none {l : List Nod} {o : Opn} (h : (doN l o).2.did = false) : doN l o = (l, noUnd) := by
  rcases doN_cases l o with h1 | ⟨_, _, n, _, _, h1, _⟩
  · exact h1
  · rw [h1] at h; cases h
end Go.Proofs.Ytnndanpahcdmaaa
/-
  PLAIN LEAN, NO RUN OF ANY PROGRAM: what is above nodes ends; no node is above itself, whatever is done.
-/
namespace Go.Proofs.Ytnndanpahcdmaaa
/-- Where a number leads to. -/
def parN (l : List Nod) (i : Int) : Option Int := match getN l i with
  | none => none
  | some x => if x.p = -1 then none else some x.p
theorem upN_succ (l : List Nod) (k : Nat) (i : Int) : upN l (k + 1) i = match parN l i with | none => [] | some q => q :: upN l k q := by
  have e : upN l (k + 1) i = match getN l i with | none => [] | some x => if x.p = -1 then [] else x.p :: upN l k x.p := rfl
  rw [e]
  unfold parN
  cases h : getN l i with
  | none => rfl
  | some x =>
    by_cases hp : x.p = -1
    · simp [hp]
    · simp [hp]
/-- So many steps up, then no more. -/
def Deep (f : Int → Option Int) : Nat → Int → Prop
  | 0, i => f i = none
  | n + 1, i => ∃ q, f i = some q ∧ Deep f n q
def Ends (l : List Nod) : Prop := ∀ i, ∃ n, Deep (parN l) n i
theorem deep_one {f : Int → Option Int} : ∀ {n m : Nat} {i : Int}, Deep f n i → Deep f m i → n = m
  | 0, 0, _, _, _ => rfl
  | 0, m + 1, i, h, ⟨q, h1, _⟩ => by rw [show f i = none from h] at h1; cases h1
  | n + 1, 0, i, ⟨q, h1, _⟩, h => by rw [show f i = none from h] at h1; cases h1
  | n + 1, m + 1, i, ⟨q, h1, h2⟩, ⟨r, h3, h4⟩ => by
    rw [h1] at h3; cases h3
    rw [deep_one h2 h4]
theorem upN_less {l : List Nod} : ∀ {n k : Nat} {i j : Int}, Deep (parN l) n i → j ∈ upN l k i → ∃ m, m < n ∧ Deep (parN l) m j
  | n, 0, i, j, _, h => by simp [upN] at h
  | 0, k + 1, i, j, hd, h => by
    rw [upN_succ, show parN l i = none from hd] at h
    cases h
  | n + 1, k + 1, i, j, ⟨q, h1, h2⟩, h => by
    rw [upN_succ, h1] at h
    rcases List.mem_cons.1 h with rfl | h
    · exact ⟨n, Nat.lt_succ_self _, h2⟩
    · obtain ⟨m, hm, hd⟩ := upN_less h2 h
      exact ⟨m, by omega, hd⟩
/-- None is above itself. -/
theorem not_above {l : List Nod} (h : Ends l) (k : Nat) (i : Int) : i ∉ upN l k i := fun hm => by
  obtain ⟨n, hn⟩ := h i
  obtain ⟨m, hlt, hd⟩ := upN_less hn hm
  have := deep_one hn hd
  omega
theorem upN_deep {l : List Nod} : ∀ {n : Nat} {i : Int}, Deep (parN l) n i → ∀ k, n ≤ k → upN l k i = upN l n i
  | 0, i, h, 0, _ => rfl
  | 0, i, h, k + 1, _ => by rw [upN_succ, show parN l i = none from h]; rfl
  | n + 1, i, ⟨q, h1, h2⟩, 0, hk => by omega
  | n + 1, i, ⟨q, h1, h2⟩, k + 1, hk => by
    rw [upN_succ, upN_succ, h1]
    exact congrArg _ (upN_deep h2 k (by omega))
theorem parN_without (l : List Nod) (i j : Int) (h : j ≠ i) : parN (without l i) j = parN l j := by
  unfold parN
  rw [getN_without, if_neg h]
theorem deep_without {l : List Nod} {n : Nat} {i : Int} (hi : Deep (parN l) (n + 1) i) : ∀ {m : Nat} {j : Int}, m ≤ n → Deep (parN l) m j → Deep (parN (without l i)) m j
  | 0, j, hm, h => by
    have hne : j ≠ i := fun e => by subst e; have := deep_one h hi; omega
    show parN _ j = none
    rw [parN_without _ _ _ hne]; exact h
  | m + 1, j, hm, hj => by
    have hne : j ≠ i := fun e => by subst e; have := deep_one hj hi; omega
    obtain ⟨q, h1, h2⟩ := hj
    exact ⟨q, by rw [parN_without _ _ _ hne]; exact h1, deep_without hi (by omega) h2⟩
/-- No way up is longer than there are nodes. -/
theorem deep_len : ∀ {n : Nat} {l : List Nod} {i : Int}, Deep (parN l) n i → n ≤ l.length
  | 0, _, _, _ => Nat.zero_le _
  | n + 1, l, i, h => by
    have h0 := h
    obtain ⟨q, h1, h2⟩ := h
    have h3 := deep_len (deep_without h0 (Nat.le_refl n) h2)
    have hx : ∃ x ∈ l, x.id = i := by
      unfold parN at h1
      cases hg : getN l i with
      | none => rw [hg] at h1; cases h1
      | some x => exact ⟨x, (getN_some hg).1, (getN_some hg).2⟩
    have h4 : (without l i).length < l.length := by
      unfold without
      rw [List.length_filter_lt_length_iff_exists]
      obtain ⟨x, hx1, hx2⟩ := hx
      exact ⟨x, hx1, by simp [hx2]⟩
    omega
theorem above_deep {l : List Nod} (hl : MayN l) {n : Nat} {i : Int} (h : Deep (parN l) n i) : aboveN l i = upN l n i := by
  unfold aboveN
  rw [if_pos (chkN_iff.2 hl)]
  exact upN_deep h _ (deep_len h)
/-- The last one that is above leads nowhere. -/
theorem last_up {l : List Nod} : ∀ {n : Nat} {i : Int}, Deep (parN l) (n + 1) i → ∃ z, (upN l (n + 1) i).getLast? = some z ∧ parN l z = none ∧ (upN l (n + 1) i).length = n + 1
  | 0, i, ⟨q, h1, h2⟩ => ⟨q, by rw [upN_succ, h1]; rfl, h2, by rw [upN_succ, h1]; rfl⟩
  | n + 1, i, ⟨q, h1, h2⟩ => by
    obtain ⟨z, hz, hp, hl⟩ := last_up h2
    refine ⟨z, ?_, hp, ?_⟩
    · rw [upN_succ, h1]
      show (q :: upN l (n + 1) q).getLast? = some z
      rw [List.getLast?_cons, hz]; rfl
    · rw [upN_succ, h1]
      show (q :: upN l (n + 1) q).length = n + 1 + 1
      rw [List.length_cons, hl]
theorem deep_congr {f g : Int → Option Int} : ∀ {n : Nat} {i : Int}, Deep f n i → (∀ m j, m ≤ n → Deep f m j → g j = f j) → Deep g n i
  | 0, i, h, e => by show g i = none; rw [e 0 i (Nat.le_refl _) h]; exact h
  | n + 1, i, h0, e => by
    have h := h0
    obtain ⟨q, h1, h2⟩ := h
    exact ⟨q, by rw [e _ i (Nat.le_refl _) h0]; exact h1, deep_congr h2 fun m j hm hj => e m j (by omega) hj⟩
theorem parN_with (l : List Nod) (n : Nod) (i : Int) : parN (withN l n) i = if i = n.id then (if n.p = -1 then none else some n.p) else parN l i := by
  unfold parN
  rw [getN_with]
  by_cases h : i = n.id
  · rw [if_pos h, if_pos h]
  · rw [if_neg h, if_neg h]
theorem parN_wrote (l : List Nod) (o : Opn) : parN (withN l (wroteN l o)) = parN l := by
  funext i
  rw [parN_with]
  have hid : (wroteN l o).id = o.n := oldN_id l o.n
  by_cases h : i = o.n
  · rw [if_pos (by rw [hid]; exact h), h]
    unfold wroteN oldN parN
    cases getN l o.n with
    | none => rfl
    | some x => rfl
  · rw [if_neg (by rw [hid]; exact h)]
/-- Where a node was put, the way up is its directory's. -/
theorem moved_deep {l : List Nod} {n : Nod} {p : Int} (hp : n.p = p) (hne : p ≠ -1) {m : Nat} (hd : Deep (parN l) m p) (hno : ∀ k, n.id ∉ upN l k p) (hpn : p ≠ n.id) : Deep (parN (withN l n)) m p ∧ Deep (parN (withN l n)) (m + 1) n.id ∧ ∀ k, upN (withN l n) k p = upN l k p := by
  have key : ∀ {k : Nat} {j : Int}, Deep (parN l) k j → (∀ q, n.id ∉ upN l q j) → j ≠ n.id → Deep (parN (withN l n)) k j ∧ ∀ q, upN (withN l n) q j = upN l q j := by
    intro k
    induction k with
    | zero =>
      intro j h h1 h2
      have e : parN (withN l n) j = none := by rw [parN_with, if_neg h2]; exact h
      refine ⟨e, fun q => ?_⟩
      cases q with
      | zero => rfl
      | succ q => rw [upN_succ, upN_succ, e, show parN l j = none from h]
    | succ k ih =>
      intro j h h1 h2
      obtain ⟨r, h3, h4⟩ := h
      have hr : ∀ q, n.id ∉ upN l q r := fun q hq => h1 (q + 1) (by rw [upN_succ, h3]; exact List.mem_cons_of_mem _ hq)
      have hrn : r ≠ n.id := fun e => h1 1 (by rw [upN_succ, h3]; exact List.mem_cons.2 (.inl e.symm))
      obtain ⟨i1, i2⟩ := ih h4 hr hrn
      have e : parN (withN l n) j = some r := by rw [parN_with, if_neg h2]; exact h3
      refine ⟨⟨r, e, i1⟩, fun q => ?_⟩
      cases q with
      | zero => rfl
      | succ q =>
        rw [upN_succ, upN_succ, e, h3]
        exact congrArg _ (i2 q)
  obtain ⟨k1, k2⟩ := key hd hno hpn
  refine ⟨k1, ⟨p, ?_, k1⟩, k2⟩
  rw [parN_with, if_pos rfl, hp, if_neg hne]
theorem moved_ends {l : List Nod} {n : Nod} {p : Int} (he : Ends l) (hp : n.p = p) (hne : p ≠ -1) (hno : ∀ k, n.id ∉ upN l k p) (hpn : p ≠ n.id) : Ends (withN l n) := by
  obtain ⟨m, hm⟩ := he p
  obtain ⟨_, h2, _⟩ := moved_deep hp hne hm hno hpn
  have key : ∀ (k : Nat) (i : Int), Deep (parN l) k i → ∃ q, Deep (parN (withN l n)) q i := by
    intro k
    induction k with
    | zero =>
      intro i h
      by_cases e : i = n.id
      · exact ⟨_, by rw [e]; exact h2⟩
      · exact ⟨0, by show parN _ i = none; rw [parN_with, if_neg e]; exact h⟩
    | succ k ih =>
      intro i h
      by_cases e : i = n.id
      · exact ⟨_, by rw [e]; exact h2⟩
      · obtain ⟨q, h3, h4⟩ := h
        obtain ⟨r, hr⟩ := ih q h4
        exact ⟨r + 1, q, by rw [parN_with, if_neg e]; exact h3, hr⟩
  intro i
  obtain ⟨k, hk⟩ := he i
  exact key k i hk
/-- What loops is told by what is above. -/
theorem loops_no {l : List Nod} (hl : MayN l) (he : Ends l) {o : Opn} (h : loopsN l o = false) : o.p ≠ o.n ∧ ∀ k, o.n ∉ upN l k o.p := by
  unfold loopsN at h
  rw [Bool.or_eq_false_iff] at h
  obtain ⟨h1, h2⟩ := h
  refine ⟨of_decide_eq_false h2, fun k hk => ?_⟩
  obtain ⟨m, hm⟩ := he o.p
  have h3 : o.n ∉ aboveN l o.p := by
    intro h4
    rw [List.contains_eq_mem] at h1
    simp [h4] at h1
  rw [above_deep hl hm] at h3
  by_cases hmk : m ≤ k
  · rw [upN_deep hm k hmk] at hk; exact h3 hk
  · -- a beginning of the way
    have mono : ∀ {a : Nat} {i : Int} {b : Nat}, a ≤ b → o.n ∈ upN l a i → o.n ∈ upN l b i := by
      intro a
      induction a with
      | zero => intro i b _ h; simp [upN] at h
      | succ a ih =>
        intro i b hb h
        cases b with
        | zero => omega
        | succ b =>
          rw [upN_succ] at h ⊢
          cases hp : parN l i with
          | none => rw [hp] at h; cases h
          | some q =>
            rw [hp] at h
            rcases List.mem_cons.1 h with h | h
            · exact List.mem_cons.2 (.inl h)
            · exact List.mem_cons.2 (.inr (ih (by omega) h))
    exact h3 (mono (by omega) hk)
theorem moved_p {o : Opn} (h : mayO o = true) (hk : o.k = 1) : o.p ≠ -1 ∧ dirB o.p = true := by
  obtain ⟨_, _, h3⟩ := mayO_parts h
  rcases h3 with ⟨_, h4, _⟩ | ⟨h4, _⟩
  · refine ⟨by omega, ?_⟩
    unfold mayO at h
    rw [Bool.and_eq_true] at h
    have h5 := h.2
    rw [if_pos hk] at h5
    unfold moveB at h5
    rw [Bool.and_eq_true] at h5
    exact h5.1
  · omega
/-- Parents are directories, or nowhere. -/
def Dirs (l : List Nod) : Prop := ∀ x ∈ l, x.p = -1 ∨ dirB x.p = true
def Tree (l : List Nod) : Prop := MayN l ∧ Ends l ∧ Dirs l
theorem tree_nil : Tree [] := ⟨⟨fun _ h => (by cases h), List.Pairwise.nil⟩, fun i => ⟨0, rfl⟩, fun _ h => (by cases h)⟩
theorem mem_with {l : List Nod} {n x : Nod} (h : x ∈ withN l n) : x = n ∨ x ∈ l := by
  rcases (insN_mem n).1 h with h | h
  · exact .inl h
  · exact .inr (List.mem_filter.1 h).1
theorem tree_do {l : List Nod} (h : Tree l) (o : Opn) : Tree (doN l o).1 := by
  obtain ⟨hl, he, hd⟩ := h
  refine ⟨doN_may hl o, ?_⟩
  rcases doN_cases l o with h1 | ⟨_, hm, n, hi, hn, h1, h2⟩
  · rw [h1]; exact ⟨he, hd⟩
  · rw [h1]
    rcases h2 with ⟨hk, rfl⟩ | ⟨hk, hlo, rfl⟩
    · refine ⟨?_, fun x hx => ?_⟩
      · show Ends (withN l (wroteN l o))
        unfold Ends
        rw [parN_wrote]; exact he
      · rcases mem_with hx with rfl | hx
        · unfold wroteN oldN
          cases hg : getN l o.n with
          | none => exact .inl rfl
          | some y => exact hd y (getN_some hg).1
        · exact hd x hx
    · obtain ⟨h3, h4⟩ := moved_p hm hk
      obtain ⟨h5, h6⟩ := loops_no hl he hlo
      have hid : (movedN l o).id = o.n := oldN_id l o.n
      refine ⟨moved_ends (n := movedN l o) (p := o.p) he rfl h3 (fun k => by rw [hid]; exact h6 k) (by rw [hid]; exact h5), fun x hx => ?_⟩
      rcases mem_with hx with rfl | hx
      · exact .inr h4
      · exact hd x hx
/-- TreeUp. -/
theorem up_do {l : List Nod} (h : Tree l) {o : Opn} (hk : o.k ≠ 2) (hd : (doN l o).2.did = true) :
    aboveN (doN l o).1 o.n = o.p :: aboveN l o.p ∧ aboveN (doN l o).1 o.p = aboveN l o.p := by
  obtain ⟨hl, he, _⟩ := h
  rcases doN_cases l o with h1 | ⟨_, hm, n, hi, hn, h1, h2⟩
  · rw [h1] at hd; cases hd
  · rw [h1]
    rcases h2 with ⟨hk2, _⟩ | ⟨hk1, hlo, rfl⟩
    · exact absurd hk2 hk
    · obtain ⟨h3, h4⟩ := moved_p hm hk1
      obtain ⟨h5, h6⟩ := loops_no hl he hlo
      have hid : (movedN l o).id = o.n := oldN_id l o.n
      obtain ⟨m, hm2⟩ := he o.p
      obtain ⟨d1, d2, d3⟩ := moved_deep (n := movedN l o) (p := o.p) rfl h3 hm2 (fun k => by rw [hid]; exact h6 k) (by rw [hid]; exact h5)
      rw [hid] at d2
      have hw : MayN (withN l (movedN l o)) := withN_may hl (by rw [hid]; exact hn)
      have e2 : aboveN (withN l (movedN l o)) o.p = aboveN l o.p := by rw [above_deep hw d1, above_deep hl hm2, d3]
      refine ⟨?_, e2⟩
      rw [above_deep hw d2, upN_succ]
      have hp : parN (withN l (movedN l o)) o.n = some o.p := by
        rw [parN_with, if_pos hid.symm]
        show (if o.p = -1 then none else some o.p) = some o.p
        rw [if_neg h3]
      rw [hp, above_deep hl hm2]
      exact congrArg _ (d3 m)
/-- TreeForest: what is above a node of a tree. -/
theorem forest {l : List Nod} (h : Tree l) {x : Nod} (hx : x ∈ l) : x.id ∉ aboveN l x.id ∧ (aboveN l x.id = [] → x.p = -1) ∧
    ∀ z, (aboveN l x.id).getLast? = some z → (∀ y, getN l z = some y → y.p = -1) ∧ (getN l z = none → dirB z = true) := by
  obtain ⟨hl, he, hd⟩ := h
  obtain ⟨n, hn⟩ := he x.id
  have hg := getN_of_mem hl hx
  rw [above_deep hl hn]
  refine ⟨not_above he n x.id, fun h0 => ?_, fun z hz => ?_⟩
  · cases n with
    | zero =>
      have hp : parN l x.id = none := hn
      unfold parN at hp
      rw [hg] at hp
      by_cases e : x.p = -1
      · exact e
      · simp [e] at hp
    | succ n =>
      obtain ⟨z, hz, _⟩ := last_up hn
      rw [h0] at hz; cases hz
  · cases n with
    | zero => simp [upN] at hz
    | succ n =>
      obtain ⟨z', hz', hp, _⟩ := last_up hn
      rw [hz] at hz'; cases hz'
      refine ⟨fun y hy => ?_, fun hno => ?_⟩
      · unfold parN at hp
        rw [hy] at hp
        by_cases e : y.p = -1
        · exact e
        · simp [e] at hp
      · -- it is some node's parent
        have par : ∀ {k : Nat} {i : Int} {q : Int}, q ∈ upN l k i → ∃ y ∈ l, y.p = q ∧ y.p ≠ -1 := by
          intro k
          induction k with
          | zero => intro i q h; simp [upN] at h
          | succ k ih =>
            intro i q h
            unfold upN at h
            cases hgi : getN l i with
            | none => rw [hgi] at h; cases h
            | some y =>
              rw [hgi] at h
              by_cases e : y.p = -1
              · simp [e] at h
              · simp only [e, if_false] at h
                rcases List.mem_cons.1 h with rfl | h
                · exact ⟨y, (getN_some hgi).1, rfl, e⟩
                · exact ih h
        obtain ⟨y, hy, e1, e2⟩ := par (List.mem_of_getLast? hz)
        rcases hd y hy with h | h
        · exact absurd h e2
        · rw [← e1]; exact h
end Go.Proofs.Ytnndanpahcdmaaa
/-
  PLAIN LEAN, NO RUN OF ANY PROGRAM: operations by rising times, of those of one time the first one alone; the nodes that they make.
-/
namespace Go.Proofs.Ytnndanpahcdmaaa
def ltA (a b : Opn) : Bool := lessS a.c a.r b.c b.r
def eqA (a b : Opn) : Prop := a.c = b.c ∧ a.r = b.r
instance (a b : Opn) : Decidable (eqA a b) := by unfold eqA; exact inferInstance
theorem ltA_iff {a b : Opn} : ltA a b = true ↔ (a.c < b.c ∨ (a.c = b.c ∧ a.r < b.r)) := by simp [ltA, lessS]
theorem ltA_trans {a b c : Opn} (h : ltA a b = true) (k : ltA b c = true) : ltA a c = true := by
  rw [ltA_iff] at *; omega
theorem ltA_no {a b : Opn} (h : ltA a b = false) : eqA a b ∨ ltA b a = true := by
  have h1 : ¬ (a.c < b.c ∨ (a.c = b.c ∧ a.r < b.r)) := fun e => by rw [ltA_iff.2 e] at h; cases h
  rw [ltA_iff]; unfold eqA; omega
theorem ltA_ne {a b : Opn} (h : ltA a b = true) : ¬ eqA a b := fun ⟨e1, e2⟩ => by rw [ltA_iff] at h; omega
theorem ltA_asym {a b : Opn} (h : ltA a b = true) : ltA b a = false := by
  cases hb : ltA b a with
  | false => rfl
  | true => rw [ltA_iff] at *; omega
def Srt (l : List Opn) : Prop := l.Pairwise fun a b => ltA a b = true
/-- One operation more, by its time, if there is none of it. -/
def insS (o : Opn) : List Opn → List Opn
  | [] => [o]
  | x :: r => if ltA x o then x :: insS o r else if eqA x o then x :: r else o :: x :: r
theorem insS_mem {o x : Opn} : ∀ {l : List Opn}, Srt l → (x ∈ insS o l ↔ x ∈ l ∨ (x = o ∧ ∀ y ∈ l, ¬ eqA y o))
  | [], _ => by simp [insS]
  | y :: r, h => by
    have hp := List.pairwise_cons.1 h
    unfold insS
    by_cases h1 : ltA y o
    · rw [if_pos h1, List.mem_cons, insS_mem hp.2, List.mem_cons]
      have hn := ltA_ne h1
      constructor
      · rintro (h | h | ⟨h, hr⟩)
        · exact .inl (.inl h)
        · exact .inl (.inr h)
        · refine .inr ⟨h, fun z hz => ?_⟩
          rcases List.mem_cons.1 hz with rfl | hz
          · exact hn
          · exact hr z hz
      · rintro ((h | h) | ⟨h, hr⟩)
        · exact .inl h
        · exact .inr (.inl h)
        · exact .inr (.inr ⟨h, fun z hz => hr z (List.mem_cons_of_mem _ hz)⟩)
    · rw [if_neg h1]
      by_cases h2 : eqA y o
      · rw [if_pos h2]
        constructor
        · exact .inl
        · rintro (h | ⟨_, hr⟩)
          · exact h
          · exact absurd h2 (hr y (by simp))
      · rw [if_neg h2, List.mem_cons]
        have hlt : ltA o y = true := by
          rcases ltA_no (by simpa using h1) with h3 | h3
          · exact absurd h3 h2
          · exact h3
        constructor
        · rintro (h | h)
          · refine .inr ⟨h, fun z hz => ?_⟩
            rcases List.mem_cons.1 hz with rfl | hz
            · exact h2
            · exact fun e => ltA_ne (ltA_trans hlt (hp.1 z hz)) ⟨e.1.symm, e.2.symm⟩
          · exact .inl h
        · rintro (h | ⟨h, _⟩)
          · exact .inr h
          · exact .inl h
theorem insS_srt (o : Opn) : ∀ {l : List Opn}, Srt l → Srt (insS o l)
  | [], _ => by simp [insS, Srt]
  | y :: r, h => by
    have hp := List.pairwise_cons.1 h
    unfold insS
    by_cases h1 : ltA y o
    · rw [if_pos h1]
      refine List.pairwise_cons.2 ⟨fun z hz => ?_, insS_srt o hp.2⟩
      rcases (insS_mem hp.2).1 hz with hz | ⟨rfl, _⟩
      · exact hp.1 z hz
      · exact h1
    · rw [if_neg h1]
      by_cases h2 : eqA y o
      · rw [if_pos h2]; exact h
      · rw [if_neg h2]
        have hlt : ltA o y = true := by
          rcases ltA_no (by simpa using h1) with h3 | h3
          · exact absurd h3 h2
          · exact h3
        refine List.pairwise_cons.2 ⟨fun z hz => ?_, h⟩
        rcases List.mem_cons.1 hz with rfl | hz
        · exact hlt
        · exact ltA_trans hlt (hp.1 z hz)
/-- .. told by what stands ahead, and behind. -/
theorem insS_at {o : Opn} : ∀ {a b : List Opn}, (∀ x ∈ a, ltA x o = true) → (∀ x ∈ b, ltA o x = true) → insS o (a ++ b) = a ++ o :: b
  | [], [], _, _ => rfl
  | [], y :: b, _, h => by
    have := h y (by simp)
    show insS o (y :: b) = o :: y :: b
    unfold insS
    rw [if_neg (by rw [ltA_asym this]; simp), if_neg (fun e => ltA_ne this ⟨e.1.symm, e.2.symm⟩)]
  | x :: a, b, h1, h2 => by
    show insS o (x :: (a ++ b)) = x :: (a ++ o :: b)
    unfold insS
    rw [if_pos (h1 x (by simp)), insS_at (fun z hz => h1 z (by simp [hz])) h2]
theorem insS_has {o : Opn} : ∀ {l : List Opn}, Srt l → (∃ y ∈ l, eqA y o) → insS o l = l
  | [], _, ⟨_, h, _⟩ => by cases h
  | x :: r, h, ⟨y, hy, he⟩ => by
    have hp := List.pairwise_cons.1 h
    unfold insS
    by_cases h1 : ltA x o
    · rw [if_pos h1]
      rcases List.mem_cons.1 hy with rfl | hy
      · exact absurd he (ltA_ne h1)
      · rw [insS_has hp.2 ⟨y, hy, he⟩]
    · rw [if_neg h1]
      by_cases h2 : eqA x o
      · rw [if_pos h2]
      · exfalso
        rcases List.mem_cons.1 hy with rfl | hy
        · exact h2 he
        · rcases ltA_no (by simpa using h1) with h3 | h3
          · exact h2 h3
          · exact ltA_ne (ltA_trans h3 (hp.1 y hy)) ⟨he.1.symm, he.2.symm⟩
def addS (out : List Opn) (o : Opn) : List Opn := if mayO o then insS o out else out
def sortO (l : List Opn) : List Opn := l.foldl addS []
theorem sortO_snoc (l : List Opn) (o : Opn) : sortO (l ++ [o]) = addS (sortO l) o := by simp [sortO]
theorem list_snoc {α : Type} {P : List α → Prop} (h0 : P []) (h1 : ∀ l x, P l → P (l ++ [x])) (l : List α) : P l := by
  have : ∀ n (l : List α), l.length = n → P l := by
    intro n
    induction n with
    | zero => intro l h; rw [List.eq_nil_of_length_eq_zero h]; exact h0
    | succ n ih =>
      intro l h
      have hne : l ≠ [] := by intro e; subst e; simp at h
      rw [← List.dropLast_concat_getLast hne]
      exact h1 _ _ (ih _ (by rw [List.length_dropLast, h]; rfl))
  exact this _ l rfl
theorem sortO_srt (l : List Opn) : Srt (sortO l) := by
  refine list_snoc (P := fun l => Srt (sortO l)) List.Pairwise.nil (fun l x ih => ?_) l
  rw [sortO_snoc]
  unfold addS
  split
  · exact insS_srt x ih
  · exact ih
/-- Place k is the first one of its time that may be. -/
def FirstO (l : List Opn) (k : Nat) (o : Opn) : Prop := l[k]? = some o ∧ mayO o = true ∧ ∀ i y, i < k → l[i]? = some y → mayO y = true → ¬ eqA y o
theorem sortO_mem (l : List Opn) : ∀ x, x ∈ sortO l ↔ ∃ k, FirstO l k x := by
  refine list_snoc (P := fun l => ∀ x, x ∈ sortO l ↔ ∃ k, FirstO l k x) (fun x => ?_) (fun l o ih x => ?_) l
  · constructor
    · intro h; cases h
    · rintro ⟨k, h, _⟩; simp at h
  · have old : ∀ {k : Nat} {y : Opn}, FirstO l k y → FirstO (l ++ [o]) k y := fun {k y} h => by
      have hk := (List.getElem?_eq_some_iff.1 h.1).1
      refine ⟨by rw [List.getElem?_append_left hk]; exact h.1, h.2.1, fun i z hi hz => ?_⟩
      rw [List.getElem?_append_left (by omega)] at hz
      exact h.2.2 i z hi hz
    have new : ∀ {k : Nat} {y : Opn}, FirstO (l ++ [o]) k y → FirstO l k y ∨ (k = l.length ∧ y = o ∧ ∀ z ∈ l, mayO z = true → ¬ eqA z o) := fun {k y} h => by
      by_cases hk : k < l.length
      · refine .inl ⟨by have := h.1; rwa [List.getElem?_append_left hk] at this, h.2.1, fun i z hi hz => h.2.2 i z hi (by rw [List.getElem?_append_left (by omega)]; exact hz)⟩
      · have h1 := h.1
        have hlt := (List.getElem?_eq_some_iff.1 h1).1
        rw [List.length_append, List.length_singleton] at hlt
        obtain rfl : k = l.length := by omega
        rw [List.getElem?_append_right (Nat.le_refl _), Nat.sub_self] at h1
        simp at h1
        subst h1
        refine .inr ⟨rfl, rfl, fun z hz hm => ?_⟩
        obtain ⟨i, hi, rfl⟩ := List.mem_iff_getElem.1 hz
        exact h.2.2 i l[i] hi (by rw [List.getElem?_append_left hi, List.getElem?_eq_getElem hi]) hm
    have seen : (∀ z ∈ l, mayO z = true → ¬ eqA z o) ↔ ∀ y ∈ sortO l, ¬ eqA y o := by
      constructor
      · intro h y hy
        obtain ⟨k, hk⟩ := (ih y).1 hy
        exact h y (List.mem_of_getElem? hk.1) hk.2.1
      · intro h z hz hm e
        -- the first one of that time
        obtain ⟨i, hi, rfl⟩ := List.mem_iff_getElem.1 hz
        have : ∃ k y, k ≤ i ∧ FirstO l k y ∧ eqA y o := by
          clear hz
          induction i using Nat.strongRecOn with
          | _ i ihi =>
            by_cases hf : ∃ j y, j < i ∧ l[j]? = some y ∧ mayO y = true ∧ eqA y l[i]
            · obtain ⟨j, y, hj, hy, hmy, hey⟩ := hf
              have hjl : j < l.length := by omega
              have : y = l[j] := by rw [List.getElem?_eq_getElem hjl] at hy; cases hy; rfl
              subst this
              obtain ⟨k, y, h1, h2, h3⟩ := ihi j hj hjl hmy ⟨hey.1.trans e.1, hey.2.trans e.2⟩
              exact ⟨k, y, by omega, h2, h3⟩
            · exact ⟨i, l[i], Nat.le_refl _, ⟨List.getElem?_eq_getElem hi, hm, fun j y hj hy hmy he => hf ⟨j, y, hj, hy, hmy, he⟩⟩, e⟩
        obtain ⟨k, y, _, h2, h3⟩ := this
        exact h y ((ih y).2 ⟨k, h2⟩) h3
    rw [sortO_snoc]
    unfold addS
    by_cases hm : mayO o = true
    · rw [if_pos hm, insS_mem (sortO_srt l), ih x, ← seen]
      constructor
      · rintro (⟨k, hk⟩ | ⟨rfl, hn⟩)
        · exact ⟨k, old hk⟩
        · refine ⟨l.length, by simp, hm, fun i y hi hy hmy => ?_⟩
          rw [List.getElem?_append_left hi] at hy
          exact hn y (List.mem_of_getElem? hy) hmy
      · rintro ⟨k, hk⟩
        rcases new hk with h | ⟨_, rfl, hn⟩
        · exact .inl ⟨k, h⟩
        · exact .inr ⟨rfl, hn⟩
    · rw [if_neg hm, ih x]
      constructor
      · rintro ⟨k, hk⟩; exact ⟨k, old hk⟩
      · rintro ⟨k, hk⟩
        rcases new hk with h | ⟨_, rfl, _⟩
        · exact ⟨k, h⟩
        · exact absurd hk.2.1 hm
theorem sortO_may {l : List Opn} {x : Opn} (h : x ∈ sortO l) : mayO x = true ∧ x ∈ l := by
  obtain ⟨k, hk⟩ := (sortO_mem l x).1 h
  exact ⟨hk.2.1, List.mem_of_getElem? hk.1⟩
/-- Lists by rising times that have the same are the same. -/
theorem srt_ext : ∀ {a b : List Opn}, Srt a → Srt b → (∀ x, x ∈ a ↔ x ∈ b) → a = b
  | [], [], _, _, _ => rfl
  | [], y :: b, _, _, h => by have := (h y).2 (by simp); cases this
  | x :: a, [], _, _, h => by have := (h x).1 (by simp); cases this
  | x :: a, y :: b, ha, hb, h => by
    have pa := List.pairwise_cons.1 ha
    have pb := List.pairwise_cons.1 hb
    have e : x = y := by
      rcases List.mem_cons.1 ((h x).1 (by simp)) with h1 | h1
      · exact h1
      · rcases List.mem_cons.1 ((h y).2 (by simp)) with h2 | h2
        · exact h2.symm
        · have q1 := pb.1 x h1
          have q2 := pa.1 y h2
          rw [ltA_asym q1] at q2; cases q2
    subst e
    congr 1
    refine srt_ext pa.2 pb.2 fun z => ?_
    constructor
    · intro hz
      rcases List.mem_cons.1 ((h z).1 (by simp [hz])) with rfl | h1
      · exact absurd ⟨rfl, rfl⟩ (ltA_ne (pa.1 z hz))
      · exact h1
    · intro hz
      rcases List.mem_cons.1 ((h z).2 (by simp [hz])) with rfl | h1
      · exact absurd ⟨rfl, rfl⟩ (ltA_ne (pb.1 z hz))
      · exact h1
/-- No two unlike ones of one time. -/
def OneA (l : List Opn) : Prop := ∀ x ∈ l, ∀ y ∈ l, eqA x y → x = y
theorem sortO_one {l : List Opn} (h : OneA l) (x : Opn) : x ∈ sortO l ↔ x ∈ l ∧ mayO x = true := by
  constructor
  · exact fun hx => ⟨(sortO_may hx).2, (sortO_may hx).1⟩
  · rintro ⟨hx, hm⟩
    -- the first place of x
    obtain ⟨i, hi, rfl⟩ := List.mem_iff_getElem.1 hx
    rw [sortO_mem]
    have : ∃ k, k ≤ i ∧ FirstO l k l[i] := by
      have main : ∀ j, (hj : j < l.length) → l[j] = l[i] → ∃ k, k ≤ j ∧ FirstO l k l[i] := by
        intro j
        induction j using Nat.strongRecOn with
        | _ j ih =>
          intro hj e
          by_cases hf : ∃ q y, q < j ∧ l[q]? = some y ∧ mayO y = true ∧ eqA y l[i]
          · obtain ⟨q, y, hq, hy, _, he⟩ := hf
            have hql : q < l.length := by omega
            have hyq : y = l[q] := by rw [List.getElem?_eq_getElem hql] at hy; cases hy; rfl
            have := h y (List.mem_of_getElem? hy) l[i] hx he
            obtain ⟨k, h1, h2⟩ := ih q hq hql (by rw [← hyq]; exact this)
            exact ⟨k, by omega, h2⟩
          · exact ⟨j, Nat.le_refl _, by rw [List.getElem?_eq_getElem hj, e], hm, fun q y hq hy hmy he => hf ⟨q, y, hq, hy, hmy, he⟩⟩
      exact main i hi rfl
    obtain ⟨k, _, h2⟩ := this
    exact ⟨k, h2⟩
theorem sortO_same {a b : List Opn} (ha : OneA a) (hb : OneA b) (h : ∀ x, mayO x = true → (x ∈ a ↔ x ∈ b)) : sortO a = sortO b := by
  refine srt_ext (sortO_srt a) (sortO_srt b) fun x => ?_
  rw [sortO_one ha, sortO_one hb]
  constructor
  · rintro ⟨h1, h2⟩; exact ⟨(h x h2).1 h1, h2⟩
  · rintro ⟨h1, h2⟩; exact ⟨(h x h2).2 h1, h2⟩
/-- The nodes that operations make, done one by one. -/
def doAll (t : List Nod) (l : List Opn) : List Nod := l.foldl (fun t o => (doN t o).1) t
def foldN (l : List Opn) : List Nod := doAll [] (sortO l)
theorem doAll_snoc (t : List Nod) (l : List Opn) (o : Opn) : doAll t (l ++ [o]) = (doN (doAll t l) o).1 := by simp [doAll]
theorem tree_all (l : List Opn) : ∀ {t : List Nod}, Tree t → Tree (doAll t l) := by
  induction l with
  | nil => exact fun h => h
  | cons o l ih => exact fun h => ih (tree_do h o)
theorem tree_fold (l : List Opn) : Tree (foldN l) := tree_all _ tree_nil
/-- What a node has that was written: of the last operation that wrote it. -/
def WroteBy (s : List Opn) (i : Int) (x : Nod) : Prop :=
  (x.wc = 0 ∧ x.wr = 0 ∧ x.d = emptyB ∧ ∀ o ∈ s, o.k = 2 → o.n ≠ i) ∨ ∃ a o b, s = a ++ o :: b ∧ o.k = 2 ∧ o.n = i ∧ x.wc = o.c ∧ x.wr = o.r ∧ x.d = o.d ∧ ∀ z ∈ b, z.k = 2 → z.n ≠ i
def MovedBy (s : List Opn) (i : Int) (x : Nod) : Prop := (x.mc = 0 ∧ x.mr = 0) ∨ ∃ o ∈ s, o.k = 1 ∧ o.n = i ∧ x.mc = o.c ∧ x.mr = o.r ∧ x.p = o.p ∧ x.s = o.s
def Told (s : List Opn) (t : List Nod) : Prop := ∀ i, (∀ x, getN t i = some x → WroteBy s i x ∧ MovedBy s i x) ∧ (getN t i = none → ∀ o ∈ s, o.k = 2 → o.n ≠ i)
theorem WroteBy.more {s : List Opn} {i : Int} {x : Nod} (h : WroteBy s i x) {o : Opn} (ho : o.k = 2 → o.n ≠ i) : WroteBy (s ++ [o]) i x := by
  rcases h with ⟨h1, h2, h3, h4⟩ | ⟨a, q, b, rfl, h2, h3, h4, h5, h6, h7⟩
  · refine .inl ⟨h1, h2, h3, fun z hz => ?_⟩
    rcases List.mem_append.1 hz with hz | hz
    · exact h4 z hz
    · rw [List.mem_singleton] at hz; subst hz; exact ho
  · refine .inr ⟨a, q, b ++ [o], by simp, h2, h3, h4, h5, h6, fun z hz => ?_⟩
    rcases List.mem_append.1 hz with hz | hz
    · exact h7 z hz
    · rw [List.mem_singleton] at hz; subst hz; exact ho
theorem MovedBy.more {s : List Opn} {i : Int} {x : Nod} (h : MovedBy s i x) (o : Opn) : MovedBy (s ++ [o]) i x := by
  rcases h with h | ⟨q, hq, h⟩
  · exact .inl h
  · exact .inr ⟨q, by simp [hq], h⟩
theorem told_do {s : List Opn} {t : List Nod} (ht : MayN t) (h : Told s t) {o : Opn} (hm : mayO o = true) : Told (s ++ [o]) (doN t o).1 := by
  have hk := mayO_parts hm
  rcases doN_cases t o with h1 | ⟨_, _, n, hi, hn, h1, h2⟩
  · -- nothing is done: so it is no write
    have hk2 : o.k ≠ 2 := fun e => by
      unfold doN at h1
      rw [chkN_iff.2 ht, hm, e] at h1
      simp only [Bool.and_self, if_true] at h1
      have := congrArg (fun q => q.2.did) h1
      simp [undN, noUnd] at this
    rw [h1]
    intro i
    obtain ⟨g1, g2⟩ := h i
    refine ⟨fun x hx => ⟨(g1 x hx).1.more fun e => absurd e hk2, (g1 x hx).2.more o⟩, fun hx z hz hz2 => ?_⟩
    rcases List.mem_append.1 hz with hz | hz
    · exact g2 hx z hz hz2
    · rw [List.mem_singleton] at hz; subst hz; exact absurd hz2 hk2
  · rw [h1]
    intro i
    obtain ⟨g1, g2⟩ := h i
    constructor
    · intro x hx
      rw [show (withN t n, undN t o.n).1 = withN t n from rfl, getN_with] at hx
      by_cases e : i = n.id
      · rw [if_pos e] at hx
        cases hx
        have ei : i = o.n := by rw [e, hi]
        rcases h2 with ⟨hk2, rfl⟩ | ⟨hk1, _, rfl⟩
        · refine ⟨.inr ⟨s, o, [], rfl, hk2, ei.symm, rfl, rfl, rfl, fun z hz => by cases hz⟩, ?_⟩
          unfold wroteN oldN
          cases hg : getN t o.n with
          | none => exact .inl ⟨rfl, rfl⟩
          | some y =>
            have := (g1 y (by rw [ei]; exact hg)).2.more o
            exact this
        · refine ⟨?_, .inr ⟨o, by simp, hk1, ei.symm, rfl, rfl, rfl, rfl⟩⟩
          unfold movedN oldN
          cases hg : getN t o.n with
          | none =>
            refine .inl ⟨rfl, rfl, rfl, fun z hz hz2 => ?_⟩
            rcases List.mem_append.1 hz with hz | hz
            · exact g2 (by rw [ei]; exact hg) z hz hz2
            · rw [List.mem_singleton] at hz; subst hz; omega
          | some y =>
            have := (g1 y (by rw [ei]; exact hg)).1.more (o := o) (fun e2 => by omega)
            exact this
      · rw [if_neg e] at hx
        have hne : o.n ≠ i := fun e2 => e (by rw [hi, e2])
        exact ⟨(g1 x hx).1.more fun _ => hne, (g1 x hx).2.more o⟩
    · intro hx z hz hz2
      rw [show (withN t n, undN t o.n).1 = withN t n from rfl, getN_with] at hx
      by_cases e : i = n.id
      · rw [if_pos e] at hx; cases hx
      · rw [if_neg e] at hx
        rcases List.mem_append.1 hz with hz | hz
        · exact g2 hx z hz hz2
        · rw [List.mem_singleton] at hz; subst hz
          exact fun e2 => e (by rw [hi, e2])
theorem told_all (s : List Opn) : (∀ o ∈ s, mayO o = true) → Told s (doAll [] s) := by
  refine list_snoc (P := fun s => (∀ o ∈ s, mayO o = true) → Told s (doAll [] s)) (fun _ i => ⟨fun x hx => (by cases hx), fun _ z hz => (by cases hz)⟩) (fun s o ih h => ?_) s
  rw [doAll_snoc]
  exact told_do (tree_all s tree_nil).1 (ih fun z hz => h z (by simp [hz])) (h o (by simp))
end Go.Proofs.Ytnndanpahcdmaaa
/-
  PLAIN LEAN, NO RUN OF ANY PROGRAM: numbers that an int may be, in operations and nodes, and that they stay so.
-/
namespace Go.Proofs.Ytnndanpahcdmaaa
abbrev I64 (n : Int) : Prop := -9223372036854775808 ≤ n ∧ n ≤ 9223372036854775807
abbrev RgO (o : Opn) : Prop := I64 o.c ∧ I64 o.r ∧ I64 o.k ∧ I64 o.n ∧ I64 o.p
abbrev RgN (x : Nod) : Prop := I64 x.id ∧ I64 x.p ∧ I64 x.mc ∧ I64 x.mr ∧ I64 x.wc ∧ I64 x.wr
abbrev RgOs (l : List Opn) : Prop := ∀ o ∈ l, RgO o
abbrev RgNs (l : List Nod) : Prop := ∀ x ∈ l, RgN x
theorem noNod_rng : RgN noNod := by decide
theorem oldN_rng {l : List Nod} (h : RgNs l) {i : Int} (hi : I64 i) : RgN (oldN l i) := by
  unfold oldN
  cases e : getN l i with
  | none => exact ⟨hi, (by decide : I64 (-1)), (by decide : I64 0), (by decide : I64 0), (by decide : I64 0), (by decide : I64 0)⟩
  | some x => exact h x (getN_some e).1
theorem withN_rng {l : List Nod} (h : RgNs l) {n : Nod} (hn : RgN n) : RgNs (withN l n) := fun x hx => by
  rcases (insN_mem n).1 hx with rfl | hx
  · exact hn
  · exact h x (List.mem_filter.1 hx).1
theorem undN_rng {l : List Nod} (h : RgNs l) (i : Int) : RgN (undN l i).was := by
  unfold undN
  cases e : getN l i with
  | none => exact noNod_rng
  | some x => exact h x (getN_some e).1
theorem doN_rng {l : List Nod} (h : RgNs l) {o : Opn} (ho : RgO o) : RgNs (doN l o).1 ∧ RgN (doN l o).2.was := by
  rcases doN_cases l o with e | ⟨_, _, n, _, _, e, hn⟩
  · rw [e]; exact ⟨h, noNod_rng⟩
  · rw [e]
    refine ⟨withN_rng h ?_, undN_rng h _⟩
    have hold := oldN_rng h ho.2.2.2.1
    rcases hn with ⟨_, rfl⟩ | ⟨_, _, rfl⟩
    · exact ⟨hold.1, hold.2.1, hold.2.2.1, hold.2.2.2.1, ho.1, ho.2.1⟩
    · exact ⟨hold.1, ho.2.2.2.2, ho.1, ho.2.1, hold.2.2.2.2.1, hold.2.2.2.2.2⟩
theorem backN_rng {l : List Nod} (h : RgNs l) (o : Opn) {u : Und} (hu : RgN u.was) : RgNs (backN l o u) := by
  unfold backN
  split
  · split
    · exact withN_rng h hu
    · exact fun x hx => h x (List.mem_filter.1 hx).1
  · exact h
theorem doAll_rng : ∀ (l : List Opn) {t : List Nod}, RgNs t → RgOs l → RgNs (doAll t l)
  | [], _, h, _ => h
  | o :: l, t, h, ho => doAll_rng l (t := (doN t o).1) (doN_rng h (ho o (by simp))).1 (fun x hx => ho x (by simp [hx]))
theorem foldN_rng {l : List Opn} (h : RgOs l) : RgNs (foldN l) := doAll_rng _ (fun x hx => by cases hx) (fun o ho => h o (sortO_may ho).2)
theorem upN_rng {l : List Nod} (h : RgNs l) : ∀ (k : Nat) (i : Int), ∀ z ∈ upN l k i, I64 z
  | 0, _, z, hz => by cases hz
  | k + 1, i, z, hz => by
    unfold upN at hz
    split at hz
    · cases hz
    · rename_i x e
      split at hz
      · cases hz
      · rcases List.mem_cons.1 hz with rfl | hz
        · exact (h x (getN_some e).1).2.1
        · exact upN_rng h k x.p z hz
theorem aboveN_rng {l : List Nod} (h : RgNs l) (i : Int) : ∀ z ∈ aboveN l i, I64 z := fun z hz => by
  unfold aboveN at hz
  split at hz
  · exact upN_rng h _ _ z hz
  · cases hz
end Go.Proofs.Ytnndanpahcdmaaa
/-
  PLAIN LEAN, NO RUN OF ANY PROGRAM: operations sorted by their times, of one time the first one ahead; merged; the first one of each time alone.
-/
namespace Go.Proofs.Ytnndanpahcdmaaa
def leA (a b : Opn) : Bool := !ltA b a
theorem leA_trans (a b c : Opn) (h : leA a b = true) (k : leA b c = true) : leA a c = true := by
  unfold leA at *
  rw [Bool.not_eq_true'] at *
  cases e : ltA c a with
  | false => rfl
  | true =>
    have h1 : ¬ (b.c < a.c ∨ (b.c = a.c ∧ b.r < a.r)) := fun e => by rw [ltA_iff.2 e] at h; cases h
    have h2 : ¬ (c.c < b.c ∨ (c.c = b.c ∧ c.r < b.r)) := fun e => by rw [ltA_iff.2 e] at k; cases k
    rw [ltA_iff] at e
    omega
theorem leA_total (a b : Opn) : (leA a b || leA b a) = true := by
  unfold leA
  cases h : ltA b a with
  | false => rfl
  | true => rw [ltA_asym h]; rfl
abbrev mrg (a b : List Opn) : List Opn := List.merge a b leA
/-- Rising, or of one time. -/
def Wk (l : List Opn) : Prop := l.Pairwise fun a b => leA a b = true
def same (e y : Opn) : Bool := decide (eqA y e)
theorem mrg_nil (a : List Opn) : mrg a [] = a := List.merge_right a
theorem nil_mrg (a : List Opn) : mrg [] a = a := List.nil_merge a
theorem mrg_len (a b : List Opn) : (mrg a b).length = a.length + b.length := List.length_merge ..
theorem mrg_no {x y : Opn} (a b : List Opn) (h : ltA y x = false) : mrg (x :: a) (y :: b) = x :: mrg a (y :: b) := List.cons_merge_cons_pos _ _ _ (by unfold leA; rw [h]; rfl)
theorem mrg_yes {x y : Opn} (a b : List Opn) (h : ltA y x = true) : mrg (x :: a) (y :: b) = y :: mrg (x :: a) b := List.cons_merge_cons_neg _ _ _ (by unfold leA; rw [h]; simp)
/-- Where both are cut at one time, they may be merged apart. -/
theorem mrg_split : ∀ (X1 Y1 X2 Y2 : List Opn), (∀ x ∈ X1, ∀ y ∈ Y2, ltA y x = false) → (∀ x ∈ X2, ∀ y ∈ Y1, ltA y x = true) → mrg (X1 ++ X2) (Y1 ++ Y2) = mrg X1 Y1 ++ mrg X2 Y2
  | [], [], X2, Y2, _, _ => by rw [nil_mrg]; rfl
  | [], y :: Y1, [], Y2, _, _ => by simp
  | [], y :: Y1, x :: X2, Y2, h1, h2 => by
    have := mrg_split [] Y1 (x :: X2) Y2 (fun x hx => by cases hx) (fun x hx z hz => h2 x hx z (by simp [hz]))
    rw [nil_mrg] at this ⊢
    rw [List.nil_append, List.cons_append, mrg_yes _ _ (h2 x (by simp) y (by simp))]
    rw [List.nil_append] at this
    rw [this]; rfl
  | x :: X1, [], X2, [], _, _ => by simp
  | x :: X1, [], X2, y :: Y2, h1, h2 => by
    have := mrg_split X1 [] X2 (y :: Y2) (fun z hz => h1 z (by simp [hz])) (fun _ _ y hy => by cases hy)
    rw [mrg_nil] at this ⊢
    rw [List.nil_append] at this ⊢
    rw [List.cons_append, mrg_no _ _ (h1 x (by simp) y (by simp)), this]; rfl
  | x :: X1, y :: Y1, X2, Y2, h1, h2 => by
    cases h : ltA y x with
    | true =>
      have := mrg_split (x :: X1) Y1 X2 Y2 h1 (fun z hz q hq => h2 z hz q (by simp [hq]))
      rw [List.cons_append, List.cons_append, mrg_yes _ _ h, mrg_yes _ _ h]
      rw [List.cons_append] at this
      rw [this]; rfl
    | false =>
      have := mrg_split X1 (y :: Y1) X2 Y2 (fun z hz => h1 z (by simp [hz])) h2
      rw [List.cons_append, List.cons_append, mrg_no _ _ h, mrg_no _ _ h]
      rw [List.cons_append] at this
      rw [this]; rfl
termination_by X1 Y1 => X1.length + Y1.length
theorem mrg_wk {a b : List Opn} (h : Wk a) (k : Wk b) : Wk (mrg a b) := List.pairwise_merge (fun a b c => leA_trans a b c) leA_total a b h k
theorem same_no {e x y : Opn} (h : ltA y x = true) (he : same e y = true) : same e x = false := by
  unfold same at *
  have h1 := of_decide_eq_true he
  refine decide_eq_false fun h2 => ltA_ne h ⟨h1.1.trans h2.1.symm, h1.2.trans h2.2.symm⟩
theorem lt_le {x y z : Opn} (h : ltA y x = true) (k : leA x z = true) : ltA y z = true := by
  unfold leA at k
  rw [Bool.not_eq_true'] at k
  have h2 : ¬ (z.c < x.c ∨ (z.c = x.c ∧ z.r < x.r)) := fun e => by rw [ltA_iff.2 e] at k; cases k
  rw [ltA_iff] at *
  omega
theorem mrg_find (e : Opn) : ∀ (a b : List Opn), Wk a → Wk b → (mrg a b).find? (same e) = (a.find? (same e)).or (b.find? (same e))
  | [], b, _, _ => by rw [nil_mrg]; simp
  | x :: a, [], _, _ => by rw [mrg_nil]; simp
  | x :: a, y :: b, ha, hb => by
    have pa := List.pairwise_cons.1 ha
    have pb := List.pairwise_cons.1 hb
    cases h : ltA y x with
    | true =>
      rw [mrg_yes _ _ h, List.find?_cons]
      cases hs : same e y with
      | true =>
        have hn : (x :: a).find? (same e) = none := by
          rw [List.find?_eq_none]
          intro z hz
          rcases List.mem_cons.1 hz with rfl | hz
          · rw [same_no h hs]; simp
          · rw [same_no (lt_le h (pa.1 z hz)) hs]; simp
        rw [hn, List.find?_cons, hs]; rfl
      | false =>
        rw [mrg_find e (x :: a) b ha pb.2]
        have e2 : (y :: b).find? (same e) = b.find? (same e) := by rw [List.find?_cons, hs]
        rw [e2]
    | false =>
      rw [mrg_no _ _ h, List.find?_cons, List.find?_cons]
      cases hs : same e x with
      | true => rfl
      | false =>
        show _ = (a.find? (same e)).or _
        rw [← mrg_find e a (y :: b) pa.2 hb]
termination_by a b => a.length + b.length
/-- Sorted, of each time the same one first. -/
def Fst (m l : List Opn) : Prop := Wk l ∧ l.length = m.length ∧ ∀ e, l.find? (same e) = m.find? (same e)
theorem fst_short {m : List Opn} (h : m.length ≤ 1) : Fst m m := by
  refine ⟨?_, rfl, fun _ => rfl⟩
  match m, h with
  | [], _ => exact List.Pairwise.nil
  | [x], _ => exact List.pairwise_singleton ..
theorem fst_mrg {a a' b b' : List Opn} (h : Fst a a') (k : Fst b b') : Fst (a ++ b) (mrg a' b') := by
  refine ⟨mrg_wk h.1 k.1, by rw [mrg_len, List.length_append, h.2.1, k.2.1], fun e => ?_⟩
  rw [mrg_find e a' b' h.1 k.1, List.find?_append, h.2.2 e, k.2.2 e]
theorem Wk.cut {a b : List Opn} (h : Wk (a ++ b)) : Wk a ∧ Wk b := ⟨(List.pairwise_append.1 h).1, (List.pairwise_append.1 h).2.1⟩
/-- One more, behind the greater ones. -/
theorem mrg_one {U V : List Opn} {x : Opn} (h1 : ∀ y ∈ U, ltA x y = false) (h2 : ∀ y ∈ V, ltA x y = true) : mrg (U ++ V) [x] = U ++ x :: V := by
  have e1 := mrg_split U [] V [x] (fun u hu y hy => by rw [List.mem_singleton] at hy; subst hy; exact h1 u hu) (fun _ _ y hy => by cases hy)
  rw [List.nil_append, mrg_nil] at e1
  have e2 := mrg_split [] [x] V [] (fun x hx => by cases hx) (fun v hv y hy => by rw [List.mem_singleton] at hy; subst hy; exact h2 v hv)
  rw [List.nil_append, List.append_nil, nil_mrg, mrg_nil] at e2
  rw [e1, e2]; rfl
/-- One ahead of those that are no less. -/
theorem one_mrg {U V : List Opn} {x : Opn} (h1 : ∀ y ∈ U, ltA y x = true) (h2 : ∀ y ∈ V, ltA y x = false) : mrg [x] (U ++ V) = U ++ x :: V := by
  have e1 := mrg_split [] U [x] V (fun x hx => by cases hx) (fun z hz y hy => by rw [List.mem_singleton] at hz; subst hz; exact h1 y hy)
  rw [List.nil_append, nil_mrg] at e1
  have e2 := mrg_split [x] [] [] V (fun z hz y hy => by rw [List.mem_singleton] at hz; subst hz; exact h2 y hy) (fun _ hx => by cases hx)
  rw [List.append_nil, List.nil_append, mrg_nil, nil_mrg] at e2
  rw [e1, e2]; rfl
/-- Weakly sorted: what is behind is no less than what is there. -/
theorem Wk.get {l : List Opn} (h : Wk l) {i j : Nat} (hij : i < j) {x y : Opn} (hx : l[i]? = some x) (hy : l[j]? = some y) : leA x y = true := by
  obtain ⟨h1, e1⟩ := List.getElem?_eq_some_iff.1 hx
  obtain ⟨h2, e2⟩ := List.getElem?_eq_some_iff.1 hy
  have := List.pairwise_iff_getElem.1 h i j h1 h2 hij
  rwa [e1, e2] at this
/-- All ahead of one that is not above z are not. -/
theorem Wk.below {l : List Opn} (h : Wk l) {i : Nat} {x z : Opn} (hx : l[i]? = some x) (hz : ltA z x = false) : ∀ y ∈ l.take (i + 1), ltA z y = false := fun y hy => by
  obtain ⟨j, hj, e⟩ := List.mem_iff_getElem.1 hy
  rw [List.length_take] at hj
  rw [List.getElem_take] at e
  have hyj : l[j]? = some y := by rw [List.getElem?_eq_getElem (by omega), e]
  by_cases hji : j = i
  · subst hji; rw [hx] at hyj; cases hyj; exact hz
  · have := h.get (show j < i by omega) hyj hx
    cases hh : ltA z y with
    | false => rfl
    | true => rw [lt_le hh this] at hz; cases hz
theorem Wk.above {l : List Opn} (h : Wk l) {i : Nat} {x z : Opn} (hx : l[i]? = some x) (hz : ltA z x = true) : ∀ y ∈ l.drop i, ltA z y = true := fun y hy => by
  obtain ⟨j, hj, e⟩ := List.mem_iff_getElem.1 hy
  rw [List.length_drop] at hj
  rw [List.getElem_drop] at e
  have hyj : l[i + j]? = some y := by rw [List.getElem?_eq_getElem (by omega), e]
  by_cases hji : j = 0
  · subst hji; rw [Nat.add_zero, hx] at hyj; cases hyj; exact hz
  · exact lt_le hz (h.get (show i < i + j by omega) hx hyj)
/-- .. and the other way round. -/
theorem Wk.less {l : List Opn} (h : Wk l) {i : Nat} {x z : Opn} (hx : l[i]? = some x) (hz : ltA x z = true) : ∀ y ∈ l.take (i + 1), ltA y z = true := fun y hy => by
  obtain ⟨j, hj, e⟩ := List.mem_iff_getElem.1 hy
  rw [List.length_take] at hj
  rw [List.getElem_take] at e
  have hyj : l[j]? = some y := by rw [List.getElem?_eq_getElem (by omega), e]
  by_cases hji : j = i
  · subst hji; rw [hx] at hyj; cases hyj; exact hz
  · have := h.get (show j < i by omega) hyj hx
    cases hh : ltA y z with
    | true => rfl
    | false =>
      have h1 : leA z y = true := by unfold leA; rw [hh]; rfl
      have h2 := leA_trans z y x h1 this
      unfold leA at h2
      rw [hz] at h2; cases h2
theorem Wk.more {l : List Opn} (h : Wk l) {i : Nat} {x z : Opn} (hx : l[i]? = some x) (hz : ltA x z = false) : ∀ y ∈ l.drop i, ltA y z = false := fun y hy => by
  obtain ⟨j, hj, e⟩ := List.mem_iff_getElem.1 hy
  rw [List.length_drop] at hj
  rw [List.getElem_drop] at e
  have hyj : l[i + j]? = some y := by rw [List.getElem?_eq_getElem (by omega), e]
  have h1 : leA z x = true := by unfold leA; rw [hz]; rfl
  by_cases hji : j = 0
  · subst hji; rw [Nat.add_zero, hx] at hyj; cases hyj; exact hz
  · have h2 := leA_trans z x y h1 (h.get (show i < i + j by omega) hx hyj)
    unfold leA at h2
    simpa using h2
/-- The first one of those of one time that stand together. -/
def cmpA : Opn → List Opn → List Opn
  | _, [] => []
  | p, y :: r => if eqA y p then cmpA y r else y :: cmpA y r
def cmpt : List Opn → List Opn
  | [] => []
  | x :: r => x :: cmpA x r
theorem cmpA_mem : ∀ (r : List Opn) (p : Opn), Wk (p :: r) → ∀ x, x ∈ cmpA p r ↔ (¬ eqA x p ∧ r.find? (same x) = some x)
  | [], p, _, x => by simp [cmpA]
  | y :: r, p, h, x => by
    have pp := List.pairwise_cons.1 h
    have hy := cmpA_mem r y pp.2
    have hpy := pp.1 y (by simp)
    unfold cmpA
    rw [List.find?_cons]
    by_cases h1 : eqA y p
    · rw [if_pos h1, hy x]
      by_cases h2 : eqA y x
      · have : same x y = true := decide_eq_true h2
        rw [this]
        constructor
        · rintro ⟨h3, _⟩; exact absurd ⟨h2.1.symm, h2.2.symm⟩ h3
        · rintro ⟨h3, h4⟩
          exact absurd ⟨h2.1.symm.trans h1.1, h2.2.symm.trans h1.2⟩ h3
      · have : same x y = false := decide_eq_false h2
        rw [this]
        constructor
        · rintro ⟨h3, h4⟩; exact ⟨fun e => h3 ⟨e.1.trans h1.1.symm, e.2.trans h1.2.symm⟩, h4⟩
        · rintro ⟨h3, h4⟩; exact ⟨fun e => h3 ⟨e.1.trans h1.1, e.2.trans h1.2⟩, h4⟩
    · rw [if_neg h1, List.mem_cons, hy x]
      by_cases h2 : eqA y x
      · have : same x y = true := decide_eq_true h2
        rw [this]
        constructor
        · rintro (rfl | ⟨h3, _⟩)
          · exact ⟨h1, rfl⟩
          · exact absurd ⟨h2.1.symm, h2.2.symm⟩ h3
        · rintro ⟨h3, h4⟩
          simp at h4
          exact .inl h4.symm
      · have : same x y = false := decide_eq_false h2
        rw [this]
        constructor
        · rintro (rfl | ⟨h3, h4⟩)
          · exact absurd ⟨rfl, rfl⟩ h2
          · refine ⟨fun e => ?_, h4⟩
            -- x is of p's time, and stands behind y, that is behind p
            have hm := List.mem_of_find?_eq_some h4
            have hyx := (List.pairwise_cons.1 pp.2).1 x hm
            have hlt : ltA p y = true := by
              unfold leA at hpy
              rw [Bool.not_eq_true'] at hpy
              rcases ltA_no hpy with h5 | h5
              · exact absurd h5 h1
              · exact h5
            have := lt_le hlt hyx
            exact ltA_ne this ⟨e.1.symm, e.2.symm⟩
        · rintro ⟨h3, h4⟩
          exact .inr ⟨fun e => h2 ⟨e.1.symm, e.2.symm⟩, h4⟩
theorem cmpA_srt : ∀ (r : List Opn) (p : Opn), Wk (p :: r) → Srt (p :: cmpA p r)
  | [], p, _ => by simp [cmpA, Srt]
  | y :: r, p, h => by
    have pp := List.pairwise_cons.1 h
    have ih := cmpA_srt r y pp.2
    have ihp := List.pairwise_cons.1 ih
    have hpy := pp.1 y (by simp)
    unfold cmpA
    by_cases h1 : eqA y p
    · rw [if_pos h1]
      refine List.pairwise_cons.2 ⟨fun z hz => ?_, ihp.2⟩
      have := ihp.1 z hz
      rw [ltA_iff] at this ⊢
      have := h1.1; have := h1.2
      omega
    · rw [if_neg h1]
      have hlt : ltA p y = true := by
        unfold leA at hpy
        rw [Bool.not_eq_true'] at hpy
        rcases ltA_no hpy with h5 | h5
        · exact absurd h5 h1
        · exact h5
      refine List.pairwise_cons.2 ⟨fun z hz => ?_, ih⟩
      rcases List.mem_cons.1 hz with rfl | hz
      · exact hlt
      · exact ltA_trans hlt (ihp.1 z hz)
theorem cmpt_mem {l : List Opn} (h : Wk l) (x : Opn) : x ∈ cmpt l ↔ l.find? (same x) = some x := by
  cases l with
  | nil => simp [cmpt]
  | cons p r =>
    unfold cmpt
    rw [List.mem_cons, cmpA_mem r p h x, List.find?_cons]
    by_cases h2 : eqA p x
    · have : same x p = true := decide_eq_true h2
      rw [this]
      constructor
      · rintro (rfl | ⟨h3, _⟩)
        · rfl
        · exact absurd ⟨h2.1.symm, h2.2.symm⟩ h3
      · intro h4; simp at h4; exact .inl h4.symm
    · have : same x p = false := decide_eq_false h2
      rw [this]
      constructor
      · rintro (rfl | ⟨_, h4⟩)
        · exact absurd ⟨rfl, rfl⟩ h2
        · exact h4
      · intro h4; exact .inr ⟨fun e => h2 ⟨e.1.symm, e.2.symm⟩, h4⟩
theorem cmpt_srt {l : List Opn} (h : Wk l) : Srt (cmpt l) := by
  cases l with
  | nil => exact List.Pairwise.nil
  | cons p r => exact cmpA_srt r p h
/-- Sorted so, and the first one of each time alone: what the document asks. -/
theorem cmpt_sort {l s : List Opn} (h : Fst (l.filter mayO) s) : cmpt s = sortO l := by
  refine srt_ext (cmpt_srt h.1) (sortO_srt l) fun x => ?_
  rw [cmpt_mem h.1, h.2.2 x, sortO_mem]
  rw [List.find?_filter, List.find?_eq_some_iff_getElem]
  constructor
  · rintro ⟨h1, k, hk, e, h2⟩
    have h1 := of_decide_eq_true h1
    refine ⟨k, by rw [List.getElem?_eq_getElem hk, e], h1.1, fun i y hi hy hm he => ?_⟩
    have h3 := h2 i hi
    have hyl := (List.getElem?_eq_some_iff.1 hy).2
    rw [hyl] at h3
    have h4 : decide (mayO y = true ∧ same x y = true) = true := decide_eq_true ⟨hm, decide_eq_true he⟩
    rw [h4] at h3
    cases h3
  · rintro ⟨k, hk, hm, h2⟩
    obtain ⟨hkl, e⟩ := List.getElem?_eq_some_iff.1 hk
    refine ⟨decide_eq_true ⟨hm, decide_eq_true ⟨rfl, rfl⟩⟩, k, hkl, e, fun i hi => ?_⟩
    have h3 := h2 i l[i] hi (List.getElem?_eq_getElem (by omega))
    rw [Bool.not_eq_true']
    exact decide_eq_false fun h4 => h3 h4.1 (of_decide_eq_true h4.2)
end Go.Proofs.Ytnndanpahcdmaaa
/-
  PLAIN LEAN, NO RUN OF ANY PROGRAM: where two sorted stretches are cut, so that they may be merged apart.
-/
namespace Go.Proofs.Ytnndanpahcdmaaa
theorem leA_of {x y : Opn} (h : ltA y x = false) : leA x y = true := by unfold leA; rw [h]; rfl
theorem of_leA {x y : Opn} (h : leA x y = true) : ltA y x = false := by unfold leA at h; simpa using h
theorem le_lt {x y z : Opn} (h : leA y x = true) (k : ltA x z = true) : ltA y z = true := by
  unfold leA at h
  rw [Bool.not_eq_true'] at h
  have h2 : ¬ (x.c < y.c ∨ (x.c = y.c ∧ x.r < y.r)) := fun e => by rw [ltA_iff.2 e] at h; cases h
  rw [ltA_iff] at *
  omega
theorem Wk.first {l : List Opn} (h : Wk l) {i : Nat} {x : Opn} (hx : l[i]? = some x) : ∀ y ∈ l.take (i + 1), y = x ∨ leA y x = true := fun y hy => by
  obtain ⟨j, hj, e⟩ := List.mem_iff_getElem.1 hy
  rw [List.length_take] at hj
  rw [List.getElem_take] at e
  have hyj : l[j]? = some y := by rw [List.getElem?_eq_getElem (by omega), e]
  by_cases hji : j = i
  · subst hji; rw [hx] at hyj; cases hyj; exact .inl rfl
  · exact .inr (h.get (show j < i by omega) hyj hx)
theorem Wk.last {l : List Opn} (h : Wk l) {i : Nat} {x : Opn} (hx : l[i]? = some x) : ∀ y ∈ l.drop i, y = x ∨ leA x y = true := fun y hy => by
  obtain ⟨j, hj, e⟩ := List.mem_iff_getElem.1 hy
  rw [List.length_drop] at hj
  rw [List.getElem_drop] at e
  have hyj : l[i + j]? = some y := by rw [List.getElem?_eq_getElem (by omega), e]
  by_cases hji : j = 0
  · subst hji; rw [Nat.add_zero, hx] at hyj; cases hyj; exact .inl rfl
  · exact .inr (h.get (show i < i + j by omega) hx hyj)
/-- Cut at place s of the first one, and t of the second one. -/
theorem sym_split {X Y : List Opn} (hX : Wk X) (hY : Wk Y) (s t : Nat)
    (h1 : s = 0 ∨ Y.length ≤ t ∨ ∃ x y, X[s - 1]? = some x ∧ Y[t]? = some y ∧ ltA y x = false)
    (h2 : X.length ≤ s ∨ t = 0 ∨ ∃ x y, X[s]? = some x ∧ Y[t - 1]? = some y ∧ ltA y x = true) :
    mrg X Y = mrg (X.take s) (Y.take t) ++ mrg (X.drop s) (Y.drop t) := by
  conv => lhs; rw [← List.take_append_drop s X, ← List.take_append_drop t Y]
  refine mrg_split _ _ _ _ (fun x hx y hy => ?_) (fun x hx y hy => ?_)
  · rcases h1 with rfl | h | ⟨x0, y0, e1, e2, hl⟩
    · simp at hx
    · rw [List.drop_of_length_le h] at hy; cases hy
    · by_cases hs : s = 0
      · subst hs; simp at hx
      · have hx' : x = x0 ∨ leA x x0 = true := hX.first e1 x (by rwa [Nat.sub_add_cancel (by omega)])
        have hy' := hY.last e2 y hy
        have k1 : leA x y0 = true := by
          rcases hx' with rfl | h
          · exact leA_of hl
          · exact leA_trans _ _ _ h (leA_of hl)
        rcases hy' with rfl | h
        · exact of_leA k1
        · exact of_leA (leA_trans _ _ _ k1 h)
  · rcases h2 with h | rfl | ⟨x0, y0, e1, e2, hl⟩
    · rw [List.drop_of_length_le h] at hx; cases hx
    · simp at hy
    · by_cases ht : t = 0
      · subst ht; simp at hy
      · have hx' := hX.last e1 x hx
        have hy' : y = y0 ∨ leA y y0 = true := hY.first e2 y (by rwa [Nat.sub_add_cancel (by omega)])
        have k1 : ltA y x0 = true := by
          rcases hy' with rfl | h
          · exact hl
          · exact le_lt h hl
        rcases hx' with rfl | h
        · exact k1
        · exact lt_le k1 h
theorem mrg_nilL {a b : List Opn} (h : a = [] ∨ b = []) : mrg a b = a ++ b := by
  rcases h with rfl | rfl
  · rw [nil_mrg]; rfl
  · rw [mrg_nil, List.append_nil]
theorem app_comm {α : Type} {a b : List α} (h : a = [] ∨ b = []) : a ++ b = b ++ a := by
  rcases h with rfl | rfl <;> simp
end Go.Proofs.Ytnndanpahcdmaaa
/-
  PLAIN LEAN, NO RUN OF ANY PROGRAM: the place of a number in nodes that rise; what is laid there, and taken out.
-/
namespace Go.Proofs.Ytnndanpahcdmaaa
/-- How many nodes stand ahead of a number. -/
def posN (l : List Nod) (i : Int) : Nat := l.countP fun x => decide (x.id < i)
theorem posN_le (l : List Nod) (i : Int) : posN l i ≤ l.length := List.countP_le_length
theorem posN_lt {l : List Nod} (h : MayN l) (i : Int) : ∀ (j : Nat) y, l[j]? = some y → (y.id < i ↔ j < posN l i) := by
  unfold posN
  induction l with
  | nil => intro j y hj; simp at hj
  | cons x r ih =>
    intro j y hj
    have p := List.pairwise_cons.1 h.2
    rw [List.countP_cons]
    by_cases hx : x.id < i
    · simp only [hx, decide_true, if_true]
      cases j with
      | zero => simp at hj; subst hj; exact ⟨fun _ => by omega, fun _ => hx⟩
      | succ j => rw [ih h.tail j y (by simpa using hj)]; omega
    · have h0 : r.countP (fun x => decide (x.id < i)) = 0 := by
        rw [List.countP_eq_zero]
        intro z hz
        have := p.1 z hz
        simp only [decide_eq_true_eq]; omega
      rw [h0]
      simp only [hx, decide_false, Bool.false_eq_true, if_false]
      refine ⟨fun e => ?_, fun e => by omega⟩
      cases j with
      | zero => simp at hj; subst hj; exact absurd e hx
      | succ j =>
        have := p.1 y (List.mem_of_getElem? (by simpa using hj : r[j]? = some y)); omega
/-- Where the search ends. -/
theorem posN_eq {l : List Nod} (h : MayN l) {i : Int} {k : Nat} (hk : k ≤ l.length) (h1 : ∀ y, 0 < k → l[k - 1]? = some y → y.id < i) (h2 : ∀ y, l[k]? = some y → ¬ y.id < i) : k = posN l i := by
  have hp := posN_le l i
  rcases Nat.lt_trichotomy k (posN l i) with e | e | e
  · have hx : l[k]? = some l[k] := List.getElem?_eq_getElem (by omega)
    exact absurd ((posN_lt h i k _ hx).2 e) (h2 _ hx)
  · exact e
  · have hx : l[k - 1]? = some l[k - 1] := List.getElem?_eq_getElem (by omega)
    have := (posN_lt h i (k - 1) _ hx).1 (h1 _ (by omega) hx)
    omega
theorem pos_some {l : List Nod} (h : MayN l) {i : Int} {x : Nod} (hg : getN l i = some x) : l[posN l i]? = some x := by
  obtain ⟨hm, he⟩ := getN_some hg
  obtain ⟨j, hj, e⟩ := List.mem_iff_getElem.1 hm
  have hx : l[j]? = some x := by rw [List.getElem?_eq_getElem hj, e]
  have h1 : ¬ j < posN l i := fun hlt => by have := (posN_lt h i j x hx).2 hlt; omega
  have hp : posN l i < l.length := by omega
  have hy : l[posN l i]? = some l[posN l i] := List.getElem?_eq_getElem hp
  rcases Nat.lt_or_ge (posN l i) j with hlt | hge
  · have h2 := List.pairwise_iff_getElem.1 h.2 (posN l i) j hp hj hlt
    have h3 := (posN_lt h i _ _ hy).1 (by rw [e] at h2; omega)
    omega
  · obtain rfl : j = posN l i := by omega
    exact hx
theorem pos_there {l : List Nod} (h : MayN l) {i : Int} {y : Nod} (hy : l[posN l i]? = some y) : (getN l i).isSome = decide (y.id = i) := by
  cases hg : getN l i with
  | none => have := getN_none hg y (List.mem_of_getElem? hy); simp [this]
  | some x =>
    have := pos_some h hg
    rw [hy] at this; cases this
    simp [(getN_some hg).2]
theorem pos_end {l : List Nod} (h : MayN l) {i : Int} (hy : posN l i = l.length) : getN l i = none := by
  cases hg : getN l i with
  | none => rfl
  | some x => have := pos_some h hg; rw [hy] at this; simp at this
theorem without_none {l : List Nod} {i : Int} (h : ∀ x ∈ l, x.id ≠ i) : without l i = l := by
  unfold without
  rw [List.filter_eq_self]
  intro x hx
  simpa using h x hx
theorem insN_at {n : Nod} : ∀ {a b : List Nod}, (∀ x ∈ a, x.id < n.id) → (∀ x ∈ b, ¬ x.id < n.id) → insN n (a ++ b) = a ++ n :: b
  | [], [], _, _ => rfl
  | [], y :: b, _, h => by
    show insN n (y :: b) = _
    unfold insN
    rw [if_neg (h y (by simp))]; rfl
  | x :: a, b, h1, h2 => by
    show insN n (x :: (a ++ b)) = _
    unfold insN
    rw [if_pos (h1 x (by simp)), insN_at (fun z hz => h1 z (by simp [hz])) h2]; rfl
theorem take_pos {l : List Nod} (h : MayN l) (i : Int) : ∀ x ∈ l.take (posN l i), x.id < i := fun x hx => by
  obtain ⟨j, hj, e⟩ := List.mem_iff_getElem.1 hx
  rw [List.length_take] at hj
  rw [List.getElem_take] at e
  exact (posN_lt h i j x (by rw [List.getElem?_eq_getElem (by omega), e])).2 (by omega)
theorem drop_pos {l : List Nod} (h : MayN l) (i : Int) (k : Nat) (hk : posN l i ≤ k) : ∀ x ∈ l.drop k, ¬ x.id < i := fun x hx => by
  obtain ⟨j, hj, e⟩ := List.mem_iff_getElem.1 hx
  rw [List.length_drop] at hj
  rw [List.getElem_drop] at e
  intro hlt
  have := (posN_lt h i (k + j) x (by rw [List.getElem?_eq_getElem (by omega), e])).1 hlt
  omega
theorem with_none {l : List Nod} (h : MayN l) {n : Nod} (hg : getN l n.id = none) : withN l n = l.take (posN l n.id) ++ n :: l.drop (posN l n.id) := by
  unfold withN
  rw [without_none (getN_none hg)]
  conv => lhs; rw [← List.take_append_drop (posN l n.id) l]
  exact insN_at (take_pos h _) (drop_pos h _ _ (Nat.le_refl _))
theorem without_some {l : List Nod} (h : MayN l) {i : Int} {x : Nod} (hg : getN l i = some x) : without l i = l.take (posN l i) ++ l.drop (posN l i + 1) := by
  have hp := pos_some h hg
  have hlt := (List.getElem?_eq_some_iff.1 hp).1
  have e : l = l.take (posN l i) ++ x :: l.drop (posN l i + 1) := by
    conv => lhs; rw [← List.take_append_drop (posN l i) l]
    congr 1
    rw [List.drop_eq_getElem_cons hlt]
    congr 1
    rw [List.getElem?_eq_getElem hlt] at hp
    exact Option.some.inj hp
  unfold without
  conv => lhs; rw [e]
  rw [List.filter_append, List.filter_cons]
  have hx := (getN_some hg).2
  rw [if_neg (by simp [hx])]
  congr 1
  · rw [List.filter_eq_self]
    intro z hz
    have := take_pos h i z hz
    simp; omega
  · rw [List.filter_eq_self]
    intro z hz
    obtain ⟨j, hj, e⟩ := List.mem_iff_getElem.1 hz
    rw [List.length_drop] at hj
    rw [List.getElem_drop] at e
    rw [List.getElem?_eq_getElem hlt] at hp
    have hp2 := Option.some.inj hp
    have := List.pairwise_iff_getElem.1 h.2 (posN l i) (posN l i + 1 + j) hlt (by omega) (by omega)
    rw [e, hp2] at this
    simp; omega
theorem posN_without (l : List Nod) (i : Int) : posN (without l i) i = posN l i := by
  unfold posN without
  rw [List.countP_filter]
  refine List.countP_congr fun x _ => ?_
  by_cases e : x.id < i
  · simp [e]; omega
  · simp [e]
theorem with_some {l : List Nod} (h : MayN l) {n : Nod} {x : Nod} (hg : getN l n.id = some x) : withN l n = l.set (posN l n.id) n := by
  have hlt := (List.getElem?_eq_some_iff.1 (pos_some h hg)).1
  unfold withN
  rw [without_some h hg, insN_at (take_pos h _) (drop_pos h _ _ (by omega)), List.set_eq_take_append_cons_drop, if_pos hlt]
/-- Taken out, and another one laid there. -/
theorem with_after {l : List Nod} (h : MayN l) (n : Nod) : withN l n = (without l n.id).take (posN l n.id) ++ n :: (without l n.id).drop (posN l n.id) := by
  have hw := without_may h n.id
  have e := with_none hw (n := n) (by rw [getN_without, if_pos rfl])
  rw [posN_without] at e
  rw [← e]
  unfold withN
  rw [without_none (l := without l n.id) (without_ne l n.id)]
/-- What is laid between takes one place more. -/
theorem set_between {α : Type} (a b : List α) (x y : α) : (a ++ x :: b).set a.length y = a ++ y :: b := by simp
end Go.Proofs.Ytnndanpahcdmaaa
