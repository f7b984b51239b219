/- Several texts of this seat in one, in build order. -/
import Derived.Test.YtnndanpahcdmaaaPkP
import Derived.Test.YtnndanpahcdmaaaROps
import Derived.Test.YtnndanpahcdmaaaRNod
import Derived.Test.YtnndanpahcdmaaaCells
import Derived.Test.YtnndanpahcdmaaaLin
import Derived.Test.YtnndanpahcdmaaaRFold
import Derived.Test.YtnndanpahcdmaaaPkR
import Derived.Deep.RegionHeld3
import Derived.Test.YtnndanpahcdmaaaRSorted
/-
  PLAIN LEAN, NO RUN OF ANY PROGRAM: logs: operations by rising times, with what their doing changed.
-/
namespace Go.Proofs.Ytnndanpahcdmaaa
structure Enl where
  o : Opn
  u : Und
  deriving DecidableEq
/-- The entries of operations that are done one behind the other, from some nodes on. -/
def entsF : List Nod → List Opn → List Enl
  | _, [] => []
  | t, o :: s => ⟨o, (doN t o).2⟩ :: entsF (doN t o).1 s
def ents (s : List Opn) : List Enl := entsF [] s
theorem entsF_len : ∀ (t : List Nod) (s : List Opn), (entsF t s).length = s.length
  | _, [] => rfl
  | t, o :: s => by rw [entsF, List.length_cons, entsF_len, List.length_cons]
theorem ents_len (s : List Opn) : (ents s).length = s.length := entsF_len [] s
theorem doAll_cons (t : List Nod) (o : Opn) (s : List Opn) : doAll t (o :: s) = doAll (doN t o).1 s := rfl
theorem entsF_at : ∀ (t : List Nod) (s : List Opn) (k : Nat) (o : Opn), s[k]? = some o → (entsF t s)[k]? = some ⟨o, (doN (doAll t (s.take k)) o).2⟩
  | _, [], k, o, h => by simp at h
  | t, x :: s, 0, o, h => by simp at h; subst h; rfl
  | t, x :: s, k + 1, o, h => by
    rw [entsF, List.getElem?_cons_succ, entsF_at (doN t x).1 s k o (by simpa using h), List.take_succ_cons, doAll_cons]
theorem ents_at {s : List Opn} {k : Nat} {o : Opn} (h : s[k]? = some o) : (ents s)[k]? = some ⟨o, (doN (doAll [] (s.take k)) o).2⟩ := entsF_at [] s k o h
theorem entsF_append : ∀ (t : List Nod) (a b : List Opn), entsF t (a ++ b) = entsF t a ++ entsF (doAll t a) b
  | _, [], _ => rfl
  | t, o :: a, b => by rw [List.cons_append, entsF, entsF_append, entsF, List.cons_append, doAll_cons]
theorem ents_snoc (s : List Opn) (o : Opn) : ents (s ++ [o]) = ents s ++ [⟨o, (doN (doAll [] s) o).2⟩] := by
  unfold ents
  rw [entsF_append]; rfl
theorem entsF_ops : ∀ (t : List Nod) (s : List Opn), (entsF t s).map (·.o) = s
  | _, [] => rfl
  | t, o :: s => by rw [entsF, List.map_cons, entsF_ops]
theorem ents_ops (s : List Opn) : (ents s).map (·.o) = s := entsF_ops [] s
/-- A log that may be, told by its operations. -/
def Lg (s : List Opn) : Prop := Srt s ∧ ∀ o ∈ s, mayO o = true
theorem lg_nil : Lg [] := ⟨List.Pairwise.nil, fun _ h => by cases h⟩
theorem lg_sort (l : List Opn) : Lg (sortO l) := ⟨sortO_srt l, fun _ h => (sortO_may h).1⟩
theorem srt_one {s : List Opn} (h : Srt s) : OneA s := fun a ha b hb he => by
  obtain ⟨i, hi, rfl⟩ := List.mem_iff_getElem.1 ha
  obtain ⟨j, hj, rfl⟩ := List.mem_iff_getElem.1 hb
  rcases Nat.lt_trichotomy i j with hl | rfl | hl
  · exact absurd he (ltA_ne (List.pairwise_iff_getElem.1 h i j hi hj hl))
  · rfl
  · exact absurd ⟨he.1.symm, he.2.symm⟩ (ltA_ne (List.pairwise_iff_getElem.1 h j i hj hi hl))
theorem sort_lg {s : List Opn} (h : Lg s) : sortO s = s := srt_ext (sortO_srt s) h.1 fun x => by
  rw [sortO_one (srt_one h.1)]
  exact ⟨fun k => k.1, fun k => ⟨k, h.2 x k⟩⟩
def hasS (s : List Opn) (c r : Int) : Bool := s.any fun x => decide (x.c = c ∧ x.r = r)
theorem hasS_iff {s : List Opn} {o : Opn} : hasS s o.c o.r = true ↔ ∃ y ∈ s, eqA y o := by
  unfold hasS eqA
  rw [List.any_eq_true]
  exact ⟨fun ⟨y, hy, h⟩ => ⟨y, hy, of_decide_eq_true h⟩, fun ⟨y, hy, h⟩ => ⟨y, hy, decide_eq_true h⟩⟩
/-- One operation more, and the error that is told. -/
def addL (s : List Opn) (o : Opn) : List Opn × Int :=
  if mayO o then (if hasS s o.c o.r then (s, 0) else if 200 ≤ s.length then (s, 193) else (insS o s, 0)) else (s, 50)
theorem insS_may {o : Opn} {s : List Opn} (hs : Lg s) (ho : mayO o = true) : ∀ x ∈ insS o s, mayO x = true := fun x hx => by
  rcases (insS_mem hs.1).1 hx with h | ⟨rfl, _⟩
  · exact hs.2 x h
  · exact ho
theorem insS_len (o : Opn) : ∀ s : List Opn, (insS o s).length ≤ s.length + 1
  | [] => by simp [insS]
  | y :: r => by
    unfold insS
    split
    · have := insS_len o r
      simp only [List.length_cons]; omega
    · split <;> simp
theorem addL_lg {s : List Opn} (h : Lg s) (o : Opn) : Lg (addL s o).1 := by
  unfold addL
  split
  · rename_i hm
    split
    · exact h
    · split
      · exact h
      · exact ⟨insS_srt o h.1, insS_may h hm⟩
  · exact h
theorem addL_len {s : List Opn} (h : s.length ≤ 200) (o : Opn) : (addL s o).1.length ≤ 200 := by
  unfold addL
  split
  · split
    · exact h
    · split
      · exact h
      · have := insS_len o s; simp only []; omega
  · exact h
theorem addL_more (s : List Opn) (o : Opn) : (addL s o).1.length ≤ s.length + 1 := by
  unfold addL
  split
  · split
    · simp
    · split
      · simp
      · exact insS_len o s
  · simp
theorem sort_add {s : List Opn} (h : Lg s) {o : Opn} (hm : mayO o = true) : sortO (s ++ [o]) = insS o s := by
  rw [sortO_snoc, sort_lg h]; unfold addS; rw [if_pos hm]
theorem addL_room {s : List Opn} (h : Lg s) (hr : s.length < 200) (o : Opn) : addL s o = (addS s o, if mayO o then 0 else 50) := by
  unfold addL addS
  cases hm : mayO o with
  | false => rfl
  | true =>
    simp only [if_true]
    by_cases hh : hasS s o.c o.r = true
    · rw [if_pos hh, insS_has h.1 (hasS_iff.1 hh)]
    · rw [if_neg hh, if_neg (by omega)]
/-- All of them, one by one; and how many told an error. -/
def allL (s : List Opn) (l : List Opn) : List Opn × Nat := l.foldl (fun p o => ((addL p.1 o).1, p.2 + if (addL p.1 o).2 = 0 then 0 else 1)) (s, 0)
theorem allL_snoc (s l : List Opn) (o : Opn) : allL s (l ++ [o]) = ((addL (allL s l).1 o).1, (allL s l).2 + if (addL (allL s l).1 o).2 = 0 then 0 else 1) := by
  unfold allL
  rw [List.foldl_append]; rfl
theorem allL_take {s l : List Opn} {k : Nat} {o : Opn} (h : l[k]? = some o) : allL s (l.take (k + 1)) = ((addL (allL s (l.take k)).1 o).1, (allL s (l.take k)).2 + if (addL (allL s (l.take k)).1 o).2 = 0 then 0 else 1) := by
  rw [List.take_add_one, h]
  exact allL_snoc s _ o
theorem allL_lg {s : List Opn} (h : Lg s) (l : List Opn) : Lg (allL s l).1 := by
  refine list_snoc (P := fun l => Lg (allL s l).1) h (fun l o ih => ?_) l
  rw [allL_snoc]
  exact addL_lg ih o
theorem allL_len {s : List Opn} (h : s.length ≤ 200) (l : List Opn) : (allL s l).1.length ≤ 200 := by
  refine list_snoc (P := fun l => (allL s l).1.length ≤ 200) h (fun l o ih => ?_) l
  rw [allL_snoc]
  exact addL_len ih o
theorem allL_more (s l : List Opn) : (allL s l).1.length ≤ s.length + l.length := by
  refine list_snoc (P := fun l => (allL s l).1.length ≤ s.length + l.length) (by simp [allL]) (fun l o ih => ?_) l
  rw [allL_snoc, List.length_append, List.length_singleton]
  have := addL_more (allL s l).1 o
  simp only []
  omega
theorem allL_num (s l : List Opn) : (allL s l).2 ≤ l.length := by
  refine list_snoc (P := fun l => (allL s l).2 ≤ l.length) (by simp [allL]) (fun l o ih => ?_) l
  rw [allL_snoc, List.length_append, List.length_singleton]
  simp only []
  split <;> omega
def wrongN (l : List Opn) : Nat := (l.filter fun o => !mayO o).length
theorem wrongN_snoc (l : List Opn) (o : Opn) : wrongN (l ++ [o]) = wrongN l + if mayO o then 0 else 1 := by
  unfold wrongN
  rw [List.filter_append, List.length_append]
  cases h : mayO o <;> simp [h]
theorem foldS_lg {s : List Opn} (h : Lg s) (l : List Opn) : Lg (l.foldl addS s) := by
  refine list_snoc (P := fun l => Lg (l.foldl addS s)) h (fun l o ih => ?_) l
  rw [List.foldl_append]
  show Lg (addS (l.foldl addS s) o)
  unfold addS
  split
  · rename_i hm
    exact ⟨insS_srt o ih.1, insS_may ih hm⟩
  · exact ih
theorem allL_room {s : List Opn} (h : Lg s) (l : List Opn) : s.length + l.length ≤ 200 → allL s l = (l.foldl addS s, wrongN l) := by
  refine list_snoc (P := fun l => s.length + l.length ≤ 200 → allL s l = (l.foldl addS s, wrongN l)) (fun _ => rfl) (fun l o ih hr => ?_) l
  rw [List.length_append, List.length_singleton] at hr
  have hi := ih (by omega)
  have hl := allL_more s l
  rw [hi] at hl
  rw [allL_snoc, hi, addL_room (foldS_lg h l) (by simp only [] at hl; omega), List.foldl_append, wrongN_snoc]
  cases mayO o <;> rfl
theorem all_sort {l : List Opn} (h : l.length ≤ 200) : allL [] l = (sortO l, wrongN l) := allL_room lg_nil l (by simpa using h)
theorem sort_more (a b : List Opn) : b.foldl addS (sortO a) = sortO (a ++ b) := by
  unfold sortO
  rw [List.foldl_append]
theorem all_more {a b : List Opn} (h : a.length + b.length ≤ 200) (ha : (sortO a).length ≤ a.length) : allL (sortO a) b = (sortO (a ++ b), wrongN b) := by
  rw [allL_room (lg_sort a) b (by omega), sort_more]
/-- What is there already changes nothing. -/
theorem all_same {s : List Opn} (h : Lg s) : ∀ l : List Opn, (∀ o ∈ l, o ∈ s) → allL s l = (s, 0) := fun l => by
  refine list_snoc (P := fun l => (∀ o ∈ l, o ∈ s) → allL s l = (s, 0)) (fun _ => rfl) (fun l o ih hm => ?_) l
  rw [allL_snoc, ih (fun x hx => hm x (by simp [hx]))]
  have ho := hm o (by simp)
  have hh : hasS s o.c o.r = true := hasS_iff.2 ⟨o, ho, rfl, rfl⟩
  unfold addL
  rw [if_pos (h.2 o ho), if_pos hh]
  rfl
end Go.Proofs.Ytnndanpahcdmaaa
/-
  Logs in memory; the document's Has and Ops.
-/
namespace Go.Proofs.Ytnndanpahcdmaaa
open Go.RowKit Go.Lib
def cellsE (e : Enl) : List Value := [.int .i64 e.o.c, .int .i64 e.o.r, .int .i64 e.o.k, .int .i64 e.o.n, .int .i64 e.o.p, .string e.o.s, .string e.o.d,
  .bool e.u.did, .bool e.u.had, .int .i64 e.u.was.id, .int .i64 e.u.was.p, .string e.u.was.s, .int .i64 e.u.was.mc, .int .i64 e.u.was.mr, .string e.u.was.d, .int .i64 e.u.was.wc, .int .i64 e.u.was.wr]
theorem en_len (e : Enl) : (cellsE e).length = 17 := rfl
theorem en_one (e : Enl) : ∀ u ∈ cellsE e, u.oneCell' = true := fun u hu => by
  simp only [cellsE, List.mem_cons, List.not_mem_nil, or_false] at hu
  rcases hu with rfl | rfl | rfl | rfl | rfl | rfl | rfl | rfl | rfl | rfl | rfl | rfl | rfl | rfl | rfl | rfl | rfl <;> rfl
abbrev EV (e : Enl) : Value := .agg #[.int .i64 e.o.c, .int .i64 e.o.r, .int .i64 e.o.k, .int .i64 e.o.n, .int .i64 e.o.p, .string e.o.s, .string e.o.d,
  .bool e.u.did, .bool e.u.had, .int .i64 e.u.was.id, .int .i64 e.u.was.p, .string e.u.was.s, .int .i64 e.u.was.mc, .int .i64 e.u.was.mr, .string e.u.was.d, .int .i64 e.u.was.wc, .int .i64 e.u.was.wr]
abbrev IsEn (w : World) (a : Option Addr) (c : Nat) (l : List Enl) : Prop := IsR cellsE 17 w a c l
abbrev OwnEn (B : Nat) (l : List Enl) (v : Value) (w : World) : Prop := OwnR cellsE 17 B l v w
/-- What a log that is read holds. -/
def IsLg (w : World) (a : Option Addr) (c : Nat) (b : Option Addr) (d : Nat) (s : List Opn) : Prop := IsEn w a c (ents s) ∧ IsNd w b d (doAll [] s)
theorem IsLg.below {w w' : World} {a b : Option Addr} {c d : Nat} {s : List Opn} (h : IsLg w a c b d s) (hb : Below w.heap.size w w') : IsLg w' a c b d s := ⟨IsR.below h.1 hb, IsR.below h.2 hb⟩
abbrev LV (a : Option Addr) (c : Nat) (b : Option Addr) (d : Nat) (s : List Opn) : Value := .agg #[.slice a s.length c, .slice b (doAll [] s).length d]
/-- The cells of an entry, at its place. -/
def AtE (w : World) (b off : Nat) (e : Enl) : Prop := AtC (cellsE e) w b off
theorem IsR.ent {w : World} {a : Option Addr} {c : Nat} {l : List Enl} (h : IsEn w a c l) {k : Nat} {x : Enl} (hx : l[k]? = some x) : ∃ b o, a = some ⟨b, o, none⟩ ∧ b < w.heap.size ∧ ∀ j y, l[j]? = some y → AtE w b (o + j * 17) y := by
  have hne : l ≠ [] := by intro e; subst e; simp at hx
  exact h.2.2 hne
theorem atE_op {w : World} {b off : Nat} {e : Enl} (h : AtE w b off e) : AtOp w b off e.o := ⟨h 0 _ rfl, h 1 _ rfl, h 2 _ rfl, h 3 _ rfl, h 4 _ rfl, h 5 _ rfl, h 6 _ rfl⟩
set_option maxRecDepth 100000 in
set_option maxHeartbeats 2000000 in
theorem rhas_any (a : Option Addr) (c : Nat) (b : Option Addr) (d : Nat) (s : List Opn) (x y : Int) (w : World) (h : IsLg w a c b d s) (hl : s.length ≤ 100000) :
    Calls Try.prog 17 #[LV a c b d s, .agg #[.int .i64 x, .int .i64 y]] w fun e w' => e = .returned (.bool (hasS s x y)) ∧ Below w.heap.size w w' := by
  have HI := Lib.hid h.1
  have HN := Lib.hid (ents_len s)
  obtain ⟨n, hn⟩ : ∃ n, (doAll [] s).length = n := ⟨_, rfl⟩
  change Calls _ _ #[.agg #[.slice a s.length c, .slice b (doAll [] s).length d], .agg #[.int .i64 x, .int .i64 y]] _ _
  rw [hn]
  clear h hn
  have G0 := Lib.hid ((cells_new w [.slice a s.length c, .slice b n d] 32).below (below_alloc _ (.cells #[.int .i64 x, .int .i64 y] 24)))
  have T0 := cells_new (w.alloc (.cells #[.slice a s.length c, .slice b n d] 32)) [.int .i64 x, .int .i64 y] 24
  rw [show (w.alloc (.cells #[.slice a s.length c, .slice b n d] 32)).heap.size = w.heap.size + 1 by simp] at T0
  have HT0 := Lib.hid T0
  clear T0
  have bA := ((Below.refl w.heap.size w).alloc (Nat.le_refl _) (.cells #[.slice a s.length c, .slice b n d] 32)).alloc (by simp) (.cells #[.int .i64 x, .int .i64 y] 24)
  go_enter Try.func17, Try.ntmps17
  go_wp2
  go_loopw [5] (fun u w' => ∃ k : Nat, k ≤ s.length ∧ u = .int .i64 k ∧ hasS (s.take k) x y = false ∧ Below ((w.alloc (.cells #[.slice a s.length c, .slice b n d] 32)).alloc (.cells #[.int .i64 x, .int .i64 y] 24)).heap.size ((w.alloc (.cells #[.slice a s.length c, .slice b n d] 32)).alloc (.cells #[.int .i64 x, .int .i64 y] 24)) w') (fun u _ => s.length - (RowKit.intOf u).toNat)
  case atStart => exact ⟨0, Nat.zero_le _, rfl, rfl, Below.refl _ _⟩
  case round =>
    obtain ⟨k, hk, rfl, hf, ck⟩ := hrel
    have HF := Lib.hid hf
    have ckw := bA.trans (ck.mono bA.size)
    have G := Lib.hid (G0.out.below ck)
    have T := Lib.hid (HT0.out.below ck)
    have g0 := G.out.cell 0 _ rfl
    have g1 := G.out.cell 1 _ rfl
    have t0 := T.out.cell 0 _ rfl
    have t1 := T.out.cell 1 _ rfl
    clear hf
    by_cases hks : k < s.length
    · obtain ⟨o, ho⟩ : ∃ o, s[k]? = some o := ⟨s[k], List.getElem?_eq_getElem hks⟩
      obtain ⟨g, off, rfl, hlt, hc⟩ := (IsR.below HI.out (bA.trans (ck.mono bA.size))).ent (ents_at ho)
      obtain ⟨m0, m1, m2, m3, m4, m5, m6⟩ := atE_op (hc k _ (ents_at ho))
      simp only [] at m0 m1 m2 m3 m4 m5 m6
      have hks2 : (k : Int) < (s.length : Int) := by omega
      have HS := Lib.hid (show hasS (s.take (k + 1)) x y = (hasS (s.take k) x y || decide (o.c = x ∧ o.r = y)) by
        unfold hasS
        rw [List.take_add_one, ho, List.any_append]; simp)
      have HY := Lib.hid (show o.c = x → o.r = y → hasS s x y = true from fun e1 e2 => by
        unfold hasS
        rw [List.any_eq_true]
        exact ⟨o, List.mem_of_getElem? ho, decide_eq_true ⟨e1, e2⟩⟩)
      clear hc ho
      have glt := G.out.lt
      have tlt := T.out.lt
      by_cases e1 : o.c = x
      · have d1 : (o.c == x) = true := beq_iff_eq.2 e1
        by_cases e2 : o.r = y
        · have d2 : (o.r == y) = true := beq_iff_eq.2 e2
          have HV := Lib.hid (HY.out e1 e2)
          clear e1 e2
          go_wp2_with fail
          refine wp_region_later (by kernel_rfl) (by kernel_rfl) (fun hL => ?_)
          repeat (go_big_quiet_step (fail))
          intro w5 hw
          have ck5 := ck.trans ((later_out hw).mono ck.size)
          clear hw hL
          go_wp2_with fail
          go_ret
          exact ⟨by rw [HV.out]; rfl, bA.trans (ck5.mono bA.size)⟩
        · have d2 : (o.r == y) = false := beq_eq_false_iff_ne.2 e2
          have HE := Lib.hid (show ¬ (o.c = x ∧ o.r = y) from fun h => e2 h.2)
          clear e1 e2
          go_wp2_with fail
          refine wp_region_later (by kernel_rfl) (by kernel_rfl) (fun hL => ?_)
          repeat (go_big_quiet_step (fail))
          intro w5 hw
          have ck5 := ck.trans ((later_out hw).mono ck.size)
          clear hw hL
          go_wp2_with fail
          go_roundw
          case rel => exact ⟨k + 1, by omega, by go_num, by rw [HS.out, HF.out, decide_eq_false HE.out]; rfl, ck5⟩
          case measure => simp [RowKit.intOf]; omega
      · have d1 : (o.c == x) = false := beq_eq_false_iff_ne.2 e1
        have HE := Lib.hid (show ¬ (o.c = x ∧ o.r = y) from fun h => e1 h.1)
        clear e1
        go_wp2_with fail
        refine wp_region_later (by kernel_rfl) (by kernel_rfl) (fun hL => ?_)
        repeat (go_big_quiet_step (fail))
        intro w5 hw
        have ck5 := ck.trans ((later_out hw).mono ck.size)
        clear hw hL
        go_wp2_with fail
        go_roundw
        case rel => exact ⟨k + 1, by omega, by go_num, by rw [HS.out, HF.out, decide_eq_false HE.out]; rfl, ck5⟩
        case measure => simp [RowKit.intOf]; omega
    · have hke : k = s.length := by omega
      have hks2 : ¬ (k : Int) < (s.length : Int) := by omega
      have HV := Lib.hid (show hasS s x y = false by rw [← HF.out, hke, List.take_length])
      go_wp2_with fail
      go_ret
      exact ⟨by rw [HV.out]; rfl, ckw⟩
set_option maxRecDepth 100000 in
set_option maxHeartbeats 2000000 in
theorem rops_any (a : Option Addr) (c : Nat) (b : Option Addr) (d : Nat) (s : List Opn) (w : World) (h : IsLg w a c b d s) (hl : s.length ≤ 100000) :
    Calls Try.prog 20 #[LV a c b d s] w fun e w' => ∃ v, e = .returned v ∧ OwnOp w.heap.size s v w' ∧ Below w.heap.size w w' := by
  obtain ⟨iO, hiO, hzO, hszO, hbyO⟩ := info_parts infoOp
  have HI := Lib.hid h.1
  obtain ⟨n, hn⟩ : ∃ n, (doAll [] s).length = n := ⟨_, rfl⟩
  change Calls _ _ #[.agg #[.slice a s.length c, .slice b (doAll [] s).length d]] _ _
  rw [hn]
  clear h hn
  have G0 := Lib.hid (cells_new w [.slice a s.length c, .slice b n d] 32)
  have bA := (Below.refl w.heap.size w).alloc (Nat.le_refl _) (.cells #[.slice a s.length c, .slice b n d] 32)
  go_enter Try.func20, Try.ntmps20
  go_wp2
  go_loopw [3, 4] (fun v u w' => ∃ k : Nat, k ≤ s.length ∧ u = .int .i64 k ∧ OwnOp (w.heap.size + 1) (s.take k) v w' ∧ Below (w.heap.size + 1) (w.alloc (.cells #[.slice a s.length c, .slice b n d] 32)) w') (fun _ u _ => s.length - (RowKit.intOf u).toNat)
  case atStart => exact ⟨0, Nat.zero_le _, rfl, by rw [List.take_zero]; exact ownR_nil _ _ _ _, Below.refl _ _⟩
  case round =>
    obtain ⟨k, hk, rfl, ho, ck⟩ := hrel
    have HO := Lib.hid ho
    have ckw := bA.trans (ck.mono (Nat.le_succ _))
    have G := Lib.hid (G0.out.belowN (Nat.lt_succ_self _) ck)
    have g0 := G.out.cell 0 _ rfl
    have glt := G.out.lt
    clear ho
    by_cases hks : k < s.length
    · obtain ⟨o, ho⟩ : ∃ o, s[k]? = some o := ⟨s[k], List.getElem?_eq_getElem hks⟩
      obtain ⟨g, off, rfl, hlt, hc⟩ := (IsR.below HI.out ckw).ent (ents_at ho)
      obtain ⟨m0, m1, m2, m3, m4, m5, m6⟩ := atE_op (hc k _ (ents_at ho))
      simp only [] at m0 m1 m2 m3 m4 m5 m6
      have hks2 : (k : Int) < (s.length : Int) := by omega
      have HT := Lib.hid (show s.take (k + 1) = s.take k ++ [o] by rw [List.take_add_one, ho]; rfl)
      have hkl : (s.take k).length ≤ 100000 := by rw [List.length_take]; omega
      clear hc ho
      obtain ⟨ls, hls⟩ : ∃ x, s.take k = x := ⟨_, rfl⟩
      rw [hls] at HO HT hkl
      have hAt : AtC (cellsOp o) (wr.alloc (.cells #[.int .i64 o.c, .int .i64 o.r, .int .i64 o.k, .int .i64 o.n, .int .i64 o.p, .string o.s, .string o.d] 26)) wr.heap.size 0 := atC_new wr #[.int .i64 o.c, .int .i64 o.r, .int .i64 o.k, .int .i64 o.n, .int .i64 o.p, .string o.s, .string o.d] 26
      have HAt := Lib.hid hAt
      have q0 := below_alloc wr (.cells #[.int .i64 o.c, .int .i64 o.r, .int .i64 o.k, .int .i64 o.n, .int .i64 o.p, .string o.s, .string o.d] 26)
      have qs := q0.size
      have cks := ck.size
      rw [show (w.alloc (.cells #[.slice (some ⟨g, off, none⟩) s.length c, .slice b n d] 32)).heap.size = w.heap.size + 1 by simp] at cks
      clear hls hAt
      go_wp2_with (at_builtin; refine wpList_append_rec cellsOp rfl _ _ 22 rfl (w.heap.size + 1) 26 iO _ 72 Try.underlying22 hiO hzO hszO hbyO rfl _ ls [o] rfl (HO.out.below q0) _ rfl (src_one op_len op_one Try.underlying22 HAt.out) ?c1 ?c2 ?c3 ?_)
      case c1 => unfold maxLen; simp; omega
      case c2 => simp; omega
      case c3 => omega
      intro v3 w3 ho3 c3
      have b3 := (ck.trans (q0.mono cks)).trans c3
      go_wp2_with fail
      go_roundw
      case rel => exact ⟨k + 1, by omega, by go_num, by rw [HT.out]; exact ho3, b3⟩
      case measure => simp [RowKit.intOf]; omega
    · have hke : k = s.length := by omega
      have hks2 : ¬ (k : Int) < (s.length : Int) := by omega
      rw [hke, List.take_length] at HO
      go_wp2_with fail
      go_ret
      have HO2 := Lib.hid (OwnR.mono HO.out (Nat.le_succ _))
      exact ⟨_, rfl, HO2.out, ckw⟩
end Go.Proofs.Ytnndanpahcdmaaa
/-
  A REGION THAT DRAWS ITS ORDER: the first n operations as in Rel (they make memory, change none that was there, and hand on what they made), the others behind them in the order of the text (a store, say). One operation of the first that only takes a part of a value (late) may come up behind the first one of the others.
-/
namespace Go.Proofs.Ytnndanpahcdmaaa
open Go.RowKit Go.Lib
structure SplOk (ops : Array Oper) (n : Nat) (late : Option Nat) : Prop where
  le : n ≤ ops.size
  ahead : ∀ (k : Nat) (o : Oper), ops[k]? = some o → ∀ j ∈ waits o, j < k
  guards : ∀ (k : Nat) (o : Oper) g b, k < n → ops[k]? = some o → o.guard = some (g, b) → g < n
  tail1 : ∀ (t : Nat) (o : Oper), n ≤ t → ops[t]? = some o → ∀ j, j < n → gone ops 4 t j = true ∨ (t = n ∧ late = some j)
  tail2 : ∀ (t : Nat) (o : Oper), n ≤ t → ops[t]? = some o → ∀ j, n ≤ j → j < t → gone ops 4 t j = true
def splB (ops : Array Oper) (n : Nat) (late : Option Nat) : Bool :=
  decide (n ≤ ops.size) && (List.range ops.size).all fun k => match ops[k]? with
    | none => true
    | some o => ((waits o).all fun j => decide (j < k)) && (match o.guard with | some (g, _) => decide (n ≤ k) || decide (g < n) | none => true) &&
      (decide (k < n) || (List.range k).all fun j => gone ops 4 k j || (decide (j < n) && decide (k = n) && decide (late = some j)))
theorem SplOk.of {ops : Array Oper} {n : Nat} {late : Option Nat} (h : splB ops n late = true) : SplOk ops n late := by
  unfold splB at h
  rw [Bool.and_eq_true, List.all_eq_true, decide_eq_true_eq] at h
  obtain ⟨hn, h⟩ := h
  have key : ∀ (k : Nat) (o : Oper), ops[k]? = some o → _ := fun k o ho => by
    have := h k (List.mem_range.2 (Array.getElem?_eq_some_iff.1 ho).1)
    simp only [ho, Bool.and_eq_true, List.all_eq_true, decide_eq_true_eq, Bool.or_eq_true] at this
    exact this
  refine ⟨hn, fun k o ho j hj => (key k o ho).1.1 j hj, fun k o g b hk ho hg => ?_, fun t o ht ho j hj => ?_, fun t o ht ho j hj hjt => ?_⟩
  · have := (key k o ho).1.2
    rw [hg] at this
    simp only [Bool.or_eq_true, decide_eq_true_eq] at this
    omega
  · rcases (key t o ho).2 with h1 | h1
    · omega
    · rcases h1 j (List.mem_range.2 (by omega)) with h2 | h2
      · exact .inl h2
      · exact .inr ⟨h2.1.2, h2.2⟩
  · rcases (key t o ho).2 with h1 | h1
    · omega
    · rcases h1 j (List.mem_range.2 hjt) with h2 | h2
      · exact h2
      · omega
/-- The operations behind, one by one. -/
theorem wpAny_tail2 {P : Program} {ops : Array Oper} {n : Nat} {late : Option Nat} (ok : SplOk ops n late) {Q : Exit → Act → World → Prop} : ∀ (fuel : Nat) (listed : Array Bool) (a : Act) (w : World) (q : Nat), n ≤ q → q ≤ ops.size → listed.size = ops.size → (∀ j, j < ops.size → (listed.getD j true = true ↔ j < q)) →
    left ops listed ≤ fuel → wpList P ops Q (ops.toList.drop q) a w → wpAny P .any ops Q fuel listed a w := by
  have only : ∀ (listed : Array Bool) (q : Nat), n ≤ q → listed.size = ops.size → (∀ j, j < ops.size → (listed.getD j true = true ↔ j < q)) → ∀ k ∈ Region.ready .any ops listed, k = q := fun listed q hq hls hli k hk => by
    obtain ⟨hun, o, ho, hall⟩ := mem_ready.1 hk
    have hks := (Array.getElem?_eq_some_iff.1 ho).1
    have hnk : q ≤ k := by
      rcases Nat.lt_or_ge k q with h | h
      · rw [(hli k hks).2 h] at hun; cases hun
      · exact h
    rcases Nat.lt_or_ge q k with h | h
    · exfalso
      have hwa : ∀ j ∈ waits o, listed.getD j true = true := fun j hj => by
        unfold waits at hj
        obtain ⟨ed, hed, he⟩ := List.mem_map.1 hj
        rw [List.mem_filter] at hed
        have hq2 := hall ed (by simpa using hed.1) hed.2
        rw [he] at hq2
        by_cases hjs : j < listed.size
        · simp [hjs] at hq2 ⊢
          exact hq2
        · simp [hjs]
      have h1 : listed.getD q true = true := gone_listed (fun i p hp hli2 j hj => by
        have his := (Array.getElem?_eq_some_iff.1 hp).1
        have h3 := (hli i his).1 hli2
        have h4 := ok.ahead i p hp j hj
        exact (hli j (by omega)).2 (by omega)) 4 k q o ho hwa (ok.tail2 k o (by omega) ho q (by omega) h)
      have := (hli q (by omega)).1 h1
      omega
    · omega
  have fin : ∀ (listed : Array Bool) (a : Act) (w : World) (q : Nat), n ≤ q → q ≤ ops.size → listed.size = ops.size → (∀ j, j < ops.size → (listed.getD j true = true ↔ j < q)) → wpList P ops Q (ops.toList.drop q) a w → Region.ready .any ops listed = [] → Q .normal a w := fun listed a w q hq hqs hls hli h hr => by
    have e : q = ops.size := by
      rcases Nat.lt_or_ge q ops.size with h1 | h1
      · exfalso
        have hun : listed.getD q true = false := by
          cases hb : listed.getD q true with
          | false => rfl
          | true => have := (hli q h1).1 hb; omega
        have : q ∈ Region.ready .any ops listed := mem_ready.2 ⟨hun, ops[q], Array.getElem?_eq_getElem h1, fun e he hbd => by
          have hj : e.on ∈ waits ops[q] := List.mem_map.2 ⟨e, List.mem_filter.2 ⟨by simpa using he, hbd⟩, rfl⟩
          have hlt : e.on < q := by
            rcases Nat.lt_or_ge e.on q with h3 | h3
            · exact h3
            · exfalso
              -- what waits waits for what stands ahead
              exact absurd (ok.ahead q ops[q] (Array.getElem?_eq_getElem h1) e.on hj) (by omega)
          have h2 := (hli e.on (by omega)).2 hlt
          have hs : e.on < listed.size := by omega
          simp [hs] at h2 ⊢
          exact h2⟩
        rw [hr] at this; cases this
      · omega
    subst e
    rw [List.drop_of_length_le (by simp)] at h
    exact h
  intro fuel
  induction fuel with
  | zero =>
    intro listed a w q hq hqs hls hli hle h
    have hr : Region.ready .any ops listed = [] := by
      rw [List.eq_nil_iff_forall_not_mem]
      intro k hk
      obtain ⟨hun, o, ho, _⟩ := mem_ready.1 hk
      have := left_step (Array.getElem?_eq_some_iff.1 ho).1 hls hun
      omega
    exact ⟨hr, fin listed a w q hq hqs hls hli h hr⟩
  | succ fuel ih =>
    intro listed a w q hq hqs hls hli hle h
    refine ⟨fin listed a w q hq hqs hls hli h, fun k hk => ?_⟩
    obtain rfl := only listed q hq hls hli k hk
    obtain ⟨hun, o, ho, _⟩ := mem_ready.1 hk
    have hks := (Array.getElem?_eq_some_iff.1 ho).1
    have hl2 := left_step hks hls hun
    have hdrop : ops.toList.drop k = o :: ops.toList.drop (k + 1) := by
      rw [List.drop_eq_getElem_cons (by simpa using hks)]
      congr 1
      have := (Array.getElem?_eq_some_iff.1 ho).2
      simpa using this
    have next : ∀ a' w', wpList P ops Q (ops.toList.drop (k + 1)) a' w' → wpAny P .any ops Q fuel (listed.setIfInBounds k true) a' w' := fun a' w' h' => by
      refine ih (listed.setIfInBounds k true) a' w' (k + 1) (by omega) (by omega) (by simp [hls]) (fun j hj => ?_) (by omega) h'
      by_cases hjk : j = k
      · subst hjk; simp [hls, hj]
      · rw [getD_set_ne true (Ne.symm hjk), hli j hj]; omega
    rw [hdrop] at h
    unfold wpList at h
    unfold wpOp
    simp only [ho]
    split
    · rename_i hwd
      rw [if_pos hwd] at h
      rcases h with h | h
      · exact .inl (Oper.wp_mono next h)
      · exact .inr h
    · rename_i hwd
      rw [if_neg hwd] at h
      exact next _ _ h
/-- All that an operation that may come up waits for has come up. -/
theorem ready_waits {listed : Array Bool} {o : Oper} (hall : ∀ e ∈ o.after, Region.binds .any e = true → listed.getD e.on false = true) : ∀ j ∈ waits o, listed.getD j true = true := fun j hj => by
  unfold waits at hj
  obtain ⟨ed, hed, he⟩ := List.mem_map.1 hj
  rw [List.mem_filter] at hed
  have hq2 := hall ed (by simpa using hed.1) hed.2
  rw [he] at hq2
  by_cases hjs : j < listed.size
  · simp [hjs] at hq2 ⊢
    exact hq2
  · simp [hjs]
theorem waits_ready {listed : Array Bool} {o : Oper} (hw : ∀ j ∈ waits o, j < listed.size ∧ listed.getD j true = true) : ∀ e ∈ o.after, Region.binds .any e = true → listed.getD e.on false = true := fun e he hb => by
  have hj : e.on ∈ waits o := List.mem_map.2 ⟨e, List.mem_filter.2 ⟨by simpa using he, hb⟩, rfl⟩
  obtain ⟨h1, h2⟩ := hw e.on hj
  simp [h1] at h2 ⊢
  exact h2
/-- What is to be shown behind the first operations. -/
def Behind (T : Act → World → Prop) (Q : Exit → Act → World → Prop) : Exit → Act → World → Prop
  | .normal, a, w => T a w
  | e, a, w => Q e a w
theorem behind_lets {T : Act → World → Prop} {Q : Exit → Act → World → Prop} (h : LetsOut (Behind T Q)) : LetsOut Q := h
theorem behind_wp {P : Program} {o : Oper} {a : Act} {w : World} {T K : Act → World → Prop} {Q : Exit → Act → World → Prop} (h : o.wp P a w K (Behind T Q)) : o.wp P a w K Q := by
  unfold Oper.wp at *
  generalize (execOp a.eval o).run P w = r at *
  cases r with
  | ok n w' =>
    cases n <;> simp only [Oper.upon] at h ⊢ <;>
      first
        | exact h
        | exact Calls.mono h (fun e w'' he => by cases e <;> exact he)
  | halt x w' => cases x <;> simp only [Oper.upon] at h ⊢ <;> exact h
theorem split_at {P : Program} {ops pre : Array Oper} {n : Nat} (ok : SplOk ops n none) {T : Act → World → Prop} {Q : Exit → Act → World → Prop} (hps : pre.size = n) (hpre : ∀ k, k < n → pre[k]? = ops[k]?)
    (hT : ∀ a w, T a w → wpList P ops Q (ops.toList.drop n) a w) :
    ∀ (fuel' fuel : Nat) (listed' listed : Array Bool) (a : Act) (w : World), listed.size = ops.size → listed'.size = n → (∀ j, j < n → listed'.getD j true = listed.getD j true) → (∀ j, n ≤ j → j < ops.size → listed.getD j true = false) →
      (∀ (i : Nat) (p : Oper), ops[i]? = some p → listed.getD i true = true → ∀ j ∈ waits p, listed.getD j true = true) →
      left ops listed ≤ fuel → wpAny P .any pre (Behind T Q) fuel' listed' a w → wpAny P .any ops Q fuel listed a w := by
  have hle := ok.le
  -- what may come up of the first operations
  have both : ∀ (listed' listed : Array Bool), listed.size = ops.size → listed'.size = n → (∀ j, j < n → listed'.getD j true = listed.getD j true) → ∀ k, k < n → (k ∈ Region.ready .any ops listed ↔ k ∈ Region.ready .any pre listed') := fun listed' listed hls hls' heq k hk => by
    have tr : ∀ (x y : Array Bool), x.size ≥ n → y.size ≥ n → (∀ j, j < n → x.getD j true = y.getD j true) → ∀ o, ops[k]? = some o → (∀ e ∈ o.after, Region.binds .any e = true → x.getD e.on false = true) → ∀ e ∈ o.after, Region.binds .any e = true → y.getD e.on false = true := fun x y hx hy hxy o ho hall => by
      refine waits_ready fun j hj => ?_
      have h1 := ok.ahead k o ho j hj
      exact ⟨by omega, by rw [← hxy j (by omega)]; exact ready_waits hall j hj⟩
    rw [mem_ready, mem_ready, hpre k hk, heq k hk]
    constructor
    · rintro ⟨h1, o, ho, h2⟩
      exact ⟨h1, o, ho, tr listed listed' (by omega) (by omega) (fun j hj => (heq j hj).symm) o ho h2⟩
    · rintro ⟨h1, o, ho, h2⟩
      exact ⟨h1, o, ho, tr listed' listed (by omega) (by omega) heq o ho h2⟩
  -- if none of them may come up, all have
  have full : ∀ (listed' listed : Array Bool), listed.size = ops.size → listed'.size = n → (∀ j, j < n → listed'.getD j true = listed.getD j true) → Region.ready .any pre listed' = [] → ∀ k, k < n → listed.getD k true = true := fun listed' listed hls hls' heq hr k => by
    induction k using Nat.strongRecOn with
    | _ k ih =>
      intro hk
      cases hb : listed.getD k true with
      | true => rfl
      | false =>
        exfalso
        have : k ∈ Region.ready .any ops listed := mem_ready.2 ⟨hb, ops[k], Array.getElem?_eq_getElem (by omega), waits_ready fun j hj => by
          have h1 := ok.ahead k _ (Array.getElem?_eq_getElem (by omega)) j hj
          exact ⟨by omega, ih j h1 (by omega)⟩⟩
        rw [both listed' listed hls hls' heq k hk, hr] at this
        cases this
  -- what stands behind comes up when all of them have
  have late : ∀ (listed : Array Bool), listed.size = ops.size → (∀ (i : Nat) (p : Oper), ops[i]? = some p → listed.getD i true = true → ∀ j ∈ waits p, listed.getD j true = true) → ∀ k, n ≤ k → k ∈ Region.ready .any ops listed → ∀ j, j < n → listed.getD j true = true := fun listed hls hcl k hnk hk j hj => by
    obtain ⟨_, o, ho, hall⟩ := mem_ready.1 hk
    rcases ok.tail1 k o hnk ho j hj with h | ⟨_, h⟩
    · exact gone_listed hcl 4 k j o ho (ready_waits hall) h
    · cases h
  have turn : ∀ (fuel : Nat) (listed' listed : Array Bool) (a : Act) (w : World), listed.size = ops.size → listed'.size = n → (∀ j, j < n → listed'.getD j true = listed.getD j true) → (∀ j, n ≤ j → j < ops.size → listed.getD j true = false) → left ops listed ≤ fuel →
      Region.ready .any pre listed' = [] → T a w → wpAny P .any ops Q fuel listed a w := fun fuel listed' listed a w hls hls' heq hno hl hr ht =>
    wpAny_tail2 ok fuel listed a w n (Nat.le_refl _) hle hls (fun j hj => ⟨fun h => (by
      rcases Nat.lt_or_ge j n with h1 | h1
      · exact h1
      · rw [hno j h1 hj] at h; cases h), fun h => full listed' listed hls hls' heq hr j h⟩) hl (hT a w ht)
  intro fuel'
  induction fuel' with
  | zero =>
    intro fuel listed' listed a w hls hls' heq hno hcl hl h
    exact turn fuel listed' listed a w hls hls' heq hno hl h.1 h.2
  | succ f ih =>
    intro fuel listed' listed a w hls hls' heq hno hcl hl h
    by_cases hr : Region.ready .any pre listed' = []
    · exact turn fuel listed' listed a w hls hls' heq hno hl hr (h.1 hr)
    · obtain ⟨q, hq⟩ := List.exists_mem_of_ne_nil _ hr
      obtain ⟨hqf, oq, hoq, _⟩ := mem_ready.1 hq
      have hqn : q < n := by have := (Array.getElem?_eq_some_iff.1 hoq).1; omega
      have hq2 := (both listed' listed hls hls' heq q hqn).2 hq
      have hql : listed.getD q true = false := by rw [← heq q hqn]; exact hqf
      cases fuel with
      | zero =>
        have := left_step (by omega : q < ops.size) hls hql
        omega
      | succ fuel2 =>
        refine ⟨fun e => (by rw [e] at hq2; cases hq2), fun k hk => ?_⟩
        have hkn : k < n := by
          rcases Nat.lt_or_ge k n with h1 | h1
          · exact h1
          · have := late listed hls hcl k h1 hk q hqn
            rw [hql] at this; cases this
        obtain ⟨hkf, o, ho, hall⟩ := mem_ready.1 hk
        have hks : k < ops.size := (Array.getElem?_eq_some_iff.1 ho).1
        have hk' := h.2 k ((both listed' listed hls hls' heq k hkn).1 hk)
        have hl2 := left_step hks hls hkf
        have next : ∀ a' w', wpAny P .any pre (Behind T Q) f (listed'.setIfInBounds k true) a' w' → wpAny P .any ops Q fuel2 (listed.setIfInBounds k true) a' w' := fun a' w' h' => by
          refine ih fuel2 _ _ a' w' (by simp [hls]) (by simp [hls']) (fun j hj => ?_) (fun j hj hjs => ?_) (fun i p hp hi j hj => ?_) (by omega) h'
          · by_cases hjk : j = k
            · subst hjk; simp [hls', hls, hj, hks]
            · rw [getD_set_ne true (Ne.symm hjk), getD_set_ne true (Ne.symm hjk)]; exact heq j hj
          · rw [getD_set_ne true (by omega)]; exact hno j hj hjs
          · by_cases hjk : j = k
            · subst hjk; simp [hls, hks]
            · rw [getD_set_ne true (Ne.symm hjk)]
              by_cases hik : i = k
              · subst hik
                rw [ho] at hp; cases hp
                exact ready_waits hall j hj
              · rw [getD_set_ne true (Ne.symm hik)] at hi
                exact hcl i p hp hi j hj
        unfold wpOp at hk' ⊢
        rw [hpre k hkn] at hk'
        simp only [ho] at hk' ⊢
        have hwan : Region.wanted o (yielded pre a.tmps) = Region.wanted o (yielded ops a.tmps) := by
          unfold Region.wanted
          cases hg : o.guard with
          | none => rfl
          | some gw =>
            obtain ⟨g, want⟩ := gw
            have hgn := ok.guards k o g want hkn ho hg
            have hy : yielded pre a.tmps g = yielded ops a.tmps g := by unfold yielded; rw [hpre g hgn]
            simp only [hy]
        rw [hwan] at hk'
        split
        · rename_i hwd
          rw [if_pos hwd] at hk'
          rcases hk' with h1 | h1
          · exact .inl (Oper.wp_mono next (behind_wp h1))
          · exact .inr ⟨h1.1, behind_lets h1.2⟩
        · rename_i hwd
          rw [if_neg hwd] at hk'
          exact next _ _ hk'
/-- **The first n operations by one walk in the order of the text (wpR), the others behind them.** -/
theorem wp_region_rt {P : Program} {id : Nat} {Q : Exit → Act → World → Prop} {a : Act} {W : World} {l : List Oper} (n : Nat) (hm : P.follows .mixedOrders = true) (hB : relB (l.take n).toArray a.tmps.size = true) (hS : splB l.toArray n none = true)
    (h : wpR P (l.take n).toArray W (fun a' w' => wpList P l.toArray Q (l.drop n) a' w') (l.take n) 0 [] (fun _ => a)) : (Code.region id l.toArray true).wp P Q a W := by
  have ok := SplOk.of hS
  have hle : n ≤ l.length := by have := ok.le; simpa using this
  obtain ⟨es, hl, _, hob, hend⟩ := wpRel_out (P := P) (ops := (l.take n).toArray) (W := W) (a0 := a) (l.take n) [] (fun _ => a) (fun j => by simp) (fun _ => rfl) (wpRel_of (l.take n) 0 [] _ [] rfl (fun _ h => by cases h) h)
  have hps : (l.take n).toArray.size = n := by simp; omega
  have hes : es.length = (l.take n).toArray.size := by simpa using hl
  have ok2 := RelOk.of hB
  have hno : ∀ (m j : Nat), j < m → (Array.replicate m false).getD j true = false := fun m j hj => by simp [hj]
  have hno2 : ∀ (m : Nat) (xs : Array Oper) (j : Nat) (o : Oper), xs.size = m → xs[j]? = some o → (Array.replicate m false).getD j true = true → False := fun m xs j o hx ho h => by
    rw [hno m j (by have := (Array.getElem?_eq_some_iff.1 ho).1; omega)] at h; cases h
  have hA : wpAny P .any (l.take n).toArray (Behind (fun a' w' => wpList P l.toArray Q (l.drop n) a' w') Q) n (Array.replicate n false) a { W with drawn := W.drawn + 1 } := by
    refine wpAny_rel ok2 rfl hes (fun k o e ho he => hob k o e (Nat.zero_le _) (by rw [Array.getElem?_toList]; exact ho) he) hend _ _ _ _ ?_ ?_
    · exact ⟨by simp; omega, fun i p hp h => (hno2 n _ i p hps hp h).elim, rfl, rfl, fun _ _ => rfl, fun j o e t ho _ h _ => (hno2 n _ j o hps ho h).elim, (Below.refl _ _).drew⟩
    · unfold left
      exact Nat.le_trans (List.length_filter_le _ _) (by simp; omega)
  refine wp_region_any hm (split_at ok hps (fun k hk => by simp [hk]) (fun a w h => by simpa using h) _ _ _ _ _ _ (by simp) (by simp) (fun j hj => ?_) (fun j _ hj => hno _ j (by simpa using hj)) (fun i p hp h => (hno2 _ _ i p rfl hp h).elim) ?_ hA)
  · rw [hno n j hj, hno _ j (by simp; omega)]
  · unfold left
    exact Nat.le_trans (List.length_filter_le _ _) (by simp)
end Go.Proofs.Ytnndanpahcdmaaa
/-
  Logs: the document's done.
-/
namespace Go.Proofs.Ytnndanpahcdmaaa
open Go.RowKit Go.Lib
theorem infoE : (Try.prog.info? 49).map (fun i => (i.zero, i.size, i.bytes)) = some (some (.agg #[.int .i64 0, .int .i64 0, .int .i64 0, .int .i64 0, .int .i64 0, .string ByteArray.empty, .string ByteArray.empty, .bool false, .bool false, .int .i64 0, .int .i64 0, .string ByteArray.empty, .int .i64 0, .int .i64 0, .string ByteArray.empty, .int .i64 0, .int .i64 0]), 17, 160) := by kernel_rfl
/-- The nodes lie in another block than the entries. -/
def ApartB (v : Value) (b : Option Addr) : Prop := ∀ g g' o, v.ownBlock = some g → b = some ⟨g', o, none⟩ → g' ≠ g
/-- Nodes that were given, or are in memory that was made on the way. -/
def NewOr (B : Nat) (w : World) (b b0 : Option Addr) : Prop := b = b0 ∨ ∀ g o, b = some ⟨g, o, none⟩ → B ≤ g ∧ g < w.heap.size ∧ o = 0
theorem NewOr.later {B : Nat} {w w' : World} {b b0 : Option Addr} (h : NewOr B w b b0) (hb : w.heap.size ≤ w'.heap.size) : NewOr B w' b b0 :=
  h.imp id fun h g o e => ⟨(h g o e).1, Nat.lt_of_lt_of_le (h g o e).2.1 hb, (h g o e).2.2⟩
/-- What is last, behind all others, is walked by itself; the others under a condition that it need not keep. -/
theorem wp_region_splitH {P : Program} {id : Nat} {Q : Exit → Act → World → Prop} {a : Act} {W : World} {l : List Oper} (n : Nat) (S : World → Prop) (hm : P.follows .mixedOrders = true) (hS : splB l.toArray n none = true)
    (h : wpAnyH P .any (l.take n).toArray (Behind (fun a' w' => wpList P l.toArray Q (l.drop n) a' w') Q) S n (Array.replicate n false) a W.drew) : (Code.region id l.toArray true).wp P Q a W := by
  have ok := SplOk.of hS
  have hle : n ≤ l.length := by have := ok.le; simpa using this
  have hps : (l.take n).toArray.size = n := by simp; omega
  have hno : ∀ (m j : Nat), j < m → (Array.replicate m false).getD j true = false := fun m j hj => by simp [hj]
  have hno2 : ∀ (m : Nat) (xs : Array Oper) (j : Nat) (o : Oper), xs.size = m → xs[j]? = some o → (Array.replicate m false).getD j true = true → False := fun m xs j o hx ho h => by
    rw [hno m j (by have := (Array.getElem?_eq_some_iff.1 ho).1; omega)] at h; cases h
  refine wp_region_any hm (split_at ok hps (fun k hk => by simp [hk]) (fun a w h => by simpa using h) _ _ _ _ _ _ (by simp) (by simp) (fun j hj => ?_) (fun j _ hj => hno _ j (by simpa using hj)) (fun i p hp h => (hno2 _ _ i p rfl hp h).elim) ?_ (wpAny_of_held _ _ _ _ h))
  · rw [hno n j hj, hno _ j (by simp; omega)]
  · unfold left
    exact Nat.le_trans (List.length_filter_le _ _) (by simp)
/-- append, at a step of a region that draws its order. -/
theorem step_append_recG {α : Type} {P : Program} (f : α → List Value) {k : Nat} {w : World} {ops : Array Oper} {o : Oper} {a : Act} {K : Act → World → Prop} {Q : Exit → Act → World → Prop} {E : Prop} (hgd : o.guard = none) (s y : Operand) (t : TypeId)
    (ho : o.op = .call { callee := .builtin .append, args := #[s, y], argTypes := #[t, t] })
    (B : Nat) (e : TypeId) (i : TypeInfo) (z : Value) (bytes : Nat) (ht : P.underlying t = some (.slice e)) (hi : P.info? e = some i) (hz : i.zero = some z) (hsize : i.size = k) (hby : i.bytes = bytes) (hzs : z.cells.size = k)
    (v : Value) (l m : List α) (hv : a.eval s = v) (h : OwnR f k B l v w) (x : Value) (hx : a.eval y = x) (hs : Src P k t x m.length (cellsR f m) w) (h63 : l.length + m.length ≤ maxLen) (hbytes : (l.length + m.length) * bytes ≤ 140737488355328) (hB : B ≤ w.heap.size)
    (hK : ∀ v' w', OwnR f k B (l ++ m) v' w' → Below B w w' → w.grownBy w' v.ownBlock → (∀ g, v'.ownBlock = some g → (w.heap.size ≤ g ∨ v.ownBlock = some g) ∧ g < w'.heap.size) → K (a.put o.dst v') w') :
    if Region.wanted o (yielded ops a.tmps) = true then Oper.wp P o a w K Q else E := by
  have hw : Region.wanted o (yielded ops a.tmps) = true := by simp [Region.wanted, hgd]
  rw [if_pos hw]
  obtain ⟨v', w', hrun, h1, h2, h3⟩ := run_append_rec (P := P) f w t o.type e i z bytes ht hi hz hsize hby hzs h x hs h63 hbytes hB
  unfold Oper.wp
  simp [execOp, ho, resolve, invoke, builtin, hv, hx, hrun, Result.andThen]
  exact hK _ _ h1 (below_of_grown h2 hB fun g hg => (h.lt g hg).1) h2 h3
theorem isR_keep {α : Type} {f : α → List Value} {k : Nat} {w w' : World} {a : Option Addr} {c : Nat} {l : List α} (h : IsR f k w a c l) (hs : w.heap.size ≤ w'.heap.size) (hb : l ≠ [] → ∀ g o, a = some ⟨g, o, none⟩ → g < w.heap.size → w'.heap[g]? = w.heap[g]?) : IsR f k w' a c l :=
  ⟨h.1, h.2.1, fun hne => by
    obtain ⟨b, o, e, hlt, hc⟩ := h.2.2 hne
    exact ⟨b, o, e, Nat.lt_of_lt_of_le hlt hs, fun j x hj => (hc j x hj).keep (hb hne b o e hlt)⟩⟩
/-- Where the nodes lie. -/
def InH (B : Nat) (b : Option Addr) (w : World) : Prop := ∀ g o, b = some ⟨g, o, none⟩ → B ≤ g ∧ g < w.heap.size
theorem inH_step {B N : Nat} {b b5 : Option Addr} {w w' : World} (h : InH B b w) (hN : w.heap.size = N) (hB : B ≤ N) (hn : NewOr N w' b5 b) (hs : N ≤ w'.heap.size) : InH B b5 w' := fun g o e => by
  rcases hn with rfl | hn
  · have := h g o e; omega
  · have := hn g o e; omega
theorem apart_step {v : Value} {N : Nat} {b b5 : Option Addr} {w' : World} (h : ApartB v b) (hv : ∀ q, v.ownBlock = some q → q < N) (hn : NewOr N w' b5 b) : ApartB v b5 := fun g g' o hg e => by
  rcases hn with rfl | hn
  · exact h g g' o hg e
  · have := hn g' o e; have := hv g hg; omega
theorem apart_new {v v' : Value} {N B : Nat} {b : Option Addr} {w : World} (h : ApartB v b) (hi : InH B b w) (hN : w.heap.size ≤ N) (hv : ∀ g, v'.ownBlock = some g → N ≤ g ∨ v.ownBlock = some g) : ApartB v' b := fun g g' o hg e => by
  rcases hv g hg with h1 | h1
  · have := hi g' o e; omega
  · exact h g g' o h1 e
/-- Two new blocks are unlike, by what they hold. -/
theorem und_far {w : World} {g B : Nat} {b b0 : Option Addr} {c : Nat} {r : List Nod} {u : Und} (hc : Cells w g (cellsU u)) (hg : B ≤ g) (hb0 : ∀ g' o, b0 = some ⟨g', o, none⟩ → g' < B) (hn : NewOr B w b b0) (h : IsNd w b c r) : r ≠ [] → ∀ g' o, b = some ⟨g', o, none⟩ → g' ≠ g := fun hne g' o e he => by
  subst he
  rcases hn with rfl | hn
  · have := hb0 g' o e; omega
  · obtain ⟨_, _, rfl⟩ := hn g' o e
    obtain ⟨b', o', e', _, hx⟩ := h.2.2 hne
    rw [e] at e'
    simp only [Option.some.injEq, Addr.mk.injEq, and_true] at e'
    obtain ⟨rfl, rfl⟩ := e'
    cases r with
    | nil => exact hne rfl
    | cons y r =>
      have h1 := hx 0 y rfl 0 _ rfl
      have h2 := hc.cell 0 _ rfl
      simp only [Nat.zero_mul, Nat.add_zero] at h1
      rw [h1] at h2
      cases h2
theorem six_of {w : World} {g off c g6 : Nat} {k : Nat} {l : List Opn} {o : Opn} {u : Und} (h : IsOp w (some ⟨g, off, none⟩) c l) (ho : l[k]? = some o) (hu : Cells w g6 (cellsU u)) :
    w.cell? ⟨g, off + k * 7, none⟩ = some (.int .i64 o.c) ∧ w.cell? ⟨g, off + k * 7 + 1, none⟩ = some (.int .i64 o.r) ∧ w.cell? ⟨g, off + k * 7 + 2, none⟩ = some (.int .i64 o.k) ∧ w.cell? ⟨g, off + k * 7 + 3, none⟩ = some (.int .i64 o.n) ∧ w.cell? ⟨g, off + k * 7 + 4, none⟩ = some (.int .i64 o.p) ∧ w.cell? ⟨g, off + k * 7 + 5, none⟩ = some (.string o.s) ∧ w.cell? ⟨g, off + k * 7 + 6, none⟩ = some (.string o.d) ∧
      w.cell? ⟨g6, 0, none⟩ = some (.bool u.did) ∧ w.cell? ⟨g6, 1, none⟩ = some (.bool u.had) ∧ w.cell? ⟨g6, 2, none⟩ = some (.int .i64 u.was.id) ∧ w.cell? ⟨g6, 3, none⟩ = some (.int .i64 u.was.p) ∧ w.cell? ⟨g6, 4, none⟩ = some (.string u.was.s) ∧ w.cell? ⟨g6, 5, none⟩ = some (.int .i64 u.was.mc) ∧ w.cell? ⟨g6, 6, none⟩ = some (.int .i64 u.was.mr) ∧ w.cell? ⟨g6, 7, none⟩ = some (.string u.was.d) ∧ w.cell? ⟨g6, 8, none⟩ = some (.int .i64 u.was.wc) ∧ w.cell? ⟨g6, 9, none⟩ = some (.int .i64 u.was.wr) := by
  obtain ⟨b', o', e', _, hc⟩ := h.opn ho
  simp only [Option.some.injEq, Addr.mk.injEq, and_true] at e'
  obtain ⟨rfl, rfl⟩ := e'
  obtain ⟨m0, m1, m2, m3, m4, m5, m6⟩ := hc k o ho
  exact ⟨m0, m1, m2, m3, m4, m5, m6, cellU_cells hu⟩
/-- The log is stored. -/
theorem done_end {w w3 w8 : World} {v v8 vb : Value} {es : List Enl} {b5 : Option Addr} {d5 : Nat} {r1 : List Nod} {z0 z1 : Value} (hO : Cells w8 (w.heap.size + 1) [v, vb]) (hR : Cells w8 w.heap.size [z0, z1]) (hE : OwnEn (w.heap.size + 2) es v8 w8) (hN : IsNd w8 b5 d5 r1) (hi : InH (w.heap.size + 2) b5 w3) (hs : w3.heap.size ≤ w8.heap.size) (hb : Below w.heap.size w w8) (y : Value) :
    Cells ((w8.setCell ⟨w.heap.size + 1, 0, none⟩ v8).setCell ⟨w.heap.size + 1, 1, none⟩ y) (w.heap.size + 1) [v8, y] ∧ Cells ((w8.setCell ⟨w.heap.size + 1, 0, none⟩ v8).setCell ⟨w.heap.size + 1, 1, none⟩ y) w.heap.size [z0, z1] ∧
    OwnEn (w.heap.size + 2) es v8 ((w8.setCell ⟨w.heap.size + 1, 0, none⟩ v8).setCell ⟨w.heap.size + 1, 1, none⟩ y) ∧ IsNd ((w8.setCell ⟨w.heap.size + 1, 0, none⟩ v8).setCell ⟨w.heap.size + 1, 1, none⟩ y) b5 d5 r1 ∧
    InH (w.heap.size + 2) b5 ((w8.setCell ⟨w.heap.size + 1, 0, none⟩ v8).setCell ⟨w.heap.size + 1, 1, none⟩ y) ∧ Below w.heap.size w ((w8.setCell ⟨w.heap.size + 1, 0, none⟩ v8).setCell ⟨w.heap.size + 1, 1, none⟩ y) ∧ w.heap.size + 2 ≤ ((w8.setCell ⟨w.heap.size + 1, 0, none⟩ v8).setCell ⟨w.heap.size + 1, 1, none⟩ y).heap.size := by
  have hsz : ((w8.setCell ⟨w.heap.size + 1, 0, none⟩ v8).setCell ⟨w.heap.size + 1, 1, none⟩ y).heap.size = w8.heap.size := setCells_heap (w.heap.size + 1) [v8, y] 0 w8
  have hot : ∀ g, g < w8.heap.size → g ≠ w.heap.size + 1 → ((w8.setCell ⟨w.heap.size + 1, 0, none⟩ v8).setCell ⟨w.heap.size + 1, 1, none⟩ y).heap[g]? = w8.heap[g]? := fun g hg hne => World.heap_setCells_other w8 (w.heap.size + 1) 0 [v8, y] hg hne
  have hlt := hO.lt
  refine ⟨(hO.set 0 (by simp) v8).set 1 (by simp) y, (hR.other (by omega) 0 v8).other (by omega) 1 y, OwnC.own hE (by omega) (fun g hg => hot g (OwnC.lt hE g hg).2 (by have := (OwnC.lt hE g hg).1; omega)), isR_keep hN (by omega) (fun _ g o e hl => hot g hl (by have := hi g o e; omega)), fun g o e => ?_, (hb.setCell (p := ⟨w.heap.size + 1, 0, none⟩) (Nat.le_add_right _ _) v8).setCell (p := ⟨w.heap.size + 1, 1, none⟩) (Nat.le_add_right _ _) y, by omega⟩
  have := hi g o e
  omega
def LgPost (s : List Opn) (w : World) (e : Ending) (w' : World) : Prop := ∃ a c b d, e = .returned (LV a c b d s) ∧ IsLg w' a c b d s ∧ Below w.heap.size w w' ∧ InH w.heap.size a w' ∧ InH w.heap.size b w'
def STup (B : Nat) (b0 : Option Addr) (r : List Nod) (u : Und) (v : Value) (w : World) : Prop := ∃ a c, v = .tuple #[.slice a r.length c, UV u] ∧ IsNd w a c r ∧ NewOr B w a b0
def SSl (B : Nat) (b0 : Option Addr) (r : List Nod) (v : Value) (w : World) : Prop := ∃ a c, v = .slice a r.length c ∧ IsNd w a c r ∧ NewOr B w a b0
def SPtr (B : Nat) (vs : List Value) (v : Value) (w : World) : Prop := ∃ g, v = .pointer (some ⟨g, 0, none⟩) ∧ Cells w g vs ∧ B ≤ g
theorem sTup_stay {B : Nat} {b0 : Option Addr} {r : List Nod} {u : Und} (v : Value) (w w' : World) (h : STup B b0 r u v w) (hb : Below w.heap.size w w') : STup B b0 r u v w' := by
  obtain ⟨a, c, rfl, hi, hn⟩ := h
  exact ⟨a, c, rfl, IsR.below hi hb, hn.later hb.size⟩
theorem sSl_stay {B : Nat} {b0 : Option Addr} {r : List Nod} (v : Value) (w w' : World) (h : SSl B b0 r v w) (hb : Below w.heap.size w w') : SSl B b0 r v w' := by
  obtain ⟨a, c, rfl, hi, hn⟩ := h
  exact ⟨a, c, rfl, IsR.below hi hb, hn.later hb.size⟩
theorem sPtr_stay {B : Nat} {vs : List Value} (v : Value) (w w' : World) (h : SPtr B vs v w) (hb : Below w.heap.size w w') : SPtr B vs v w' := by
  obtain ⟨g, rfl, hc, hg⟩ := h
  exact ⟨g, rfl, hc.below hb, hg⟩
set_option maxRecDepth 100000 in
set_option maxHeartbeats 2000000 in
theorem rdone_any (a : Option Addr) (c : Nat) (l : List Opn) (w : World) (h : IsOp w a c l) (hl : l.length ≤ 100000) (hsm : ∀ o ∈ l, o.s.size ≤ 1000000) :
    Calls Try.prog 32 #[.slice a l.length c] w (LgPost l w) := by
  obtain ⟨iE, hiE, hzE, hszE, hbyE⟩ := info_parts infoE
  have HI := Lib.hid h
  have HSm := Lib.hid hsm
  have hsz : ∀ o : Obj, (w.alloc o).heap.size = w.heap.size + 1 := fun o => by simp
  have R0 := Lib.hid ((cells_new w [.slice none 0 0, .slice none 0 0] 32).below (below_alloc _ (.cells #[.slice none 0 0, .slice none 0 0] 32)))
  have O0 := cells_new (w.alloc (.cells #[.slice none 0 0, .slice none 0 0] 32)) [.slice none 0 0, .slice none 0 0] 32
  rw [hsz] at O0
  have hO0 := Lib.hid O0
  have bA := Lib.hid (((Below.refl w.heap.size w).alloc (Nat.le_refl _) (.cells #[.slice none 0 0, .slice none 0 0] 32)).alloc (by simp) (.cells #[.slice none 0 0, .slice none 0 0] 32))
  clear h hsm hsz O0
  go_enter Try.func32, Try.ntmps32
  go_wp2
  go_loopw [4] (fun u w' => ∃ (k : Nat) (va : Value) (b : Option Addr) (d : Nat), k ≤ l.length ∧ u = .int .i64 k ∧ Cells w' (w.heap.size + 1) [va, .slice b (doAll [] (l.take k)).length d] ∧ Cells w' w.heap.size [.slice none 0 0, .slice none 0 0] ∧
    OwnEn (w.heap.size + 2) (ents (l.take k)) va w' ∧ IsNd w' b d (doAll [] (l.take k)) ∧ ApartB va b ∧ InH (w.heap.size + 2) b w' ∧ Below w.heap.size w w' ∧ w.heap.size + 2 ≤ w'.heap.size) (fun u _ => l.length - (RowKit.intOf u).toNat)
  case atStart => exact ⟨0, .slice none 0 0, none, 0, Nat.zero_le _, rfl, hO0.out, R0.out, ownR_nil _ _ _ _, isR_nil _ _ _, fun g g' o _ e => (by cases e), fun g o e => (by cases e), bA.out, by simp⟩
  case round =>
    obtain ⟨k, va, b, d, hk, rfl, hO, hR, hE, hN, hap, hih, ck, hws⟩ := hrel
    have CO := Lib.hid hO
    have CR := Lib.hid hR
    have HE := Lib.hid hE
    have HN := Lib.hid hN
    have HAp := Lib.hid hap
    have HIh := Lib.hid hih
    clear hO hR hE hN hap hih
    by_cases hks : k < l.length
    · obtain ⟨o, ho⟩ : ∃ o, l[k]? = some o := ⟨l[k], List.getElem?_eq_getElem hks⟩
      obtain ⟨g, off, rfl, hlt, _⟩ := (HI.out.below ck).opn ho
      have HIr := Lib.hid (HI.out.below ck)
      have Ho := Lib.hid ho
      have hks2 : (k : Int) < (l.length : Int) := by omega
      have hos := HSm.out o (List.mem_of_getElem? ho)
      have htl := doAll_len (l.take k)
      have hel := ents_len (l.take k)
      rw [List.length_take] at htl hel
      have HT := Lib.hid (doAll_take ho)
      have HEn := Lib.hid (show ents (l.take (k + 1)) = ents (l.take k) ++ [⟨o, (doN (doAll [] (l.take k)) o).2⟩] by
        rw [List.take_add_one, ho]; exact ents_snoc _ o)
      obtain ⟨t, hte⟩ : ∃ t, doAll [] (l.take k) = t := ⟨_, rfl⟩
      have hel2 : (ents (l.take k)).length = k := by rw [hel]; omega
      obtain ⟨es, hes⟩ : ∃ x, ents (l.take k) = x := ⟨_, rfl⟩
      rw [hte] at CO HN HT HEn htl
      rw [hes] at HE HEn hel hel2
      have HDo := Lib.hid (fun w hh => rdo_own b d t o w hh (by omega) hos)
      obtain ⟨r, hr⟩ : ∃ r, doN t o = r := ⟨_, rfl⟩
      rw [hr] at HDo HT HEn
      obtain ⟨r1, u⟩ := r
      clear hte hes ho hr hos
      go_wp2_with fail
      refine wp_region_rt 12 (by kernel_rfl) (by kernel_rfl) (by kernel_rfl) ?_
      simp only [List.take_succ_cons, List.take_zero, List.drop_succ_cons, List.drop_zero]
      refine wpR_pure (fun K hK => ?_); go_simp; (try go_ints); refine hK _ ?_; clear hK K
      refine wpR_use (.slice b t.length d) (fun xs n _ => ?_) (fun K hK => ?_)
      · have q1 := (CO.out.below n.below).cell 1 _ rfl
        go_simp
      go_simp; (try go_ints); refine hK _ ?_; clear hK K
      refine wpR_pure (fun K hK => ?_); go_simp; (try go_ints); refine hK _ ?_; clear hK K
      refine wpR_pure (fun K hK => ?_); go_simp; (try go_ints); refine hK _ ?_; clear hK K
      refine wpR_pure (fun K hK => ?_); go_simp; (try go_ints); refine hK _ ?_; clear hK K
      refine wpR_use (OV o) (fun xs n _ => ?_) (fun K hK => ?_)
      · obtain ⟨b', o', e', _, hc'⟩ := (HIr.out.below n.below).opn Ho.out
        simp only [Option.some.injEq, Addr.mk.injEq, and_true] at e'
        obtain ⟨rfl, rfl⟩ := e'
        obtain ⟨m0, m1, m2, m3, m4, m5, m6⟩ := hc' k o Ho.out
        go_simp
      go_simp; (try go_ints); refine hK _ ?_; clear hK K
      refine wpR_make (STup wr.heap.size b r1 u) sTup_stay (fun xs n _ => ?_) (fun K hK => ?_)
      · have hnw := n.below.size
        unfold relOp; go_simp; simp only [relUpon]
        exact (HDo.out n.w (IsR.below HN.out n.below)).mono fun e w' ⟨a2, c2, he, hi, hb, hn⟩ => ⟨_, he, ⟨a2, c2, rfl, hi, hn.imp id (fun h g o e => ⟨Nat.le_trans hnw (h g o e).1, (h g o e).2⟩)⟩, hb⟩
      go_simp; (try go_ints); refine hK _ ?_; clear hK K
      refine wpR_make (STup wr.heap.size b r1 u) sTup_stay (fun xs n hf => ?_) (fun K hK => ?_)
      · have h0 := fact_at hf 0 rfl (by kernel_rfl)
        unfold relOp; go_simp; simp only [relUpon]
        exact ⟨h0, Below.refl _ _⟩
      go_simp; (try go_ints); refine hK _ ?_; clear hK K
      refine wpR_make (SSl wr.heap.size b r1) sSl_stay (fun xs n hf => ?_) (fun K hK => ?_)
      · obtain ⟨a2, c2, e2, hi2, hn2⟩ := fact_at hf 0 rfl (by kernel_rfl)
        unfold relOp; go_simp; simp only [relUpon]
        exact ⟨⟨a2, c2, rfl, hi2, hn2⟩, Below.refl _ _⟩
      go_simp; (try go_ints); refine hK _ ?_; clear hK K
      refine wpR_use (UV u) (fun xs n hf => ?_) (fun K hK => ?_)
      · obtain ⟨a2, c2, e2, _, _⟩ := fact_at hf 1 rfl (by kernel_rfl)
        go_simp
      go_simp; (try go_ints); refine hK _ ?_; clear hK K
      refine wpR_make (SPtr wr.heap.size (cellsU noUnd)) sPtr_stay (fun xs n hf => ?_) (fun K hK => ?_)
      · unfold relOp; go_simp; simp only [relUpon]
        exact ⟨⟨_, rfl, cells_new n.w (cellsU noUnd) 47, n.below.size⟩, below_alloc _ _⟩
      go_simp; (try go_ints); refine hK _ ?_; clear hK K
      refine wpR_make (SSl wr.heap.size b r1) sSl_stay (fun xs n hf => ?_) (fun K hK => ?_)
      · have h0 := fact_at hf 1 rfl (by kernel_rfl)
        unfold relOp; go_simp; simp only [relUpon]
        exact ⟨h0, Below.refl _ _⟩
      go_simp; (try go_ints); refine hK _ ?_; clear hK K
      refine wpR_nil (fun xs n hf => ?_)
      obtain ⟨b5, d5, e5, hi5, hn5⟩ := hf _ (List.mem_cons_self)
      obtain ⟨g6, e6, hc6, hg6⟩ := hf _ (List.mem_cons_of_mem _ (List.mem_cons_self))
      change xs 11 = _ at e5
      change xs 10 = _ at e6
      clear hf
      have hfar := Lib.hid (und_far hc6 hg6 (fun g' o' e' => (HIh.out g' o' e').2) hn5 hi5)
      have hlow : ∀ q, va.ownBlock = some q → w.heap.size + 2 ≤ q ∧ q < wr.heap.size := fun q hq => HE.out.lt q hq
      have Hlow := Lib.hid hlow
      clear hlow
      have c2 := n.below
      have hs2 := c2.size
      have b3 := below_setCells (B := wr.heap.size) g6 hg6 (cellsU u) 0 n.w wr c2
      have Hi5 := Lib.hid (isR_keep (w' := n.w.setCells g6 0 (cellsU u)) hi5 (by rw [setCells_heap]; exact Nat.le_refl _) (fun hne g' o' e' hl' => World.heap_setCells_other n.w g6 _ _ hl' (hfar.out hne g' o' e')))
      have Hn5 := Lib.hid (show NewOr wr.heap.size (n.w.setCells g6 0 (cellsU u)) b5 b from hn5.later (by rw [setCells_heap]; exact Nat.le_refl _))
      have HU5 := Lib.hid hc6
      rw [e5, e6]
      clear e5 e6 hc6 hi5 hn5 hfar
      generalize xs 6 = y6
      generalize xs 7 = y7
      generalize xs 8 = y8
      generalize n.w = w2 at c2 hs2 b3 Hi5 Hn5 HU5 ⊢
      clear n xs
      have HU3 := Lib.hid (HU5.out.setAll (vs := cellsU u) rfl)
      obtain ⟨f0, f1, f2, f3, f4, f5, f6, f7, f8, f9⟩ := cellU_frees HU5.out
      obtain ⟨v0, v1, v2, v3, v4, v5, v6, v7, v8, v9⟩ := cellU_cells HU5.out
      go_wp2_with fail
      clear f0 f1 f2 f3 f4 f5 f6 f7 f8 f9 v0 v1 v2 v3 v4 v5 v6 v7 v8 v9
      change Code.wp _ _ _ _ (w2.setCells g6 0 (cellsU u))
      clear HU5 c2 hs2
      generalize w2.setCells g6 0 (cellsU u) = w3 at b3 Hi5 Hn5 HU3 ⊢
      clear w2
      have hs3 := b3.size
      have CO3 := Lib.hid (CO.out.below b3)
      have CR3 := Lib.hid (CR.out.below b3)
      have HE3 := Lib.hid (HE.out.below b3)
      have HS := Lib.hid (fun (w' : World) (hb : Below w3.heap.size w3 w') => six_of ((HIr.out.below (b3.trans (hb.mono hs3)))) Ho.out (HU3.out.below hb))
      have y0 := CO3.out.cell 0 _ rfl
      have y1 := CO3.out.free 0 (by simp)
      have hd := (Below.refl w3.heap.size w3).drew
      have hAt : AtC (cellsE ⟨o, u⟩) (w3.alloc (.cells #[.int .i64 o.c, .int .i64 o.r, .int .i64 o.k, .int .i64 o.n, .int .i64 o.p, .string o.s, .string o.d, .bool u.did, .bool u.had, .int .i64 u.was.id, .int .i64 u.was.p, .string u.was.s, .int .i64 u.was.mc, .int .i64 u.was.mr, .string u.was.d, .int .i64 u.was.wc, .int .i64 u.was.wr] 49)).drew w3.heap.size 0 := atC_new w3 #[.int .i64 o.c, .int .i64 o.r, .int .i64 o.k, .int .i64 o.n, .int .i64 o.p, .string o.s, .string o.d, .bool u.did, .bool u.had, .int .i64 u.was.id, .int .i64 u.was.p, .string u.was.s, .int .i64 u.was.mc, .int .i64 u.was.mr, .string u.was.d, .int .i64 u.was.wc, .int .i64 u.was.wr] 49
      have HAt := Lib.hid hAt
      have b4 : Below w3.heap.size w3 (w3.alloc (.cells #[.int .i64 o.c, .int .i64 o.r, .int .i64 o.k, .int .i64 o.n, .int .i64 o.p, .string o.s, .string o.d, .bool u.did, .bool u.had, .int .i64 u.was.id, .int .i64 u.was.p, .string u.was.s, .int .i64 u.was.mc, .int .i64 u.was.mr, .string u.was.d, .int .i64 u.was.wc, .int .i64 u.was.wr] 49)).drew := ((Below.refl w3.heap.size w3).alloc (Nat.le_refl _) _).drew
      have h34 : w3.heap.size ≤ (w3.alloc (.cells #[.int .i64 o.c, .int .i64 o.r, .int .i64 o.k, .int .i64 o.n, .int .i64 o.p, .string o.s, .string o.d, .bool u.did, .bool u.had, .int .i64 u.was.id, .int .i64 u.was.p, .string u.was.s, .int .i64 u.was.mc, .int .i64 u.was.mr, .string u.was.d, .int .i64 u.was.wc, .int .i64 u.was.wr] 49)).drew.heap.size := b4.size
      have hWr := ck.size
      have HW4 := Lib.hid ((ck.trans (b3.mono hWr)).trans (b4.mono (Nat.le_trans hWr hs3)))
      clear hAt
      obtain ⟨m0, m1, m2, m3, m4, m5, m6, v0, v1, v2, v3, v4, v5, v6, v7, v8, v9⟩ := HS.out _ (Below.refl _ _)
      have hg6s := HU3.out.lt
      have HS0 := Lib.hid (fun (w' : World) (hb : Below w3.heap.size w3 w') => And.intro ((CO3.out.below hb).cell 0 _ rfl) (HS.out w' hb))
      have hHeld := HS0.out _ hd
      refine wp_region_splitH 11 (fun w' => w'.cell? ⟨w.heap.size + 1, 0, none⟩ = some va ∧ w'.cell? ⟨g, off + k * 7, none⟩ = some (.int .i64 o.c) ∧ w'.cell? ⟨g, off + k * 7 + 1, none⟩ = some (.int .i64 o.r) ∧ w'.cell? ⟨g, off + k * 7 + 2, none⟩ = some (.int .i64 o.k) ∧ w'.cell? ⟨g, off + k * 7 + 3, none⟩ = some (.int .i64 o.n) ∧ w'.cell? ⟨g, off + k * 7 + 4, none⟩ = some (.int .i64 o.p) ∧ w'.cell? ⟨g, off + k * 7 + 5, none⟩ = some (.string o.s) ∧ w'.cell? ⟨g, off + k * 7 + 6, none⟩ = some (.string o.d) ∧
          w'.cell? ⟨g6, 0, none⟩ = some (.bool u.did) ∧ w'.cell? ⟨g6, 1, none⟩ = some (.bool u.had) ∧ w'.cell? ⟨g6, 2, none⟩ = some (.int .i64 u.was.id) ∧ w'.cell? ⟨g6, 3, none⟩ = some (.int .i64 u.was.p) ∧ w'.cell? ⟨g6, 4, none⟩ = some (.string u.was.s) ∧ w'.cell? ⟨g6, 5, none⟩ = some (.int .i64 u.was.mc) ∧ w'.cell? ⟨g6, 6, none⟩ = some (.int .i64 u.was.mr) ∧ w'.cell? ⟨g6, 7, none⟩ = some (.string u.was.d) ∧ w'.cell? ⟨g6, 8, none⟩ = some (.int .i64 u.was.wc) ∧ w'.cell? ⟨g6, 9, none⟩ = some (.int .i64 u.was.wr)) (by kernel_rfl) (by kernel_rfl) ?_
      simp only [List.take_succ_cons, List.take_zero, List.drop_succ_cons, List.drop_zero]
      refine wpAnyH_take (i := 0) (oi := _) (v := ?_) rfl (by kernel_rfl) (by kernel_rfl) (by kernel_rfl) (fun _ _ _ h => h) (Or.inl ⟨by rfl, ?_⟩) (by assumption) ?_
      rotate_left
      · intro w hSw
        (try dsimp only at hSw)
        go_simp
        first | done | with_reducible rfl
      simp only [Act.put, List.setIfInBounds_toArray]
      refine wpAnyH_take (i := 2) (oi := _) (v := ?_) rfl (by kernel_rfl) (by kernel_rfl) (by kernel_rfl) (fun _ _ _ h => h) (Or.inl ⟨by rfl, ?_⟩) (by assumption) ?_
      rotate_left
      · intro w hSw
        (try dsimp only at hSw)
        go_simp
        first | done | with_reducible rfl
      (try simp only [Act.put])
      refine wpAnyH_take (i := 3) (oi := _) (v := ?_) rfl (by kernel_rfl) (by kernel_rfl) (by kernel_rfl) (fun _ _ _ h => h) (Or.inl ⟨by rfl, ?_⟩) (by assumption) ?_
      rotate_left
      · intro w hSw
        (try dsimp only at hSw)
        go_simp
        first | done | with_reducible rfl
      (try simp only [Act.put])
      refine wpAnyH_take (i := 4) (oi := _) (v := ?_) rfl (by kernel_rfl) (by kernel_rfl) (by kernel_rfl) (fun _ _ _ h => h) (Or.inl ⟨by rfl, ?_⟩) (by assumption) ?_
      rotate_left
      · intro w hSw
        (try dsimp only at hSw)
        go_simp
        first | done | with_reducible rfl
      (try simp only [Act.put])
      refine wpAnyH_take (i := 5) (oi := _) (v := ?_) rfl (by kernel_rfl) (by kernel_rfl) (by kernel_rfl) (fun _ _ _ h => h) (Or.inl ⟨by rfl, ?_⟩) (by assumption) ?_
      rotate_left
      · intro w hSw
        (try dsimp only at hSw)
        go_simp
        first | done | with_reducible rfl
      (try simp only [Act.put])
      refine wpAnyH_take (i := 6) (oi := _) (v := ?_) rfl (by kernel_rfl) (by kernel_rfl) (by kernel_rfl) (fun _ _ _ h => h) (Or.inl ⟨by rfl, ?_⟩) (by assumption) ?_
      rotate_left
      · intro w hSw
        (try dsimp only at hSw)
        go_simp
        first | done | with_reducible rfl
      (try simp only [Act.put])
      refine wpAnyH_take (i := 7) (oi := _) (v := ?_) rfl (by kernel_rfl) (by kernel_rfl) (by kernel_rfl) (fun _ _ _ h => h) (Or.inl ⟨by rfl, ?_⟩) (by assumption) ?_
      rotate_left
      · intro w hSw
        (try dsimp only at hSw)
        go_simp
        first | done | with_reducible rfl
      (try simp only [Act.put])
      refine wpAnyH_take (i := 1) (oi := _) (v := ?_) rfl (by kernel_rfl) (by kernel_rfl) (by kernel_rfl) (fun _ _ _ h => h) (Or.inl ⟨by rfl, ?_⟩) (by assumption) ?_
      rotate_left
      · intro w hSw
        (try dsimp only at hSw)
        go_simp
        first | done | with_reducible rfl
      (try simp only [Act.put])
      refine wpAnyH_ready (rs := [8]) (by kernel_rfl) (by simp) ?_
      refine AllReadyH.cons (o := _) rfl (fun K hK => ?_) AllReadyH.nil
      go_simp
      refine hK.out _ _ (HS0.out _ b4) (fun hHeld => ?_)
      clear hK K hHeld
      (try simp only [Act.put])
      refine wpAnyH_ready (rs := [9]) (by kernel_rfl) (by simp) ?_
      refine AllReadyH.cons (o := _) rfl (fun K hK => ?_) AllReadyH.nil
      refine step_append_recG cellsE rfl _ _ 29 rfl (w.heap.size + 2) 49 iE _ 160 Try.underlying29 hiE hzE hszE hbyE rfl va es [⟨o, u⟩] rfl (HE3.out.below b4) _ rfl (src_one en_len en_one Try.underlying29 HAt.out) (by unfold maxLen; simp only [List.length_singleton]; omega) (by simp only [List.length_singleton]; omega) (by omega) ?_
      intro va8 w8 ho8 c8 g8 hva8
      have HI8 := Lib.hid (HI.out.below (HW4.out.trans (c8.mono (Nat.le_add_right _ _))))
      have HU8 := Lib.hid ((HU3.out.below b4).keep g8.size (g8.block g6 (by omega) (fun e => by have := Hlow.out g6 e.symm; omega)))
      have CO8 := Lib.hid ((CO3.out.below b4).belowN (by omega) c8)
      have CR8 := Lib.hid ((CR3.out.below b4).belowN (by omega) c8)
      have z0 := CO8.out.cell 0 _ rfl
      have z1 := CO8.out.free 0 (by simp)
      have z2 := CO8.out.cell 1 _ rfl
      have z3 := CO8.out.free 1 (by simp)
      have HS8 := And.intro (CO8.out.cell 0 _ rfl) (six_of HI8.out Ho.out HU8.out)
      have Ho8 := Lib.hid ho8
      have HC8 := Lib.hid c8
      have Hg8 := Lib.hid g8
      have Hva8 := Lib.hid hva8
      have hs8 := g8.size
      obtain ⟨a8, d8, rfl, _⟩ := OwnR.isR en_len ho8
      refine hK.out _ _ HS8 (fun hHeld => ?_)
      clear hK K hHeld
      (try simp only [Act.put])
      refine wpAnyH_take (i := 10) (oi := _) (v := ?_) rfl (by kernel_rfl) (by kernel_rfl) (by kernel_rfl) (fun _ _ _ h => h) (Or.inl ⟨by rfl, ?_⟩) (by assumption) ?_
      rotate_left
      · intro w hSw
        (try dsimp only at hSw)
        go_simp
        first | done | with_reducible rfl
      (try simp only [Act.put])
      refine wpAnyH_done (by kernel_rfl) ?_ _
      change wpList _ _ _ _ _ _
      clear HS8 m0 m1 m2 m3 m4 m5 m6 v0 v1 v2 v3 v4 v5 v6 v7 v8 v9
      go_wp2_with fail
      have hap5 := apart_step HAp.out (fun q hq => (Hlow.out q hq).2) Hn5.out
      have hin5 := inH_step HIh.out rfl hws Hn5.out hs3
      have Hi8 := Lib.hid (isR_keep (IsR.below Hi5.out b4) Hg8.out.size (fun _ g' o' e' hl' => Hg8.out.block g' hl' (fun e => hap5 g' g' o' e.symm e' rfl)))
      have Hap8 := Lib.hid (apart_new hap5 hin5 h34 (fun g hg => (Hva8.out g hg).1))
      have Hin8 := Lib.hid hin5
      have Hd8 := Lib.hid (done_end CO8.out CR8.out Ho8.out Hi8.out Hin8.out (Nat.le_trans h34 hs8) (HW4.out.trans (HC8.out.mono (Nat.le_add_right _ _))) (.slice b5 r1.length d5))
      clear hap5 hin5
      go_roundw
      case rel =>
        refine ⟨k + 1, .slice a8 (es ++ [(⟨o, u⟩ : Enl)]).length d8, b5, d5, by omega, by go_num, ?_⟩
        rw [HT.out, HEn.out]
        have q := Hd8.out
        simp only [List.length_append, List.length_singleton, hel2] at q ⊢
        exact ⟨q.1, q.2.1, q.2.2.1, q.2.2.2.1, by simpa [hel2] using Hap8.out, q.2.2.2.2.1, q.2.2.2.2.2.1, q.2.2.2.2.2.2⟩
      case measure => simp [RowKit.intOf]; omega
    · have hke : k = l.length := by omega
      have hks2 : ¬ (k : Int) < (l.length : Int) := by omega
      rw [hke, List.take_length] at HE HN CO
      obtain ⟨a4, c4, rfl, hi4⟩ := OwnR.isR en_len HE.out
      rw [ents_len] at CO
      have HLg := Lib.hid (show IsLg wr a4 c4 b d l from ⟨hi4, HN.out⟩)
      have hlen : (ents l).length = l.length := ents_len l
      have y0 := CO.out.cell 0 _ rfl
      have y1 := CO.out.cell 1 _ rfl
      have r0 := CR.out.cell 0 _ rfl
      have r1 := CR.out.cell 1 _ rfl
      have r2 := CR.out.free 0 (by simp)
      have r3 := CR.out.free 1 (by simp)
      clear hi4
      go_wp2_with fail
      have hQ := (CR.out.set 0 (by simp) (.slice a4 l.length c4)).set 1 (by simp) (.slice b (doAll [] l).length d)
      have x0 := hQ.cell 0 _ rfl
      have x1 := hQ.cell 1 _ rfl
      have hb := (ck.setCell (p := ⟨w.heap.size, 0, none⟩) (Nat.le_refl _) (.slice a4 l.length c4)).setCell (p := ⟨w.heap.size, 1, none⟩) (Nat.le_refl _) (.slice b (doAll [] l).length d)
      have hsz : ((wr.setCell ⟨w.heap.size, 0, none⟩ (.slice a4 l.length c4)).setCell ⟨w.heap.size, 1, none⟩ (.slice b (doAll [] l).length d)).heap.size = wr.heap.size := setCells_heap w.heap.size [.slice a4 l.length c4, .slice b (doAll [] l).length d] 0 wr
      have hot : ∀ g, g < wr.heap.size → g ≠ w.heap.size → ((wr.setCell ⟨w.heap.size, 0, none⟩ (.slice a4 l.length c4)).setCell ⟨w.heap.size, 1, none⟩ (.slice b (doAll [] l).length d)).heap[g]? = wr.heap[g]? := fun g hg hne => World.heap_setCells_other wr w.heap.size 0 [.slice a4 l.length c4, .slice b (doAll [] l).length d] hg hne
      refine bodyPost_ret (v := LV a4 c4 b d l) (by simp [results, Try.results32, go_sem, x0, x1]) rfl ⟨a4, c4, b, d, rfl, ⟨isR_keep HLg.out.1 (Nat.le_of_eq hsz.symm) (fun _ g o e hl' => hot g hl' ?_), isR_keep HLg.out.2 (Nat.le_of_eq hsz.symm) (fun _ g o e hl' => hot g hl' ?_)⟩, hb, fun g o e => ?_, fun g o e => ?_⟩
      · have := (OwnC.lt HE.out g (by rw [e]; rfl)).1
        omega
      · have := HIh.out g o e
        omega
      · have := OwnC.lt HE.out g (by rw [e]; rfl)
        omega
      · have := HIh.out g o e
        omega
end Go.Proofs.Ytnndanpahcdmaaa
/-
  The document's Add, of a log.
-/
namespace Go.Proofs.Ytnndanpahcdmaaa
open Go.RowKit Go.Lib
/-- What was given, or memory that was made on the way. -/
def OldNew (w : World) (s t : List Opn) (a a0 b b0 : Option Addr) : Prop := (t = s ∧ a = a0 ∧ b = b0) ∨ ((∀ q o, a = some ⟨q, o, none⟩ → w.heap.size ≤ q) ∧ ∀ q o, b = some ⟨q, o, none⟩ → w.heap.size ≤ q)
def AddPost (a0 b0 : Option Addr) (s : List Opn) (r : List Opn × Int) (w : World) (e : Ending) (w' : World) : Prop := ∃ a c b d, e = .returned (.tuple #[LV a c b d r.1, .int .i64 r.2]) ∧ IsLg w' a c b d r.1 ∧ Below w.heap.size w w' ∧ OldNew w s r.1 a a0 b b0
theorem addL_not {s : List Opn} {o : Opn} (h : mayO o = false) : addL s o = (s, 50) := by unfold addL; rw [h]; rfl
theorem addL_has {s : List Opn} {o : Opn} (h : mayO o = true) (h2 : hasS s o.c o.r = true) : addL s o = (s, 0) := by unfold addL; rw [h, h2]; rfl
theorem addL_full {s : List Opn} {o : Opn} (h : mayO o = true) (h2 : hasS s o.c o.r = false) (h3 : 200 ≤ s.length) : addL s o = (s, 193) := by unfold addL; rw [h, h2, if_pos h3]; rfl
theorem addL_new {s : List Opn} {o : Opn} (h : mayO o = true) (h2 : hasS s o.c o.r = false) (h3 : ¬ 200 ≤ s.length) : addL s o = (insS o s, 0) := by unfold addL; rw [h, h2, if_neg h3]; rfl
set_option maxRecDepth 100000 in
set_option maxHeartbeats 4000000 in
theorem radd_any (a : Option Addr) (c : Nat) (b : Option Addr) (d : Nat) (s : List Opn) (o : Opn) (w : World) (h : IsLg w a c b d s) (hl : s.length ≤ 10000) (hlg : Lg s) (hsm : ∀ x ∈ s, x.s.size ≤ 1000000) (ho : o.s.size ≤ 1000000) :
    Calls Try.prog 14 #[LV a c b d s, OV o] w (AddPost a b s (addL s o) w) := by
  obtain ⟨iO, hiO, hzO, hszO, hbyO⟩ := info_parts infoOp
  have HI := Lib.hid h
  have HLg := Lib.hid hlg
  have HSm := Lib.hid hsm
  have HHas := Lib.hid (fun (w' : World) (hb : Below w.heap.size w w') => rhas_any a c b d s o.c o.r w' (h.below hb) (by omega))
  have HOps := Lib.hid (fun (w' : World) (hb : Below w.heap.size w w') => rops_any a c b d s w' (h.below hb) (by omega))
  have HPost := Lib.hid (fun (w' : World) (hb : Below w.heap.size w w') (r : Int) (hr : addL s o = (s, r)) => (show AddPost a b s (addL s o) w (.returned (.tuple #[LV a c b d s, .int .i64 r])) w' from by rw [hr]; exact ⟨a, c, b, d, rfl, h.below hb, hb, .inl ⟨rfl, rfl, rfl⟩⟩))
  obtain ⟨m1, hm1⟩ : ∃ x, mayO o = x := ⟨_, rfl⟩
  obtain ⟨m2, hm2⟩ : ∃ x, hasS s o.c o.r = x := ⟨_, rfl⟩
  have HMay := Lib.hid (fun w' => rchk_any o w' ho)
  rw [hm1] at HMay
  rw [hm2] at HHas
  have HM1 := Lib.hid hm1
  have HM2 := Lib.hid hm2
  change Calls _ _ #[.agg #[.slice a s.length c, .slice b (doAll [] s).length d], OV o] _ _
  change Hid (∀ (w' : World) (hb : Below w.heap.size w w') (r : Int) (hr : addL s o = (s, r)), AddPost a b s (addL s o) w (.returned (.tuple #[.agg #[.slice a s.length c, .slice b (doAll [] s).length d], .int .i64 r])) w') at HPost
  change Hid (∀ (w' : World) (hb : Below w.heap.size w w'), Calls _ _ #[.agg #[.slice a s.length c, .slice b (doAll [] s).length d], _] _ _) at HHas
  change Hid (∀ (w' : World) (hb : Below w.heap.size w w'), Calls _ _ #[.agg #[.slice a s.length c, .slice b (doAll [] s).length d]] _ _) at HOps
  generalize (doAll [] s).length = n at HHas HOps HPost ⊢
  obtain ⟨A, hA⟩ : ∃ A, A = ((w.alloc (.cells #[.slice a s.length c, .slice b n d] 32)).alloc (.cells #[.int .i64 o.c, .int .i64 o.r, .int .i64 o.k, .int .i64 o.n, .int .i64 o.p, .string o.s, .string o.d] 26)).alloc (.cells #[.slice none 0 0, .slice none 0 0] 32) := ⟨_, rfl⟩
  have g0 : Cells A w.heap.size [.slice a s.length c, .slice b n d] := by rw [hA]; exact ((cells_new w [.slice a s.length c, .slice b n d] 32).below (below_alloc _ _)).below (below_alloc _ _)
  have g1 : Cells A (w.heap.size + 1) (cellsOp o) := by
    rw [hA]
    have q := (cells_new (w.alloc (.cells #[.slice a s.length c, .slice b n d] 32)) (cellsOp o) 26).below (below_alloc _ (.cells #[.slice none 0 0, .slice none 0 0] 32))
    rw [show (w.alloc (.cells #[.slice a s.length c, .slice b n d] 32)).heap.size = w.heap.size + 1 by simp] at q
    exact q
  have g2 : Cells A (w.heap.size + 2) [.slice none 0 0, .slice none 0 0] := by
    rw [hA]
    have q := cells_new ((w.alloc (.cells #[.slice a s.length c, .slice b n d] 32)).alloc (.cells #[.int .i64 o.c, .int .i64 o.r, .int .i64 o.k, .int .i64 o.n, .int .i64 o.p, .string o.s, .string o.d] 26)) [.slice none 0 0, .slice none 0 0] 32
    rw [show ((w.alloc (.cells #[.slice a s.length c, .slice b n d] 32)).alloc (.cells #[.int .i64 o.c, .int .i64 o.r, .int .i64 o.k, .int .i64 o.n, .int .i64 o.p, .string o.s, .string o.d] 26)).heap.size = w.heap.size + 2 by simp] at q
    exact q
  have gb : Below w.heap.size w A := by rw [hA]; exact (((Below.refl w.heap.size w).alloc (Nat.le_refl _) _).alloc (by simp) _).alloc (by simp; omega) _
  have k0 := g1.cell 0 _ rfl
  have k1 := g1.cell 1 _ rfl
  have k2 := g1.cell 2 _ rfl
  have k3 := g1.cell 3 _ rfl
  have k4 := g1.cell 4 _ rfl
  have k5 := g1.cell 5 _ rfl
  have k6 := g1.cell 6 _ rfl
  have G0 := Lib.hid g0
  have G1 := Lib.hid g1
  have G2 := Lib.hid g2
  have GB := Lib.hid gb
  clear g0 g1 g2 gb h hlg hsm hm1 hm2
  go_enter Try.func14, Try.ntmps14
  go_wp2_with fail
  rw [← hA]
  clear hA
  refine (HMay.out _).mono ?_
  rintro e w1 ⟨rfl, c1⟩
  have B1 := Lib.hid (step_b GB.out c1)
  have A0 := Lib.hid (G0.out.below c1)
  have A1 := Lib.hid (G1.out.below c1)
  have A2 := Lib.hid (G2.out.below c1)
  clear c1 k0 k1 k2 k3 k4 k5 k6
  have x0 := A0.out.cell 0 _ rfl
  have x1 := A0.out.cell 1 _ rfl
  have r0 := A2.out.cell 0 _ rfl
  have r1 := A2.out.cell 1 _ rfl
  have f0 := A2.out.free 0 (by simp)
  have f1 := A2.out.free 1 (by simp)
  have k0 := A1.out.cell 0 _ rfl
  have k1 := A1.out.cell 1 _ rfl
  cases m1 with
  | false =>
    go_wp2_with fail
    have hQ := (A2.out.set 0 (by simp) (.slice a s.length c)).set 1 (by simp) (.slice b n d)
    have y0 := hQ.cell 0 _ rfl
    have y1 := hQ.cell 1 _ rfl
    exact bodyPost_ret (v := .tuple #[.agg #[.slice a s.length c, .slice b n d], .int .i64 50]) (by simp [results, Try.results14, go_sem, y0, y1]) rfl (HPost.out _ ((B1.out.setCell (p := ⟨w.heap.size + 2, 0, none⟩) (Nat.le_add_right _ _) (.slice a s.length c)).setCell (p := ⟨w.heap.size + 2, 1, none⟩) (Nat.le_add_right _ _) (.slice b n d)) 50 (addL_not HM1.out))
  | true =>
    go_wp2_with fail
    refine (HHas.out _ B1.out).mono ?_
    rintro e w2 ⟨rfl, c2⟩
    have B2 := Lib.hid (step_b B1.out c2)
    have D0 := Lib.hid (A0.out.below c2)
    have D1 := Lib.hid (A1.out.below c2)
    have D2 := Lib.hid (A2.out.below c2)
    clear c2 k0 k1 x0 x1 r0 r1 f0 f1
    have x0 := D0.out.cell 0 _ rfl
    have x1 := D0.out.cell 1 _ rfl
    have r0 := D2.out.cell 0 _ rfl
    have r1 := D2.out.cell 1 _ rfl
    have f0 := D2.out.free 0 (by simp)
    have f1 := D2.out.free 1 (by simp)
    have hQ := Lib.hid ((D2.out.set 0 (by simp) (.slice a s.length c)).set 1 (by simp) (.slice b n d))
    have hB := Lib.hid ((B2.out.setCell (p := ⟨w.heap.size + 2, 0, none⟩) (Nat.le_add_right _ _) (.slice a s.length c)).setCell (p := ⟨w.heap.size + 2, 1, none⟩) (Nat.le_add_right _ _) (.slice b n d))
    cases m2 with
    | true =>
      go_wp2_with fail
      have y0 := hQ.out.cell 0 _ rfl
      have y1 := hQ.out.cell 1 _ rfl
      exact bodyPost_ret (v := .tuple #[.agg #[.slice a s.length c, .slice b n d], .int .i64 0]) (by simp [results, Try.results14, go_sem, y0, y1]) rfl (HPost.out _ hB.out 0 (addL_has HM1.out HM2.out))
    | false =>
      by_cases h200 : 200 ≤ s.length
      · have hi : (200 : Int) ≤ (s.length : Int) := by omega
        go_wp2_with fail
        have y0 := hQ.out.cell 0 _ rfl
        have y1 := hQ.out.cell 1 _ rfl
        exact bodyPost_ret (v := .tuple #[.agg #[.slice a s.length c, .slice b n d], .int .i64 193]) (by simp [results, Try.results14, go_sem, y0, y1]) rfl (HPost.out _ hB.out 193 (addL_full HM1.out HM2.out h200))
      · have hi : ¬ (200 : Int) ≤ (s.length : Int) := by omega
        clear hB hQ
        go_wp2_with fail
        refine wp_region_t 5 (by kernel_rfl) (by kernel_rfl) ?_
        simp only [List.take_succ_cons, List.take_zero, List.drop_succ_cons, List.drop_zero]
        refine wpL_use (.agg #[.slice a s.length c, .slice b n d]) (fun xs m _ => ?_) (fun K hK => ?_)
        · have q0 := (D0.out.below m.below).cell 0 _ rfl
          have q1 := (D0.out.below m.below).cell 1 _ rfl
          go_simp
        go_simp; (try go_ints); refine hK _ ?_; clear hK K
        refine wpL_make (OwnOp w2.heap.size s) (fun v w w' h hk => h.stay v w w' hk) (fun xs m _ => ?_) (fun K hK => ?_)
        · unfold relOp; go_simp; simp only [relUpon]
          exact (HOps.out _ (B2.out.trans (m.below.mono B2.out.size))).mono fun e w' ⟨v, he, hv, hb2⟩ => ⟨v, he, OwnR.mono hv m.below.size, hb2, fun g hg => OwnC.lt hv g hg⟩
        go_simp; (try go_ints); refine hK _ ?_; clear hK K
        refine wpL_use (OV o) (fun xs m _ => ?_) (fun K hK => ?_)
        · have q := D1.out.below m.below
          have k0 := q.cell 0 _ rfl
          have k1 := q.cell 1 _ rfl
          have k2 := q.cell 2 _ rfl
          have k3 := q.cell 3 _ rfl
          have k4 := q.cell 4 _ rfl
          have k5 := q.cell 5 _ rfl
          have k6 := q.cell 6 _ rfl
          go_simp
        go_simp; (try go_ints); refine hK _ ?_; clear hK K
        refine wpL_make (OwnOp w2.heap.size [o]) (fun v w w' h hk => h.stay v w w' hk) (fun xs m _ => ?_) (fun K hK => ?_)
        · unfold relOp; go_simp; simp only [relUpon]
          exact ⟨ownR_made op_len _ m.w _ m.below.size [o] (by simp) _ rfl, below_alloc _ _, new_own _ _ _ _⟩
        go_simp; (try go_ints); refine hK _ ?_; clear hK K
        refine wpL_take 1 (OwnOp w2.heap.size (s ++ [o])) (fun v w w' h hk => h.stay v w w' hk) rfl (by kernel_rfl) (by kernel_rfl) (fun xs m hf => ?_) (fun K hK => ?_)
        · rw [if_pos (by rfl)]
          have h0 := factL hf 1 rfl (by kernel_rfl)
          obtain ⟨a5, c5, e5, hi5⟩ := (factL hf 0 rfl (by kernel_rfl)).isR op_len
          obtain ⟨v', w', hrun, q1, q2, q3⟩ := run_append_rec (m := [o]) cellsOp m.w 22 22 26 iO _ 72 Try.underlying22 hiO hzO hszO hbyO rfl h0 _ (src_rec op_len op_one Try.underlying22 hi5) (by unfold maxLen; (try simp) <;> (try omega)) (by (try simp) <;> (try omega)) m.below.size
          exact relOp_append _ _ _ _ rfl rfl e5 hrun ⟨q1, q2, q3⟩
        go_simp; (try go_ints); refine hK _ ?_; clear hK K
        refine wpL_nil (fun xs m hf => ?_)
        have hfin := hf _ (List.mem_cons_self)
        change OwnOp _ _ (xs 4) _ at hfin
        obtain ⟨a5, c5, e5, hi5⟩ := hfin.isR op_len
        have E1 := Lib.hid (D2.out.below m.below)
        have E2 := Lib.hid (step_b B2.out m.below)
        rw [e5]
        have HF := Lib.hid hi5
        clear hf hfin e5 hi5
        generalize xs 1 = p1
        generalize xs 3 = p3
        generalize m.w = w3 at E1 E2 HF ⊢
        clear m xs
        have hlen : (s ++ [o]).length = s.length + 1 := by simp
        have hsz1 : ∀ x ∈ s ++ [o], x.s.size ≤ 1000000 := fun x hx => by
          rcases List.mem_append.1 hx with h | h
          · exact HSm.out x h
          · rw [List.mem_singleton.1 h]; exact ho
        have hsort := rsorted_any a5 c5 (s ++ [o]) w3 HF.out (by omega) hsz1
        rw [sort_add HLg.out HM1.out, hlen] at hsort
        have HSort := Lib.hid hsort
        have hins := insS_len o s
        have HZ := Lib.hid (show ∀ x ∈ insS o s, x.s.size ≤ 1000000 from fun x hx => by
          rcases (insS_mem HLg.out.1).1 hx with h | ⟨rfl, _⟩
          · exact HSm.out x h
          · exact ho)
        have HAdd := Lib.hid (addL_new HM1.out HM2.out h200)
        clear hsz1 hsort hlen
        go_wp2_with fail
        refine (HSort.out).mono ?_
        rintro e w4 ⟨v4, rfl, hv4, c4⟩
        obtain ⟨a6, c6, rfl, hi6⟩ := OwnR.isR op_len hv4
        have E3 := Lib.hid (E1.out.below c4)
        have E4 := Lib.hid (step_b E2.out c4)
        have HD := Lib.hid (rdone_any a6 c6 (insS o s) w4 hi6 (by omega) HZ.out)
        have hlt4 := E3.out.lt
        clear hv4 c4 hi6
        go_wp2_with fail
        refine (HD.out).mono ?_
        rintro e w5 ⟨a7, c7, b7, d7, rfl, hlg7, q7, ia, ib⟩
        have E5 := Lib.hid (E3.out.below q7)
        have E6 := Lib.hid (step_b E4.out q7)
        have HL7 := Lib.hid hlg7
        have HIa := Lib.hid ia
        have HIb := Lib.hid ib
        clear hlg7 q7 ia ib
        have r0 := E5.out.cell 0 _ rfl
        have r1 := E5.out.cell 1 _ rfl
        have f0 := E5.out.free 0 (by simp)
        have f1 := E5.out.free 1 (by simp)
        go_wp2_with fail
        have hQ := (E5.out.set 0 (by simp) (.slice a7 (insS o s).length c7)).set 1 (by simp) (.slice b7 (doAll [] (insS o s)).length d7)
        have y0 := hQ.cell 0 _ rfl
        have y1 := hQ.cell 1 _ rfl
        have hsz : ((w5.setCell ⟨w.heap.size + 2, 0, none⟩ (.slice a7 (insS o s).length c7)).setCell ⟨w.heap.size + 2, 1, none⟩ (.slice b7 (doAll [] (insS o s)).length d7)).heap.size = w5.heap.size := setCells_heap (w.heap.size + 2) [.slice a7 (insS o s).length c7, .slice b7 (doAll [] (insS o s)).length d7] 0 w5
        have hot : ∀ g, g < w5.heap.size → g ≠ w.heap.size + 2 → ((w5.setCell ⟨w.heap.size + 2, 0, none⟩ (.slice a7 (insS o s).length c7)).setCell ⟨w.heap.size + 2, 1, none⟩ (.slice b7 (doAll [] (insS o s)).length d7)).heap[g]? = w5.heap[g]? := fun g hg hne => World.heap_setCells_other w5 (w.heap.size + 2) 0 [.slice a7 (insS o s).length c7, .slice b7 (doAll [] (insS o s)).length d7] hg hne
        refine bodyPost_ret (v := .tuple #[.agg #[.slice a7 (insS o s).length c7, .slice b7 (doAll [] (insS o s)).length d7], .int .i64 0]) (by simp [results, Try.results14, go_sem, y0, y1]) rfl ?_
        rw [HAdd.out]
        refine ⟨a7, c7, b7, d7, rfl, ⟨isR_keep HL7.out.1 (Nat.le_of_eq hsz.symm) (fun _ g o e hl' => hot g hl' ?_), isR_keep HL7.out.2 (Nat.le_of_eq hsz.symm) (fun _ g o e hl' => hot g hl' ?_)⟩, (E6.out.setCell (p := ⟨w.heap.size + 2, 0, none⟩) (Nat.le_add_right _ _) (.slice a7 (insS o s).length c7)).setCell (p := ⟨w.heap.size + 2, 1, none⟩) (Nat.le_add_right _ _) (.slice b7 (doAll [] (insS o s)).length d7), .inr ⟨fun q o' e => ?_, fun q o' e => ?_⟩⟩
        · have := HIa.out g o e
          omega
        · have := HIb.out g o e
          omega
        · have := HIa.out q o' e
          have := E4.out.size
          omega
        · have := HIb.out q o' e
          have := E4.out.size
          omega
end Go.Proofs.Ytnndanpahcdmaaa
/-
  The document's All.
-/
namespace Go.Proofs.Ytnndanpahcdmaaa
open Go.RowKit Go.Lib
def RAllPost (r : List Opn × Nat) (w : World) (e : Ending) (w' : World) : Prop := ∃ a c b d, e = .returned (.tuple #[LV a c b d r.1, .int .i64 r.2]) ∧ IsLg w' a c b d r.1 ∧ Below w.heap.size w w'
/-- Rows that lie in neither of two boxes. -/
def OffB (a : Option Addr) (n g h : Nat) : Prop := n ≠ 0 → ∀ q o, a = some ⟨q, o, none⟩ → q ≠ g ∧ q ≠ h
theorem isR_lt {α : Type} {f : α → List Value} {k : Nat} {w : World} {a : Option Addr} {c : Nat} {l : List α} (h : IsR f k w a c l) : l ≠ [] → ∀ q o, a = some ⟨q, o, none⟩ → q < w.heap.size := fun hne q o e => by
  obtain ⟨b, o', e', hlt, _⟩ := h.2.2 hne
  rw [e] at e'; cases e'; exact hlt
theorem addL_mem {s : List Opn} (h : Lg s) {o x : Opn} (hx : x ∈ (addL s o).1) : x ∈ s ∨ x = o := by
  unfold addL at hx
  split at hx
  · split at hx
    · exact .inl hx
    · split at hx
      · exact .inl hx
      · exact ((insS_mem h.1).1 hx).imp id And.left
  · exact .inl hx
theorem allL_mem {s : List Opn} (h : Lg s) (l : List Opn) : ∀ x ∈ (allL s l).1, x ∈ s ∨ x ∈ l := by
  refine list_snoc (P := fun l => ∀ x ∈ (allL s l).1, x ∈ s ∨ x ∈ l) (fun x hx => .inl hx) (fun l o ih x hx => ?_) l
  rw [allL_snoc] at hx
  rcases addL_mem (allL_lg h l) hx with hx | rfl
  · exact (ih x hx).imp id fun h => List.mem_append_left _ h
  · exact .inr (by simp)
theorem off_step {w : World} {s t : List Opn} {a a0 b b0 : Option Addr} {g h : Nat} (ha : OffB a0 (ents s).length g h) (hb : OffB b0 (doAll [] s).length g h) (hg : g < w.heap.size) (hh : h < w.heap.size) (ho : OldNew w s t a a0 b b0) : OffB a (ents t).length g h ∧ OffB b (doAll [] t).length g h := by
  rcases ho with ⟨rfl, rfl, rfl⟩ | ⟨h1, h2⟩
  · exact ⟨ha, hb⟩
  · exact ⟨fun _ q o e => by have := h1 q o e; omega, fun _ q o e => by have := h2 q o e; omega⟩
set_option maxRecDepth 100000 in
set_option maxHeartbeats 8000000 in
theorem rall_any (a : Option Addr) (c : Nat) (b : Option Addr) (d : Nat) (s : List Opn) (la : Option Addr) (lc : Nat) (l : List Opn) (w : World) (h : IsLg w a c b d s) (hs : Lg s) (h200 : s.length ≤ 200) (hss : ∀ x ∈ s, x.s.size ≤ 1000000) (hl : IsOp w la lc l) (hll : l.length ≤ 1000000) (hsm : ∀ x ∈ l, x.s.size ≤ 1000000) :
    Calls Try.prog 12 #[LV a c b d s, .slice la l.length lc] w (RAllPost (allL s l) w) := by
  have HOk := Lib.hid (fun k => (show Lg (allL s (l.take k)).1 ∧ (allL s (l.take k)).1.length ≤ 200 ∧ ∀ x ∈ (allL s (l.take k)).1, x.s.size ≤ 1000000 from ⟨allL_lg hs _, allL_len h200 _, fun x hx => (allL_mem hs _ x hx).elim (hss x) (fun h => hsm x (List.mem_of_mem_take h))⟩))
  have HAdd := Lib.hid (fun (t : List Opn) (o : Opn) (ho : o ∈ l) (ht : Lg t ∧ t.length ≤ 200 ∧ ∀ x ∈ t, x.s.size ≤ 1000000) (a c b d) (w' : World) (hb : IsLg w' a c b d t) => radd_any a c b d t o w' hb (by omega) ht.1 ht.2.2 (hsm o ho))
  have HL := Lib.hid hl
  obtain ⟨n0, hn0⟩ : ∃ n0, (doAll [] s).length = n0 := ⟨_, rfl⟩
  have HN0 := Lib.hid hn0
  have H0 := Lib.hid h
  change Calls _ _ #[.agg #[.slice a s.length c, .slice b (doAll [] s).length d], _] _ _
  rw [hn0]
  obtain ⟨A, hA⟩ : ∃ A, A = (w.alloc (.cells #[.slice a s.length c, .slice b n0 d] 32)).alloc (.cells #[.slice none 0 0, .slice none 0 0] 32) := ⟨_, rfl⟩
  have g0 : Cells A w.heap.size [.slice a s.length c, .slice b n0 d] := by rw [hA]; exact (cells_new w [.slice a s.length c, .slice b n0 d] 32).below (below_alloc _ _)
  have g2 : Cells A (w.heap.size + 1) [.slice none 0 0, .slice none 0 0] := by
    rw [hA]
    have q := cells_new (w.alloc (.cells #[.slice a s.length c, .slice b n0 d] 32)) [.slice none 0 0, .slice none 0 0] 32
    rw [show (w.alloc (.cells #[.slice a s.length c, .slice b n0 d] 32)).heap.size = w.heap.size + 1 by simp] at q
    exact q
  have gb : Below w.heap.size w A := by rw [hA]; exact ((Below.refl w.heap.size w).alloc (Nat.le_refl _) _).alloc (by simp) _
  have sA : A.heap.size = w.heap.size + 2 := by rw [hA]; simp
  have G0 := Lib.hid g0
  have G2 := Lib.hid g2
  have GB := Lib.hid gb
  have HsA := Lib.hid sA
  clear g0 g2 gb h sA hs hsm hl hss hn0
  go_enter Try.func12, Try.ntmps12
  go_wp2_with fail
  rw [← hA]
  clear hA
  go_loopw [6, 7] (fun x6 x7 w' => ∃ (j : Nat) (a1 : Option Addr) (c1 : Nat) (b1 : Option Addr) (d1 : Nat), j ≤ l.length ∧ x7 = .int .i64 j ∧ x6 = .int .i64 (allL s (l.take j)).2 ∧ Cells w' w.heap.size [.slice a1 (allL s (l.take j)).1.length c1, .slice b1 (doAll [] (allL s (l.take j)).1).length d1] ∧ IsLg w' a1 c1 b1 d1 (allL s (l.take j)).1 ∧
      OffB a1 (ents (allL s (l.take j)).1).length w.heap.size (w.heap.size + 1) ∧ OffB b1 (doAll [] (allL s (l.take j)).1).length w.heap.size (w.heap.size + 1) ∧ Cells w' (w.heap.size + 1) [.slice none 0 0, .slice none 0 0] ∧ Below w.heap.size w w') (fun _ x7 _ => l.length - (RowKit.intOf x7).toNat)
  case atStart =>
    refine ⟨0, a, c, b, d, Nat.zero_le _, rfl, rfl, by rw [show (doAll [] (allL s (l.take 0)).1).length = n0 from HN0.out]; exact G0.out, H0.out.below GB.out, fun hne q o e => ?_, fun hne q o e => ?_, G2.out, GB.out⟩
    · obtain ⟨b1, o1, e1, hlt, _⟩ := H0.out.1.2.2 (fun h => hne (by rw [show allL s (l.take 0) = (s, 0) from rfl]; simp only []; rw [h]; rfl))
      rw [e] at e1; cases e1; omega
    · obtain ⟨b1, o1, e1, hlt, _⟩ := H0.out.2.2.2 (fun h => hne (by rw [show allL s (l.take 0) = (s, 0) from rfl]; simp only []; rw [h]; rfl))
      rw [e] at e1; cases e1; omega
  case round =>
    obtain ⟨j, a1, c1, b1, d1, hj, rfl, rfl, hC, hLg, hoa, hob, hR, ck⟩ := hrel
    have hnum : (allL s (l.take j)).2 ≤ 1000000 := Nat.le_trans (allL_num s _) (by rw [List.length_take]; omega)
    by_cases hjl : j < l.length
    · obtain ⟨o, ho⟩ : ∃ o, l[j]? = some o := ⟨_, List.getElem?_eq_getElem hjl⟩
      have hj2 : (j : Int) < (l.length : Int) := by omega
      have HTk := Lib.hid (allL_take (s := s) ho)
      have HOkt := Lib.hid (HOk.out j)
      obtain ⟨⟨t, n⟩, hrr⟩ : ∃ r, allL s (l.take j) = r := ⟨_, rfl⟩
      rw [hrr] at hnum HTk HOkt hC hLg hoa hob ⊢
      simp only [] at hnum HTk HOkt hC hLg hoa hob ⊢
      obtain ⟨g, off, rfl, hg, hc⟩ := (IsR.below HL.out ck).opn ho
      obtain ⟨m0, m1, m2, m3, m4, m5, m6⟩ := hc j o ho
      have HAd := Lib.hid (fun w' hb => HAdd.out t o (List.mem_of_getElem? ho) HOkt.out a1 c1 b1 d1 w' (hLg.below hb))
      have HC := Lib.hid hC
      have HLg := Lib.hid hLg
      have HOa := Lib.hid hoa
      have HOb := Lib.hid hob
      have HR := Lib.hid hR
      obtain ⟨er, her⟩ : ∃ er, (addL t o).2 = er := ⟨_, rfl⟩
      obtain ⟨t2, ht2⟩ : ∃ t2, (addL t o).1 = t2 := ⟨_, rfl⟩
      have hr2 : addL t o = (t2, er) := by rw [← her, ← ht2]
      rw [hr2] at HTk HAd
      change Hid (∀ (w' : World) (hb : Below wr.heap.size wr w'), Calls _ _ #[.agg #[.slice a1 t.length c1, .slice b1 (doAll [] t).length d1], OV o] _ _) at HAd
      obtain ⟨dn, hdn⟩ : ∃ dn, (doAll [] t).length = dn := ⟨_, rfl⟩
      rw [hdn] at HAd HC
      have hT : ∀ (w' : World), Below wr.heap.size wr w' → (w'.cell? ⟨w.heap.size, 0, none⟩ = some (.slice a1 t.length c1) ∧ w'.cell? ⟨w.heap.size, 1, none⟩ = some (.slice b1 dn d1)) ∧ (w'.cell? ⟨g, off + j * 7, none⟩ = some (.int .i64 o.c) ∧ w'.cell? ⟨g, off + j * 7 + 1, none⟩ = some (.int .i64 o.r) ∧ w'.cell? ⟨g, off + j * 7 + 2, none⟩ = some (.int .i64 o.k) ∧ w'.cell? ⟨g, off + j * 7 + 3, none⟩ = some (.int .i64 o.n) ∧ w'.cell? ⟨g, off + j * 7 + 4, none⟩ = some (.int .i64 o.p) ∧ w'.cell? ⟨g, off + j * 7 + 5, none⟩ = some (.string o.s) ∧ w'.cell? ⟨g, off + j * 7 + 6, none⟩ = some (.string o.d)) := fun w' hb => by
        have hC' := HC.out.below hb
        have e : ∀ i, w'.cell? ⟨g, i, none⟩ = wr.cell? ⟨g, i, none⟩ := fun i => hb.cell (p := ⟨g, i, none⟩) hg
        exact ⟨⟨hC'.cell 0 _ rfl, hC'.cell 1 _ rfl⟩, (e _).trans m0, (e _).trans m1, (e _).trans m2, (e _).trans m3, (e _).trans m4, (e _).trans m5, (e _).trans m6⟩
      have HT := Lib.hid hT
      clear hC hLg hoa hob hR hc hrr her ht2 hr2 hdn hT m0 m1 m2 m3 m4 m5 m6 ho
      go_wp2_with fail
      have hdr : Below wr.heap.size wr wr.drew := (Below.refl _ _).drew
      have hdra : ∀ X, Below wr.heap.size wr (wr.alloc X).drew := fun X => (below_alloc wr X).drew
      have hdrk : Cells (wr.alloc (.cells #[.slice none 0 0, .slice none 0 0] 32)).drew wr.heap.size [.slice none 0 0, .slice none 0 0] := by
        have q := cells_new wr [.slice none 0 0, .slice none 0 0] 32
        exact ⟨q.lt, q.cell, q.free⟩
      go_region_held3 (fun w' => (w'.cell? ⟨w.heap.size, 0, none⟩ = some (.slice a1 t.length c1) ∧ w'.cell? ⟨w.heap.size, 1, none⟩ = some (.slice b1 dn d1)) ∧ (w'.cell? ⟨g, off + j * 7, none⟩ = some (.int .i64 o.c) ∧ w'.cell? ⟨g, off + j * 7 + 1, none⟩ = some (.int .i64 o.r) ∧ w'.cell? ⟨g, off + j * 7 + 2, none⟩ = some (.int .i64 o.k) ∧ w'.cell? ⟨g, off + j * 7 + 3, none⟩ = some (.int .i64 o.n) ∧ w'.cell? ⟨g, off + j * 7 + 4, none⟩ = some (.int .i64 o.p) ∧ w'.cell? ⟨g, off + j * 7 + 5, none⟩ = some (.string o.s) ∧ w'.cell? ⟨g, off + j * 7 + 6, none⟩ = some (.string o.d)))
        (first | with_reducible exact HT.out _ hdr | with_reducible exact HT.out _ (hdra _) | with_reducible exact HT.out _ b5 | with_reducible exact HT.out _ (Below.alloc b5 b5.size _) | with_reducible exact HT.out _ (Below.setCell (p := ⟨_, 1, none⟩) (Below.setCell (p := ⟨_, 0, none⟩) b5 (Nat.le_refl _) _) (Nat.le_refl _) _))
        (first | (go_at_call 14; refine (HAd.out _ hdr).mono ?_; rintro e w5 ⟨a5, c5, q5, d5, rfl, hlg5, c5b, on5⟩; have b5 := hdr.trans c5b) | (go_at_call 14; refine (HAd.out _ (hdra _)).mono ?_; rintro e w5 ⟨a5, c5, q5, d5, rfl, hlg5, c5b, on5⟩; have b5 := (hdra _).trans (c5b.mono (hdra _).size); have K5 := hdrk.below c5b; have r0 := K5.cell 0 _ rfl; have r1 := K5.cell 1 _ rfl; have f0 := K5.free 0 (by simp); have f1 := K5.free 1 (by simp); have hlt5 := K5.lt))
      · have hN5 := cells_new w5 [.slice a5 t2.length c5, .slice q5 (doAll [] t2).length d5] 32
        have q6 := below_alloc w5 (.cells #[.slice a5 t2.length c5, .slice q5 (doAll [] t2).length d5] 32)
        have HL5 := Lib.hid (hlg5.below q6)
        have HB5 := Lib.hid (b5.trans (q6.mono b5.size))
        have HOn := Lib.hid (show OldNew wr t t2 a5 a1 q5 b1 from on5.imp id fun ⟨h1, h2⟩ => ⟨h1, h2⟩)
        have hgn := b5.size
        change Exit.then _ _ _ _ (w5.alloc (.cells #[.slice a5 t2.length c5, .slice q5 (doAll [] t2).length d5] 32))
        change Cells (w5.alloc (.cells #[.slice a5 t2.length c5, .slice q5 (doAll [] t2).length d5] 32)) _ _ at hN5
        clear hlg5 c5b on5 b5 q6
        generalize hWW : w5.alloc (.cells #[.slice a5 t2.length c5, .slice q5 (doAll [] t2).length d5] 32) = W at *
        generalize w5.heap.size = gn at *
        clear hWW
        have hq2 := isR_lt HL5.out.1
        have hq3 := isR_lt HL5.out.2
        have hC5 := HC.out.belowN HC.out.lt HB5.out
        have hR5 := HR.out.belowN HR.out.lt HB5.out
        have x0 := hN5.cell 0 _ rfl
        have x1 := hN5.cell 1 _ rfl
        have y0 := hC5.cell 0 _ rfl
        have y1 := hC5.cell 1 _ rfl
        have f0 := hC5.free 0 (by simp)
        have f1 := hC5.free 1 (by simp)
        have hltC := hC5.lt
        have hneB := HR.out.lt
        have hoff := off_step (g := w.heap.size) (h := w.heap.size + 1) HOa.out HOb.out (by omega) (by omega) HOn.out
        have HOf := Lib.hid hoff
        obtain ⟨l2, hl2⟩ : ∃ x, (doAll [] t2).length = x := ⟨_, rfl⟩
        rw [hl2] at x1 hN5
        have HL2 := Lib.hid hl2
        have HC5 := Lib.hid hC5
        have HR5 := Lib.hid hR5
        clear hN5 hC5 hR5 hl2 hoff hq2 hq3
        have fin : IsLg ((W.setCell ⟨w.heap.size, 0, none⟩ (.slice a5 t2.length c5)).setCell ⟨w.heap.size, 1, none⟩ (.slice q5 l2 d5)) a5 c5 q5 d5 t2 ∧ Cells ((W.setCell ⟨w.heap.size, 0, none⟩ (.slice a5 t2.length c5)).setCell ⟨w.heap.size, 1, none⟩ (.slice q5 l2 d5)) w.heap.size [.slice a5 t2.length c5, .slice q5 l2 d5] ∧ Cells ((W.setCell ⟨w.heap.size, 0, none⟩ (.slice a5 t2.length c5)).setCell ⟨w.heap.size, 1, none⟩ (.slice q5 l2 d5)) (w.heap.size + 1) [.slice none 0 0, .slice none 0 0] ∧ Below w.heap.size w ((W.setCell ⟨w.heap.size, 0, none⟩ (.slice a5 t2.length c5)).setCell ⟨w.heap.size, 1, none⟩ (.slice q5 l2 d5)) := by
          have hsz : ((W.setCell ⟨w.heap.size, 0, none⟩ (.slice a5 t2.length c5)).setCell ⟨w.heap.size, 1, none⟩ (.slice q5 l2 d5)).heap.size = W.heap.size := setCells_heap w.heap.size [.slice a5 t2.length c5, .slice q5 l2 d5] 0 W
          have hot : ∀ k, k < W.heap.size → k ≠ w.heap.size → ((W.setCell ⟨w.heap.size, 0, none⟩ (.slice a5 t2.length c5)).setCell ⟨w.heap.size, 1, none⟩ (.slice q5 l2 d5)).heap[k]? = W.heap[k]? := fun k hk hne => World.heap_setCells_other W w.heap.size 0 [.slice a5 t2.length c5, .slice q5 l2 d5] hk hne
          refine ⟨⟨isR_keep HL5.out.1 (Nat.le_of_eq hsz.symm) fun hne q o' e hl' => hot q hl' (HOf.out.1 (by simpa using hne) q o' e).1, isR_keep HL5.out.2 (Nat.le_of_eq hsz.symm) fun hne q o' e hl' => hot q hl' (HOf.out.2 (by simpa using hne) q o' e).1⟩, (HC5.out.set 0 (by simp) _).set 1 (by simp) _, HR5.out.keep (Nat.le_of_eq hsz.symm) (hot _ HR5.out.lt (by omega)), ?_⟩
          exact ((step_b ck HB5.out).setCell (p := ⟨w.heap.size, 0, none⟩) (Nat.le_refl _) _).setCell (p := ⟨w.heap.size, 1, none⟩) (Nat.le_refl _) _
        have HFin := Lib.hid fin
        clear fin
        by_cases he : er = 0
        · have he2 : (er == 0) = true := by rw [he]; rfl
          have HT2 := Lib.hid (show allL s (l.take (j + 1)) = (t2, n) by rw [HTk.out, if_pos he]; rfl)
          have HZ := Lib.hid he
          clear he
          go_wp2_with fail
          go_roundw
          case rel => exact ⟨j + 1, a5, c5, q5, d5, by omega, by go_num, by rw [HT2.out], by rw [HT2.out]; simp only []; rw [HL2.out]; exact HFin.out.2.1, by rw [HT2.out]; exact HFin.out.1, by rw [HT2.out]; exact HOf.out.1, by rw [HT2.out]; exact HOf.out.2, HFin.out.2.2.1, HFin.out.2.2.2⟩
          case measure => simp [RowKit.intOf]; omega
        · have he2 : (er == 0) = false := beq_eq_false_iff_ne.2 he
          have HT2 := Lib.hid (show allL s (l.take (j + 1)) = (t2, n + 1) by rw [HTk.out, if_neg he])
          have HZ := Lib.hid he
          clear he
          go_wp2_with fail
          go_roundw
          case rel => exact ⟨j + 1, a5, c5, q5, d5, by omega, by go_num, by rw [HT2.out]; go_num, by rw [HT2.out]; simp only []; rw [HL2.out]; exact HFin.out.2.1, by rw [HT2.out]; exact HFin.out.1, by rw [HT2.out]; exact HOf.out.1, by rw [HT2.out]; exact HOf.out.2, HFin.out.2.2.1, HFin.out.2.2.2⟩
          case measure => simp [RowKit.intOf]; omega
      · have hN5 := (K5.set 0 (by simp) (.slice a5 t2.length c5)).set 1 (by simp) (.slice q5 (doAll [] t2).length d5)
        have hsz : ((w5.setCell ⟨wr.heap.size, 0, none⟩ (.slice a5 t2.length c5)).setCell ⟨wr.heap.size, 1, none⟩ (.slice q5 (doAll [] t2).length d5)).heap.size = w5.heap.size := setCells_heap wr.heap.size [.slice a5 t2.length c5, .slice q5 (doAll [] t2).length d5] 0 w5
        have hot : ∀ k, k < w5.heap.size → k ≠ wr.heap.size → ((w5.setCell ⟨wr.heap.size, 0, none⟩ (.slice a5 t2.length c5)).setCell ⟨wr.heap.size, 1, none⟩ (.slice q5 (doAll [] t2).length d5)).heap[k]? = w5.heap[k]? := fun k hk hne => World.heap_setCells_other w5 wr.heap.size 0 [.slice a5 t2.length c5, .slice q5 (doAll [] t2).length d5] hk hne
        have hnew : ((∀ q o, a5 = some ⟨q, o, none⟩ → wr.heap.size + 1 ≤ q) ∧ ∀ q o, q5 = some ⟨q, o, none⟩ → wr.heap.size + 1 ≤ q) ∨ (t2 = t ∧ a5 = a1 ∧ q5 = b1) := on5.symm.imp (fun ⟨h1, h2⟩ => ⟨fun q o e => by have := h1 q o e; simp at this; omega, fun q o e => by have := h2 q o e; simp at this; omega⟩) id
        have HL5 := Lib.hid (show IsLg ((w5.setCell ⟨wr.heap.size, 0, none⟩ (.slice a5 t2.length c5)).setCell ⟨wr.heap.size, 1, none⟩ (.slice q5 (doAll [] t2).length d5)) a5 c5 q5 d5 t2 from ⟨isR_keep hlg5.1 (Nat.le_of_eq hsz.symm) fun hne q o' e hl' => hot q hl' (by
          rcases hnew with ⟨h1, _⟩ | ⟨rfl, rfl, rfl⟩
          · have := h1 q o' e; omega
          · have := isR_lt HLg.out.1 hne q o' e; omega), isR_keep hlg5.2 (Nat.le_of_eq hsz.symm) fun hne q o' e hl' => hot q hl' (by
          rcases hnew with ⟨_, h1⟩ | ⟨rfl, rfl, rfl⟩
          · have := h1 q o' e; omega
          · have := isR_lt HLg.out.2 hne q o' e; omega)⟩)
        have HB5 := Lib.hid ((b5.setCell (p := ⟨wr.heap.size, 0, none⟩) (Nat.le_refl _) (.slice a5 t2.length c5)).setCell (p := ⟨wr.heap.size, 1, none⟩) (Nat.le_refl _) (.slice q5 (doAll [] t2).length d5))
        have HOn := Lib.hid (show OldNew wr t t2 a5 a1 q5 b1 from hnew.symm.imp id fun ⟨h1, h2⟩ => ⟨fun q o e => by have := h1 q o e; omega, fun q o e => by have := h2 q o e; omega⟩)
        obtain ⟨gn, hgn2⟩ : ∃ gn, gn = wr.heap.size := ⟨_, rfl⟩
        have hgn : wr.heap.size ≤ gn := by omega
        change Exit.then _ _ _ _ ((w5.setCell ⟨wr.heap.size, 0, none⟩ (.slice a5 t2.length c5)).setCell ⟨wr.heap.size, 1, none⟩ (.slice q5 (doAll [] t2).length d5))
        clear hlg5 c5b on5 b5 hsz hot hnew K5 r0 r1 f0 f1 hlt5
        generalize hWW : ((w5.setCell ⟨wr.heap.size, 0, none⟩ (.slice a5 t2.length c5)).setCell ⟨wr.heap.size, 1, none⟩ (.slice q5 (doAll [] t2).length d5)) = W at *
        clear hWW
        rw [← hgn2] at hN5 ⊢
        clear hgn2
        have hq2 := isR_lt HL5.out.1
        have hq3 := isR_lt HL5.out.2
        have hC5 := HC.out.belowN HC.out.lt HB5.out
        have hR5 := HR.out.belowN HR.out.lt HB5.out
        have x0 := hN5.cell 0 _ rfl
        have x1 := hN5.cell 1 _ rfl
        have y0 := hC5.cell 0 _ rfl
        have y1 := hC5.cell 1 _ rfl
        have f0 := hC5.free 0 (by simp)
        have f1 := hC5.free 1 (by simp)
        have hltC := hC5.lt
        have hneB := HR.out.lt
        have hoff := off_step (g := w.heap.size) (h := w.heap.size + 1) HOa.out HOb.out (by omega) (by omega) HOn.out
        have HOf := Lib.hid hoff
        obtain ⟨l2, hl2⟩ : ∃ x, (doAll [] t2).length = x := ⟨_, rfl⟩
        rw [hl2] at x1 hN5
        have HL2 := Lib.hid hl2
        have HC5 := Lib.hid hC5
        have HR5 := Lib.hid hR5
        clear hN5 hC5 hR5 hl2 hoff hq2 hq3
        have fin : IsLg ((W.setCell ⟨w.heap.size, 0, none⟩ (.slice a5 t2.length c5)).setCell ⟨w.heap.size, 1, none⟩ (.slice q5 l2 d5)) a5 c5 q5 d5 t2 ∧ Cells ((W.setCell ⟨w.heap.size, 0, none⟩ (.slice a5 t2.length c5)).setCell ⟨w.heap.size, 1, none⟩ (.slice q5 l2 d5)) w.heap.size [.slice a5 t2.length c5, .slice q5 l2 d5] ∧ Cells ((W.setCell ⟨w.heap.size, 0, none⟩ (.slice a5 t2.length c5)).setCell ⟨w.heap.size, 1, none⟩ (.slice q5 l2 d5)) (w.heap.size + 1) [.slice none 0 0, .slice none 0 0] ∧ Below w.heap.size w ((W.setCell ⟨w.heap.size, 0, none⟩ (.slice a5 t2.length c5)).setCell ⟨w.heap.size, 1, none⟩ (.slice q5 l2 d5)) := by
          have hsz : ((W.setCell ⟨w.heap.size, 0, none⟩ (.slice a5 t2.length c5)).setCell ⟨w.heap.size, 1, none⟩ (.slice q5 l2 d5)).heap.size = W.heap.size := setCells_heap w.heap.size [.slice a5 t2.length c5, .slice q5 l2 d5] 0 W
          have hot : ∀ k, k < W.heap.size → k ≠ w.heap.size → ((W.setCell ⟨w.heap.size, 0, none⟩ (.slice a5 t2.length c5)).setCell ⟨w.heap.size, 1, none⟩ (.slice q5 l2 d5)).heap[k]? = W.heap[k]? := fun k hk hne => World.heap_setCells_other W w.heap.size 0 [.slice a5 t2.length c5, .slice q5 l2 d5] hk hne
          refine ⟨⟨isR_keep HL5.out.1 (Nat.le_of_eq hsz.symm) fun hne q o' e hl' => hot q hl' (HOf.out.1 (by simpa using hne) q o' e).1, isR_keep HL5.out.2 (Nat.le_of_eq hsz.symm) fun hne q o' e hl' => hot q hl' (HOf.out.2 (by simpa using hne) q o' e).1⟩, (HC5.out.set 0 (by simp) _).set 1 (by simp) _, HR5.out.keep (Nat.le_of_eq hsz.symm) (hot _ HR5.out.lt (by omega)), ?_⟩
          exact ((step_b ck HB5.out).setCell (p := ⟨w.heap.size, 0, none⟩) (Nat.le_refl _) _).setCell (p := ⟨w.heap.size, 1, none⟩) (Nat.le_refl _) _
        have HFin := Lib.hid fin
        clear fin
        by_cases he : er = 0
        · have he2 : (er == 0) = true := by rw [he]; rfl
          have HT2 := Lib.hid (show allL s (l.take (j + 1)) = (t2, n) by rw [HTk.out, if_pos he]; rfl)
          have HZ := Lib.hid he
          clear he
          go_wp2_with fail
          go_roundw
          case rel => exact ⟨j + 1, a5, c5, q5, d5, by omega, by go_num, by rw [HT2.out], by rw [HT2.out]; simp only []; rw [HL2.out]; exact HFin.out.2.1, by rw [HT2.out]; exact HFin.out.1, by rw [HT2.out]; exact HOf.out.1, by rw [HT2.out]; exact HOf.out.2, HFin.out.2.2.1, HFin.out.2.2.2⟩
          case measure => simp [RowKit.intOf]; omega
        · have he2 : (er == 0) = false := beq_eq_false_iff_ne.2 he
          have HT2 := Lib.hid (show allL s (l.take (j + 1)) = (t2, n + 1) by rw [HTk.out, if_neg he])
          have HZ := Lib.hid he
          clear he
          go_wp2_with fail
          go_roundw
          case rel => exact ⟨j + 1, a5, c5, q5, d5, by omega, by go_num, by rw [HT2.out]; go_num, by rw [HT2.out]; simp only []; rw [HL2.out]; exact HFin.out.2.1, by rw [HT2.out]; exact HFin.out.1, by rw [HT2.out]; exact HOf.out.1, by rw [HT2.out]; exact HOf.out.2, HFin.out.2.2.1, HFin.out.2.2.2⟩
          case measure => simp [RowKit.intOf]; omega
    · obtain rfl : j = l.length := by omega
      have hj2 : ¬ (l.length : Int) < (l.length : Int) := by omega
      rw [List.take_length] at hC hLg hoa hob hnum ⊢
      obtain ⟨⟨t, n⟩, hrr⟩ : ∃ r, allL s l = r := ⟨_, rfl⟩
      have HRr := Lib.hid hrr
      rw [hrr] at hC hLg hoa hob hnum ⊢
      simp only [] at hC hLg hoa hob hnum ⊢
      obtain ⟨l2, hl2⟩ : ∃ x, (doAll [] t).length = x := ⟨_, rfl⟩
      have HL2 := Lib.hid hl2
      rw [hl2] at hC
      have HLg := Lib.hid hLg
      have HOa := Lib.hid hoa
      have HOb := Lib.hid hob
      have HR := Lib.hid hR
      have x0 := hC.cell 0 _ rfl
      have x1 := hC.cell 1 _ rfl
      have r0 := hR.cell 0 _ rfl
      have r1 := hR.cell 1 _ rfl
      have f0 := hR.free 0 (by simp)
      have f1 := hR.free 1 (by simp)
      have hlt := hR.lt
      clear hC hLg hoa hob hR hl2 hrr
      go_wp2_with fail
      have hQ := (HR.out.set 0 (by simp) (.slice a1 t.length c1)).set 1 (by simp) (.slice b1 l2 d1)
      have y0 := hQ.cell 0 _ rfl
      have y1 := hQ.cell 1 _ rfl
      have hsz : ((wr.setCell ⟨w.heap.size + 1, 0, none⟩ (.slice a1 t.length c1)).setCell ⟨w.heap.size + 1, 1, none⟩ (.slice b1 l2 d1)).heap.size = wr.heap.size := setCells_heap (w.heap.size + 1) [.slice a1 t.length c1, .slice b1 l2 d1] 0 wr
      have hot : ∀ g, g < wr.heap.size → g ≠ w.heap.size + 1 → ((wr.setCell ⟨w.heap.size + 1, 0, none⟩ (.slice a1 t.length c1)).setCell ⟨w.heap.size + 1, 1, none⟩ (.slice b1 l2 d1)).heap[g]? = wr.heap[g]? := fun g hg hne => World.heap_setCells_other wr (w.heap.size + 1) 0 [.slice a1 t.length c1, .slice b1 l2 d1] hg hne
      refine bodyPost_ret (v := .tuple #[.agg #[.slice a1 t.length c1, .slice b1 l2 d1], .int .i64 n]) (by simp [results, Try.results12, go_sem, y0, y1]) rfl ⟨a1, c1, b1, d1, by rw [HRr.out, ← HL2.out], ?_, (ck.setCell (p := ⟨w.heap.size + 1, 0, none⟩) (Nat.le_add_right _ _) _).setCell (p := ⟨w.heap.size + 1, 1, none⟩) (Nat.le_add_right _ _) _⟩
      rw [HRr.out]
      exact ⟨isR_keep HLg.out.1 (Nat.le_of_eq hsz.symm) fun hne q o' e hl' => hot q hl' (HOa.out (by simpa using hne) q o' e).2, isR_keep HLg.out.2 (Nat.le_of_eq hsz.symm) fun hne q o' e hl' => hot q hl' (HOb.out (by simpa using hne) q o' e).2⟩
end Go.Proofs.Ytnndanpahcdmaaa
