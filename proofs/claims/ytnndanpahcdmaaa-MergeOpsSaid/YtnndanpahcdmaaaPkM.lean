/- Several texts of this seat in one, in build order. -/
import Derived.Test.YtnndanpahcdmaaaPkR
import Derived.Test.YtnndanpahcdmaaaPkL
import Derived.Test.YtnndanpahcdmaaaOChk
import Derived.Test.YtnndanpahcdmaaaPkP
import Derived.WalkLawsBesides
import Derived.Laws.Tables
import Derived.Test.YtnndanpahcdmaaaTCode
/-
  NO PROGRAM: a slice of records without room to spare is appended to: what comes is the call's own, and all that was there is as it was.
-/
namespace Go.Proofs.Ytnndanpahcdmaaa
open Go.RowKit Go.Lib
section
variable {α : Type}
theorem run_append_full {P : Program} {f : α → List Value} {k : Nat} (hf : ∀ x, (f x).length = k) (w : World) (t ty e : TypeId) (i : TypeInfo) (z : Value) (bytes : Nat) (ht : P.underlying t = some (.slice e)) (hi : P.info? e = some i) (hz : i.zero = some z) (hsize : i.size = k) (hby : i.bytes = bytes) (hzs : z.cells.size = k)
    {a : Option Addr} {l m : List α} (h : IsR f k w a l.length l) (hm : m ≠ []) (x : Value) (hs : Src P k t x m.length (cellsR f m) w) (h63 : l.length + m.length ≤ maxLen) (hbytes : (l.length + m.length) * bytes ≤ 140737488355328) :
    ∃ v' w', (Builtin.append_ #[t, t] ty #[.slice a l.length l.length, x]).run P w = .ok v' w' ∧ OwnR f k w.heap.size (l ++ m) v' w' ∧ w.grownBy w' none ∧ ∀ g, v'.ownBlock = some g → w.heap.size ≤ g ∧ g < w'.heap.size := by
  subst hsize
  subst hby
  have hl := cellsR_len hf l
  have hnl := hs.newsLen
  have hm0 : 0 < m.length := List.length_pos_iff.2 hm
  have hsmall : l.length + m.length ≤ 9223372036854775807 := by simp only [maxLen] at h63; omega
  have hxl : (cellsR f l ++ cellsR f m).length = (l.length + m.length) * i.size := by rw [List.length_append, hl, hnl, Nat.add_mul]
  have hold : (Builtin.firstCells i.size l.length (.slice a l.length l.length)).run P w.drew = .ok (cellsR f l).toArray w.drew := by
    cases a with
    | none =>
      have h0 := h.2.1 rfl
      obtain rfl : l = [] := List.eq_nil_of_length_eq_zero h0
      exact run_firstCells_none w.drew i.size 0 0 0
    | some ad => exact run_firstCells_some w.drew i.size l.length ad l.length l.length (cellsR f l) hl (fun j u hu => isR_src hf h j u hu)
  have hrun := run_append_grow_src (P := P) w t t ty e i z ht hi hz a l.length l.length (cellsR f l) hold x m.length (cellsR f m) hs (by omega) (by omega) (growslice_fits (by omega) hbytes)
  have hge := grownCap_ge w (l.length + m.length) l.length e
  have hsz : ((cellsR f l ++ cellsR f m).toArray ++ Builtin.zeroCells z.cells (grownCap w (l.length + m.length) l.length e - (l.length + m.length))).size = grownCap w (l.length + m.length) l.length e * i.size := by
    rw [Array.size_append, size_zeroCells, hzs]
    show (cellsR f l ++ cellsR f m).length + _ = _
    rw [hxl, ← Nat.add_mul]
    congr 1; omega
  refine ⟨_, _, hrun, ?_, grownBy_drew_alloc w _ _, fun g hg => ?_⟩
  · unfold OwnR
    rw [cellsR_append, List.length_append]
    refine ⟨hxl, .inr ⟨w.heap.size, grownCap w (l.length + m.length) l.length e, rfl, Nat.le_refl _, Nat.lt_of_lt_of_eq (Nat.lt_succ_self w.drew.heap.size) (by simp), hge, grownCap_le_maxLen w _ _ _ h63, fun j u hj => ?_, fun j hj => ?_⟩⟩
    · rw [World.cell?_alloc_at (w := w.drew) _ _ _ _ (show w.heap.size = w.drew.heap.size from rfl)]
      have hlt : j < (cellsR f l ++ cellsR f m).length := (List.getElem?_eq_some_iff.1 hj).1
      rw [Array.getElem?_append_left (by simpa using hlt), List.getElem?_toArray]
      exact hj
    · rw [World.cell?_alloc_at (w := w.drew) _ _ _ _ (show w.heap.size = w.drew.heap.size from rfl), World.frozen?_alloc_at (w := w.drew) _ _ _ _ (show w.heap.size = w.drew.heap.size from rfl)]
      refine ⟨?_, rfl⟩
      rw [Array.getElem?_eq_getElem (by rw [hsz]; exact hj)]; rfl
  · simp [Value.ownBlock] at hg
    subst hg
    exact ⟨Nat.le_refl _, Nat.lt_of_lt_of_eq (Nat.lt_succ_self w.drew.heap.size) (by simp)⟩
/-- v is a slice of the call's own whose row is block r, or (r is none) one that is read, was so in a world w0, and has no room to spare. -/
def FitR (f : α → List Value) (k : Nat) (w0 : World) (B : Nat) (l : List α) (v : Value) (r : Option Nat) (w : World) : Prop :=
  (r = v.ownBlock ∧ OwnR f k B l v w) ∨ (r = none ∧ ∃ a, v = .slice a l.length l.length ∧ IsR f k w0 a l.length l)
/-- append to such a one. -/
theorem wpList_append_fit {P : Program} {f : α → List Value} {k : Nat} (hf : ∀ x, (f x).length = k) {w w0 : World} {ops : Array Oper} {rest : List Oper} {o : Oper} {a : Act} {Q : Exit → Act → World → Prop} (hgd : o.guard = none) (s y : Operand) (t : TypeId)
    (ho : o.op = .call { callee := .builtin .append, args := #[s, y], argTypes := #[t, t] })
    (B : Nat) (e : TypeId) (i : TypeInfo) (z : Value) (bytes : Nat) (ht : P.underlying t = some (.slice e)) (hi : P.info? e = some i) (hz : i.zero = some z) (hsize : i.size = k) (hby : i.bytes = bytes) (hzs : z.cells.size = k)
    (v : Value) (r : Option Nat) (l m : List α) (hv : a.eval s = v) (h : FitR f k w0 B l v r w) (h0 : Below w0.heap.size w0 w) (hm : m ≠ []) (x : Value) (hx : a.eval y = x) (hs : Src P k t x m.length (cellsR f m) w) (h63 : l.length + m.length ≤ maxLen) (hbytes : (l.length + m.length) * bytes ≤ 140737488355328) (hB : B ≤ w.heap.size)
    (hK : ∀ v' w', OwnR f k B (l ++ m) v' w' → w.grownBy w' r → (∀ g, v'.ownBlock = some g → (w.heap.size ≤ g ∨ r = some g) ∧ g < w'.heap.size) → wpList P ops Q rest (a.put o.dst v') w') : wpList P ops Q (o :: rest) a w := by
  rcases h with ⟨rfl, h⟩ | ⟨rfl, b, rfl, h⟩
  · exact wpList_append_recG f hgd s y t ho B e i z bytes ht hi hz hsize hby hzs v l m hv h x hx hs h63 hbytes hB fun v' w' q1 _ q2 q3 => hK v' w' q1 q2 q3
  · refine wpList_plain hgd fun K hK' => ?_
    obtain ⟨v', w', hrun, h1, h2, h3⟩ := run_append_full (P := P) hf w t o.type e i z bytes ht hi hz hsize hby hzs (h.below h0) hm x hs h63 hbytes
    unfold Oper.wp
    simp [execOp, ho, resolve, invoke, builtin, hv, hx, hrun, Result.andThen]
    exact hK' _ _ (hK v' w' (OwnR.mono h1 hB) h2 fun g hg => ⟨.inl (h3 g hg).1, (h3 g hg).2⟩)
theorem FitR.isR {f : α → List Value} {k : Nat} (hf : ∀ x, (f x).length = k) {w0 w : World} {B : Nat} {l : List α} {v : Value} {r : Option Nat} (h : FitR f k w0 B l v r w) (h0 : Below w0.heap.size w0 w) : ∃ a c, v = .slice a l.length c ∧ IsR f k w a c l := by
  rcases h with ⟨_, h⟩ | ⟨_, a, rfl, h⟩
  · exact h.isR hf
  · exact ⟨a, _, rfl, h.below h0⟩
theorem FitR.row {f : α → List Value} {k : Nat} {w0 w : World} {B : Nat} {l : List α} {v : Value} {r : Option Nat} (h : FitR f k w0 B l v r w) : ∀ g, r = some g → B ≤ g ∧ g < w.heap.size := fun g hg => by
  rcases h with ⟨rfl, h⟩ | ⟨rfl, _⟩
  · exact OwnC.lt h g hg
  · cases hg
theorem FitR.keep {f : α → List Value} {k : Nat} {w0 w w' : World} {B : Nat} {l : List α} {v : Value} {r : Option Nat} (h : FitR f k w0 B l v r w) (hs : w.heap.size ≤ w'.heap.size) (hb : ∀ g, r = some g → w'.heap[g]? = w.heap[g]?) : FitR f k w0 B l v r w' := by
  rcases h with ⟨rfl, h⟩ | h
  · exact .inl ⟨rfl, OwnC.own h hs hb⟩
  · exact .inr h
theorem OwnR.keep {f : α → List Value} {k : Nat} {w w' : World} {B : Nat} {l : List α} {v : Value} (h : OwnR f k B l v w) (hs : w.heap.size ≤ w'.heap.size) (hb : ∀ g, v.ownBlock = some g → w'.heap[g]? = w.heap[g]?) : OwnR f k B l v w' := OwnC.own h hs hb
end
end Go.Proofs.Ytnndanpahcdmaaa
/-
  The landed package merge: Has, by the library's ContainsFunc and a closure; what is asked ahead of an operation more.
-/
namespace Go.Proofs.Ytnndanpahcdmaaa
open Go.RowKit Go.Lib
/-- The cells of an entry, each by itself. -/
def AtEn (w : World) (b off : Nat) (e : Enl) : Prop :=
  w.cell? ⟨b, off, none⟩ = some (.int .i64 e.o.c) ∧ w.cell? ⟨b, off + 1, none⟩ = some (.int .i64 e.o.r) ∧ w.cell? ⟨b, off + 2, none⟩ = some (.int .i64 e.o.k) ∧ w.cell? ⟨b, off + 3, none⟩ = some (.int .i64 e.o.n) ∧ w.cell? ⟨b, off + 4, none⟩ = some (.int .i64 e.o.p) ∧ w.cell? ⟨b, off + 5, none⟩ = some (.string e.o.s) ∧ w.cell? ⟨b, off + 6, none⟩ = some (.string e.o.d) ∧ w.cell? ⟨b, off + 7, none⟩ = some (.bool e.u.did) ∧ w.cell? ⟨b, off + 8, none⟩ = some (.bool e.u.had) ∧ w.cell? ⟨b, off + 9, none⟩ = some (.int .i64 e.u.was.id) ∧ w.cell? ⟨b, off + 10, none⟩ = some (.int .i64 e.u.was.p) ∧ w.cell? ⟨b, off + 11, none⟩ = some (.string e.u.was.s) ∧ w.cell? ⟨b, off + 12, none⟩ = some (.int .i64 e.u.was.mc) ∧ w.cell? ⟨b, off + 13, none⟩ = some (.int .i64 e.u.was.mr) ∧ w.cell? ⟨b, off + 14, none⟩ = some (.string e.u.was.d) ∧ w.cell? ⟨b, off + 15, none⟩ = some (.int .i64 e.u.was.wc) ∧ w.cell? ⟨b, off + 16, none⟩ = some (.int .i64 e.u.was.wr)
theorem atEn_of {w : World} {b off : Nat} {e : Enl} (h : AtE w b off e) : AtEn w b off e := ⟨h 0 _ rfl, h 1 _ rfl, h 2 _ rfl, h 3 _ rfl, h 4 _ rfl, h 5 _ rfl, h 6 _ rfl, h 7 _ rfl, h 8 _ rfl, h 9 _ rfl, h 10 _ rfl, h 11 _ rfl, h 12 _ rfl, h 13 _ rfl, h 14 _ rfl, h 15 _ rfl, h 16 _ rfl⟩
set_option maxRecDepth 100000 in
set_option maxHeartbeats 4000000 in
theorem mis_any (n : Enl) (gt : Nat) (x y : Int) (w : World) (h : Cells w gt [.int .i64 x, .int .i64 y]) :
    Calls Try.prog 35 #[EV n, .pointer (some ⟨gt, 0, none⟩)] w fun e w' => e = .returned (.bool (decide (n.o.c = x ∧ n.o.r = y))) ∧ Below w.heap.size w w' := by
  obtain ⟨A, hA⟩ : ∃ A, A = w.alloc (.cells #[.int .i64 n.o.c, .int .i64 n.o.r, .int .i64 n.o.k, .int .i64 n.o.n, .int .i64 n.o.p, .string n.o.s, .string n.o.d, .bool n.u.did, .bool n.u.had, .int .i64 n.u.was.id, .int .i64 n.u.was.p, .string n.u.was.s, .int .i64 n.u.was.mc, .int .i64 n.u.was.mr, .string n.u.was.d, .int .i64 n.u.was.wc, .int .i64 n.u.was.wr] 49) := ⟨_, rfl⟩
  have qA : Below w.heap.size w A := by rw [hA]; exact below_alloc _ _
  have HN : Cells A w.heap.size (cellsE n) := by rw [hA]; exact cells_new w (cellsE n) 49
  have HT := h.below qA
  have t0 := HT.cell 0 _ rfl
  have t1 := HT.cell 1 _ rfl
  have HB := Lib.hid qA
  rw [hA] at t0 t1
  clear h HN HT qA
  go_enter Try.func35, Try.ntmps35
  by_cases e1 : n.o.c = x
  · have d1 : (n.o.c == x) = true := beq_iff_eq.2 e1
    by_cases e2 : n.o.r = y
    · have d2 : (n.o.r == y) = true := beq_iff_eq.2 e2
      have HE := Lib.hid (decide_eq_true (show n.o.c = x ∧ n.o.r = y from ⟨e1, e2⟩))
      clear e1 e2
      go_wp2_with fail
      go_ret
      exact ⟨by rw [HE.out]; rfl, by rw [← hA]; exact HB.out⟩
    · have d2 : (n.o.r == y) = false := beq_eq_false_iff_ne.2 e2
      have HE := Lib.hid (decide_eq_false (show ¬ (n.o.c = x ∧ n.o.r = y) from fun h => e2 h.2))
      clear e1 e2
      go_wp2_with fail
      go_ret
      exact ⟨by rw [HE.out]; rfl, by rw [← hA]; exact HB.out⟩
  · have d1 : (n.o.c == x) = false := beq_eq_false_iff_ne.2 e1
    have HE := Lib.hid (decide_eq_false (show ¬ (n.o.c = x ∧ n.o.r = y) from fun h => e1 h.1))
    clear e1
    go_wp2_with fail
    go_ret
    exact ⟨by rw [HE.out]; rfl, by rw [← hA]; exact HB.out⟩
set_option maxRecDepth 100000 in
set_option maxHeartbeats 4000000 in
theorem mindex_any (a : Option Addr) (c gt : Nat) (s : List Opn) (x y : Int) (w : World) (h : IsEn w a c (ents s)) (ht : Cells w gt [.int .i64 x, .int .i64 y]) (hl : s.length ≤ 100000) :
    Calls Try.prog 54 #[.slice a s.length c, .func (.func 35) #[] #[.pointer (some ⟨gt, 0, none⟩)]] w
      fun e w' => (∃ k : Int, e = .returned (.int .i64 k) ∧ decide (0 ≤ k) = hasS s x y) ∧ Below w.heap.size w w' := by
  have HI := Lib.hid h
  have HT := Lib.hid ht
  clear h ht
  go_enter Try.func54, Try.ntmps54
  go_wp2
  go_loopw [5, 8] (fun _ u w' => ∃ k : Nat, k ≤ s.length ∧ u = .int .i64 k ∧ hasS (s.take k) x y = false ∧ Below w.heap.size w w') (fun _ u _ => s.length - (RowKit.intOf u).toNat)
  case atStart => exact ⟨0, Nat.zero_le _, rfl, rfl, Below.refl _ _⟩
  case round =>
    obtain ⟨k, hk, rfl, hf, ck⟩ := hrel
    have HF := Lib.hid hf
    clear hf
    by_cases hks : k < s.length
    · obtain ⟨o, ho⟩ : ∃ o, s[k]? = some o := ⟨s[k], List.getElem?_eq_getElem hks⟩
      have hee := ents_at ho
      obtain ⟨g, off, rfl, hlt, hc⟩ := (IsR.below HI.out ck).ent hee
      have hAt := hc k _ hee
      generalize hen : (⟨o, (doN (doAll [] (s.take k)) o).2⟩ : Enl) = en at hAt
      have heo : en.o = o := by rw [← hen]
      obtain ⟨m0, m1, m2, m3, m4, m5, m6, m7, m8, m9, m10, m11, m12, m13, m14, m15, m16⟩ := atEn_of hAt
      have hks2 : (k : Int) < (s.length : Int) := by omega
      have HS := Lib.hid (show hasS (s.take (k + 1)) x y = (hasS (s.take k) x y || decide (en.o.c = x ∧ en.o.r = y)) by
        unfold hasS
        rw [List.take_add_one, ho, List.any_append, heo]; simp)
      have HY := Lib.hid (show decide (en.o.c = x ∧ en.o.r = y) = true → hasS s x y = true from fun e1 => by
        unfold hasS
        rw [List.any_eq_true]
        exact ⟨o, List.mem_of_getElem? ho, by rw [← heo]; exact e1⟩)
      have HC := Lib.hid (fun (w' : World) (hb : Below w.heap.size w w') => mis_any en gt x y w' (HT.out.belowN HT.out.lt hb))
      clear hc hAt hee hen heo ho
      obtain ⟨q, hq⟩ : ∃ q, decide (en.o.c = x ∧ en.o.r = y) = q := ⟨_, rfl⟩
      rw [hq] at HS HY HC
      clear hq
      cases q with
      | true =>
        have HV := Lib.hid (HY.out rfl)
        go_wp2_with fail
        refine (HC.out _ ck).mono ?_
        rintro e w2 ⟨rfl, c2⟩
        have b2 := step_b ck c2
        go_wp2_with fail
        go_ret
        exact ⟨⟨k, rfl, by rw [HV.out]; simp⟩, b2⟩
      | false =>
        have HV := Lib.hid (show hasS (s.take (k + 1)) x y = false by rw [HS.out, HF.out]; rfl)
        go_wp2_with fail
        refine (HC.out _ ck).mono ?_
        rintro e w2 ⟨rfl, c2⟩
        have b2 := step_b ck c2
        go_wp2_with fail
        go_roundw
        case rel => exact ⟨k + 1, by omega, by go_num, HV.out, b2⟩
        case measure => simp [RowKit.intOf]; omega
    · have hke : k = s.length := by omega
      have hks2 : ¬ (k : Int) < (s.length : Int) := by omega
      have HV := Lib.hid (show hasS s x y = false by rw [← HF.out, hke, List.take_length])
      go_wp2_with fail
      go_ret
      exact ⟨⟨-1, rfl, by rw [HV.out]; rfl⟩, ck⟩
end Go.Proofs.Ytnndanpahcdmaaa
/-
  The landed package merge: Has; what is asked ahead of an operation more.
-/
namespace Go.Proofs.Ytnndanpahcdmaaa
open Go.RowKit Go.Lib
set_option maxRecDepth 100000 in
set_option maxHeartbeats 4000000 in
theorem mcontains_any (a : Option Addr) (c gt : Nat) (s : List Opn) (x y : Int) (w : World) (h : IsEn w a c (ents s)) (ht : Cells w gt [.int .i64 x, .int .i64 y]) (hl : s.length ≤ 100000) :
    Calls Try.prog 34 #[.slice a s.length c, .func (.func 35) #[] #[.pointer (some ⟨gt, 0, none⟩)]] w
      fun e w' => e = .returned (.bool (hasS s x y)) ∧ Below w.heap.size w w' := by
  have H := Lib.hid (mindex_any a c gt s x y w h ht hl)
  obtain ⟨q, hq⟩ : ∃ q, hasS s x y = q := ⟨_, rfl⟩
  rw [hq] at H ⊢
  clear h ht hq
  go_enter Try.func34, Try.ntmps34
  go_wp2_with fail
  refine (H.out).mono ?_
  rintro e w1 ⟨⟨k, rfl, hk⟩, c1⟩
  obtain ⟨q2, hq2⟩ : ∃ q2, decide (0 ≤ k) = q2 := ⟨_, rfl⟩
  rw [hq2] at hk
  subst hk
  go_wp2_with fail
  go_ret
  exact ⟨rfl, c1⟩
set_option maxRecDepth 100000 in
set_option maxHeartbeats 4000000 in
theorem mhas_any (a : Option Addr) (c : Nat) (b : Option Addr) (d : Nat) (s : List Opn) (x y : Int) (w : World) (h : IsLg w a c b d s) (hl : s.length ≤ 100000) :
    Calls Try.prog 16 #[LV a c b d s, .agg #[.int .i64 x, .int .i64 y]] w fun e w' => e = .returned (.bool (hasS s x y)) ∧ Below w.heap.size w w' := by
  have hmf : ∀ (fn : Fn) (first cap : Array Value) (w : World), (Instr.makeFunc fn first cap).run Try.prog w = .ok (.func fn first cap) w := fun _ _ _ _ => rfl
  obtain ⟨n, hn⟩ : ∃ n, (doAll [] s).length = n := ⟨_, rfl⟩
  change Calls _ _ #[.agg #[.slice a s.length c, .slice b (doAll [] s).length d], .agg #[.int .i64 x, .int .i64 y]] _ _
  rw [hn]
  obtain ⟨A, hA⟩ : ∃ A, A = (w.alloc (.cells #[.slice a s.length c, .slice b n d] 32)).alloc (.cells #[.int .i64 x, .int .i64 y] 24) := ⟨_, rfl⟩
  have T0 := cells_new (w.alloc (.cells #[.slice a s.length c, .slice b n d] 32)) [.int .i64 x, .int .i64 y] 24
  rw [show (w.alloc (.cells #[.slice a s.length c, .slice b n d] 32)).heap.size = w.heap.size + 1 by simp] at T0
  have bA := ((Below.refl w.heap.size w).alloc (Nat.le_refl _) (.cells #[.slice a s.length c, .slice b n d] 32)).alloc (by simp) (.cells #[.int .i64 x, .int .i64 y] 24)
  have HC := Lib.hid (mcontains_any a c (w.heap.size + 1) s x y A (by rw [hA]; exact IsR.below h.1 bA) (by rw [hA]; exact T0) hl)
  have HB := Lib.hid bA
  obtain ⟨q, hq⟩ : ∃ q, hasS s x y = q := ⟨_, rfl⟩
  rw [hq] at HC ⊢
  rw [hA] at HC
  clear h hn T0 bA hq hA
  go_enter Try.func16, Try.ntmps16
  go_wp2_with fail
  refine (HC.out).mono ?_
  rintro e w1 ⟨rfl, c1⟩
  go_wp2_with fail
  go_ret
  exact ⟨rfl, step_b HB.out c1⟩
/-- What is new, and may be. -/
def askB (s : List Opn) (o : Opn) : Bool := mayO o && (!(hasS s o.c o.r) && decide (s.length < 200))
theorem ask_yes {s : List Opn} {o : Opn} (h : askB s o = true) : mayO o = true ∧ hasS s o.c o.r = false ∧ s.length < 200 := by
  unfold askB at h
  simp only [Bool.and_eq_true, Bool.not_eq_true', decide_eq_true_eq] at h
  exact h
theorem add_yes {s : List Opn} {o : Opn} (h : askB s o = true) : addL s o = (insS o s, 0) := by
  obtain ⟨h1, h2, h3⟩ := ask_yes h
  unfold addL
  rw [if_pos h1, h2, if_neg (by simp), if_neg (by omega)]
theorem add_no {s : List Opn} {o : Opn} (h : askB s o = false) : addL s o = (s, (addL s o).2) := by
  unfold askB at h
  unfold addL
  cases h1 : mayO o with
  | false => rfl
  | true =>
    cases h2 : hasS s o.c o.r with
    | true => rfl
    | false =>
      rw [h1, h2] at h
      simp only [Bool.not_false, Bool.true_and, decide_eq_false_iff_not] at h
      simp only [if_true]
      rw [if_neg (by simp), if_pos (by omega)]
set_option maxRecDepth 100000 in
set_option maxHeartbeats 4000000 in
theorem mask_any (a : Option Addr) (c : Nat) (b : Option Addr) (d : Nat) (s : List Opn) (o : Opn) (w : World) (h : IsLg w a c b d s) (hl : s.length ≤ 100000) (ho : o.s.size ≤ 1000000) (hro : RgO o) :
    Calls Try.prog 29 #[LV a c b d s, OV o] w fun e w' => e = .returned (.tuple #[.bool (askB s o), .int .i64 (addL s o).2]) ∧ Below w.heap.size w w' := by
  have HHas := Lib.hid (fun (w' : World) (hb : Below w.heap.size w w') => mhas_any a c b d s o.c o.r w' (h.below hb) hl)
  have HMay := Lib.hid (fun w => ochk_any o w (by unfold maxLen; omega) hro.2.2.2.1 hro.2.2.2.2)
  have hA : ∀ m1 m2 : Bool, mayO o = m1 → hasS s o.c o.r = m2 → askB s o = (m1 && (!m2 && decide (s.length < 200))) ∧ (addL s o).2 = if m1 then (if m2 then 0 else if 200 ≤ s.length then 193 else 0) else 50 := by
    rintro m1 m2 rfl rfl
    refine ⟨rfl, ?_⟩
    unfold addL
    split
    · split
      · rfl
      · split <;> rfl
    · rfl
  obtain ⟨m1, hm1⟩ : ∃ x, mayO o = x := ⟨_, rfl⟩
  obtain ⟨m2, hm2⟩ : ∃ x, hasS s o.c o.r = x := ⟨_, rfl⟩
  have hr := hA m1 m2 hm1 hm2
  rw [hm1] at HMay
  rw [hm2] at HHas
  rw [hr.1, hr.2]
  change Calls _ _ #[.agg #[.slice a s.length c, .slice b (doAll [] s).length d], OV o] _ _
  change Hid (∀ (w' : World) (hb : Below w.heap.size w w'), Calls _ _ #[.agg #[.slice a s.length c, .slice b (doAll [] s).length d], _] _ _) at HHas
  generalize (doAll [] s).length = n at HHas ⊢
  obtain ⟨A, hAA⟩ : ∃ A, A = (w.alloc (.cells #[.slice a s.length c, .slice b n d] 32)).alloc (.cells #[.int .i64 o.c, .int .i64 o.r, .int .i64 o.k, .int .i64 o.n, .int .i64 o.p, .string o.s, .string o.d] 26) := ⟨_, rfl⟩
  have g0 : Cells A w.heap.size [.slice a s.length c, .slice b n d] := by rw [hAA]; exact (cells_new w [.slice a s.length c, .slice b n d] 32).below (below_alloc _ _)
  have g1 : Cells A (w.heap.size + 1) (cellsOp o) := by
    rw [hAA]
    have q := cells_new (w.alloc (.cells #[.slice a s.length c, .slice b n d] 32)) (cellsOp o) 26
    rw [show (w.alloc (.cells #[.slice a s.length c, .slice b n d] 32)).heap.size = w.heap.size + 1 by simp] at q
    exact q
  have gb : Below w.heap.size w A := by rw [hAA]; exact ((Below.refl w.heap.size w).alloc (Nat.le_refl _) _).alloc (by simp) _
  have k0 := g1.cell 0 _ rfl
  have k1 := g1.cell 1 _ rfl
  have k2 := g1.cell 2 _ rfl
  have k3 := g1.cell 3 _ rfl
  have k4 := g1.cell 4 _ rfl
  have k5 := g1.cell 5 _ rfl
  have k6 := g1.cell 6 _ rfl
  have G0 := Lib.hid g0
  have G1 := Lib.hid g1
  have GB := Lib.hid gb
  clear g0 g1 gb h hm1 hm2 hA hr
  go_enter Try.func29, Try.ntmps29
  go_wp2_with fail
  rw [← hAA]
  clear hAA
  refine (HMay.out _).mono ?_
  rintro e w1 ⟨rfl, c1⟩
  have B1 := Lib.hid (step_b GB.out c1)
  have A0 := Lib.hid (G0.out.below c1)
  have A1 := Lib.hid (G1.out.below c1)
  clear c1 k0 k1 k2 k3 k4 k5 k6
  have x0 := A0.out.cell 0 _ rfl
  have x1 := A0.out.cell 1 _ rfl
  have k0 := A1.out.cell 0 _ rfl
  have k1 := A1.out.cell 1 _ rfl
  cases m1 with
  | false =>
    go_wp2_with fail
    exact bodyPost_ret (v := .tuple #[.bool false, .int .i64 50]) (by simp [results, Try.results29, go_sem]) rfl ⟨rfl, B1.out⟩
  | true =>
    go_wp2_with fail
    refine (HHas.out _ B1.out).mono ?_
    rintro e w2 ⟨rfl, c2⟩
    have B2 := Lib.hid (step_b B1.out c2)
    have D0 := Lib.hid (A0.out.below c2)
    clear c2 k0 k1 x0 x1
    have x0 := D0.out.cell 0 _ rfl
    cases m2 with
    | true =>
      go_wp2_with fail
      exact bodyPost_ret (v := .tuple #[.bool false, .int .i64 0]) (by simp [results, Try.results29, go_sem]) rfl ⟨rfl, B2.out⟩
    | false =>
      by_cases h200 : 200 ≤ s.length
      · have hi : (200 : Int) ≤ (s.length : Int) := by omega
        have hd := Lib.hid (show decide (s.length < 200) = false from decide_eq_false (by omega))
        go_wp2_with fail
        exact bodyPost_ret (v := .tuple #[.bool false, .int .i64 193]) (by simp [results, Try.results29, go_sem]) rfl ⟨by rw [hd.out], B2.out⟩
      · have hi : ¬ (200 : Int) ≤ (s.length : Int) := by omega
        have hd := Lib.hid (show decide (s.length < 200) = true from decide_eq_true (by omega))
        go_wp2_with fail
        exact bodyPost_ret (v := .tuple #[.bool true, .int .i64 0]) (by simp [results, Try.results29, go_sem]) rfl ⟨by rw [hd.out], B2.out⟩
end Go.Proofs.Ytnndanpahcdmaaa
/-
  The landed package merge: a log in memory of its own.
-/
namespace Go.Proofs.Ytnndanpahcdmaaa
open Go.RowKit Go.Lib
theorem wpList_build_c {P : Program} {ops : Array Oper} {rest : List Oper} {o : Oper} {a : Act} {w : World} {Q : Exit → Act → World → Prop} (hg : o.guard = none) (t : TypeId) (parts : Array (Nat × Operand)) (ho : o.op = .build t parts) (ps : List (Nat × Value)) (cells : Array Value)
    (hc : P.built t ps = some cells) (hp : (parts.map fun (i, x) => (i, a.eval x)).toList = ps)
    (h : wpList P ops Q rest (a.put o.dst (.agg cells)) w) : wpList P ops Q (o :: rest) a w :=
  wpList_build hg t parts ho (by rw [hp, hc]; rfl) (by rw [hp, hc]; exact h)
set_option maxRecDepth 100000 in
theorem built_log (a b : Option Addr) (n c m d : Nat) : Try.prog.built 32 [(0, .slice a n c), (1, .slice b m d)] = some #[.slice a n c, .slice b m d] := by kernel_rfl
set_option maxRecDepth 100000 in
set_option maxHeartbeats 4000000 in
theorem mclone_e (a : Option Addr) (c : Nat) (l : List Enl) (w : World) (h : IsEn w a c l) (hl : l.length ≤ 100000) :
    Calls Try.prog 43 #[.slice a l.length c] w fun e w' => ∃ v, e = .returned v ∧ OwnEn w.heap.size l v w' ∧ Below w.heap.size w w' := by
  obtain ⟨iE, hiE, hzE, hszE, hbyE⟩ := info_parts infoE
  have HI := Lib.hid h
  clear h
  have hq : ∀ w : World, (Go.binOp .eql 29 (.slice a l.length c) (.slice none 0 0)).run Try.prog w = .ok (.bool a.isNone) w := fun w => run_eql_slice_nil w _ _ a _ _ _ _ Try.underlying29
  go_enter Try.func43, Try.ntmps43
  cases a with
  | none =>
    simp only [Option.isNone_none] at hq
    obtain rfl : c = 0 := HI.out.2.1 rfl
    obtain rfl : l = [] := List.eq_nil_of_length_eq_zero (Nat.le_zero.1 HI.out.1)
    simp only [List.length_nil] at hq ⊢
    clear HI hl
    go_wp2_with fail
    go_ret
    exact ⟨_, rfl, ownR_nil _ _ _ _, Below.refl _ _⟩
  | some ad =>
    simp only [Option.isNone_some] at hq
    have q0 := below_alloc w (.cells #[] 49)
    have hlt : w.heap.size ≤ (w.alloc (.cells #[] 49)).heap.size := q0.size
    go_wp2_with (at_builtin; refine wpList_append_rec cellsE rfl _ _ 29 rfl w.heap.size 49 iE _ 160 Try.underlying29 hiE hzE hszE hbyE rfl _ [] l rfl (ownR_empty cellsE 17 49 w w.heap.size (Nat.le_refl _)) _ rfl (src_rec en_len en_one Try.underlying29 (HI.out.below q0)) ?c1 ?c2 ?c3 ?_)
    case c1 => unfold maxLen; simp; omega
    case c2 => simp; omega
    case c3 => exact hlt
    intro v3 w3 ho3 c3
    have b3 := q0.trans c3
    go_wp2_with fail
    go_ret
    exact ⟨v3, rfl, ho3, b3⟩
set_option maxRecDepth 100000 in
set_option maxHeartbeats 4000000 in
theorem mclone_n (a : Option Addr) (c : Nat) (l : List Nod) (w : World) (h : IsNd w a c l) (hl : l.length ≤ 100000) :
    Calls Try.prog 44 #[.slice a l.length c] w fun e w' => ∃ v, e = .returned v ∧ OwnNd w.heap.size l v w' ∧ Below w.heap.size w w' := by
  obtain ⟨iE, hiE, hzE, hszE, hbyE⟩ := info_parts infoN
  have HI := Lib.hid h
  clear h
  have hq : ∀ w : World, (Go.binOp .eql 30 (.slice a l.length c) (.slice none 0 0)).run Try.prog w = .ok (.bool a.isNone) w := fun w => run_eql_slice_nil w _ _ a _ _ _ _ Try.underlying30
  go_enter Try.func44, Try.ntmps44
  cases a with
  | none =>
    simp only [Option.isNone_none] at hq
    obtain rfl : c = 0 := HI.out.2.1 rfl
    obtain rfl : l = [] := List.eq_nil_of_length_eq_zero (Nat.le_zero.1 HI.out.1)
    simp only [List.length_nil] at hq ⊢
    clear HI hl
    go_wp2_with fail
    go_ret
    exact ⟨_, rfl, ownR_nil _ _ _ _, Below.refl _ _⟩
  | some ad =>
    simp only [Option.isNone_some] at hq
    have q0 := below_alloc w (.cells #[] 45)
    have hlt : w.heap.size ≤ (w.alloc (.cells #[] 45)).heap.size := q0.size
    go_wp2_with (at_builtin; refine wpList_append_rec cellsNd rfl _ _ 30 rfl w.heap.size 45 iE _ 80 Try.underlying30 hiE hzE hszE hbyE rfl _ [] l rfl (ownR_empty cellsNd 8 45 w w.heap.size (Nat.le_refl _)) _ rfl (src_rec nd_len nd_one Try.underlying30 (HI.out.below q0)) ?c1 ?c2 ?c3 ?_)
    case c1 => unfold maxLen; simp; omega
    case c2 => simp; omega
    case c3 => exact hlt
    intro v3 w3 ho3 c3
    have b3 := q0.trans c3
    go_wp2_with fail
    go_ret
    exact ⟨v3, rfl, ho3, b3⟩
/-- A log in memory of the call's own, from block B on. -/
def OwnLg (B : Nat) (s : List Opn) (x : Value) (w : World) : Prop := ∃ v u, x = .agg #[v, u] ∧ OwnEn B (ents s) v w ∧ OwnNd B (doAll [] s) u w
def OwnPost (s : List Opn) (w : World) (e : Ending) (w' : World) : Prop := ∃ x, e = .returned x ∧ OwnLg w.heap.size s x w' ∧ Below w.heap.size w w'
theorem OwnLg.isLg {B : Nat} {s : List Opn} {x : Value} {w : World} (h : OwnLg B s x w) : ∃ a c b d, x = LV a c b d s ∧ IsLg w a c b d s := by
  obtain ⟨v, u, rfl, h1, h2⟩ := h
  obtain ⟨a, c, rfl, i1⟩ := OwnR.isR en_len h1
  obtain ⟨b, d, rfl, i2⟩ := OwnR.isR nd_len h2
  rw [ents_len]
  exact ⟨a, c, b, d, rfl, i1, i2⟩
set_option maxRecDepth 100000 in
set_option maxHeartbeats 4000000 in
theorem mown_any (a : Option Addr) (c : Nat) (b : Option Addr) (d : Nat) (s : List Opn) (w : World) (h : IsLg w a c b d s) (hl : s.length ≤ 100000) (hn : (doAll [] s).length ≤ 100000) :
    Calls Try.prog 28 #[LV a c b d s] w (OwnPost s w) := by
  have HE := Lib.hid (fun (w' : World) (hb : Below w.heap.size w w') => mclone_e a c (ents s) w' (h.below hb).1 (by rw [ents_len]; exact hl))
  have HN := Lib.hid (fun (w' : World) (hb : Below w.heap.size w w') => mclone_n b d (doAll [] s) w' (h.below hb).2 hn)
  rw [ents_len] at HE
  have G0 := Lib.hid ((cells_new w [.slice a s.length c, .slice b (doAll [] s).length d] 32).below (below_alloc _ (.cells #[.slice none 0 0, .slice none 0 0] 32)))
  have G1 := cells_new (w.alloc (.cells #[.slice a s.length c, .slice b (doAll [] s).length d] 32)) [.slice none 0 0, .slice none 0 0] 32
  rw [show (w.alloc (.cells #[.slice a s.length c, .slice b (doAll [] s).length d] 32)).heap.size = w.heap.size + 1 by simp] at G1
  have G1 := Lib.hid G1
  have GB := Lib.hid (((Below.refl w.heap.size w).alloc (Nat.le_refl _) (.cells #[.slice a s.length c, .slice b (doAll [] s).length d] 32)).alloc (by simp) (.cells #[.slice none 0 0, .slice none 0 0] 32))
  change Calls _ _ #[.agg #[.slice a s.length c, .slice b (doAll [] s).length d]] _ _
  obtain ⟨n, hn⟩ : ∃ n, (doAll [] s).length = n := ⟨_, rfl⟩
  rw [hn] at HN G0 G1 GB ⊢
  clear h hn
  go_enter Try.func28, Try.ntmps28
  go_wp2_with fail
  refine wp_region_t 6 (by kernel_rfl) (by kernel_rfl) ?_
  simp only [List.take_succ_cons, List.take_zero, List.drop_succ_cons, List.drop_zero]
  refine wpL_pure (fun K hK => ?_); go_simp; (try go_ints); refine hK _ ?_; clear hK K
  refine wpL_use (.slice a s.length c) (fun xs m _ => ?_) (fun K hK => ?_)
  · have q0 := (G0.out.below m.below).cell 0 _ rfl
    go_simp
  go_simp; (try go_ints); refine hK _ ?_; clear hK K
  refine wpL_make (OwnEn (w.heap.size + 2) (ents s)) (fun v w w' h hk => h.stay v w w' hk) (fun xs m _ => ?_) (fun K hK => ?_)
  · unfold relOp; go_simp; simp only [relUpon]
    exact (HE.out _ (step_b GB.out m.below)).mono fun e w' ⟨v, he, hv, hb2⟩ => ⟨v, he, OwnR.mono hv (by have := m.below.size; simp only [World.size_alloc] at this; omega), hb2, fun g hg => OwnC.lt hv g hg⟩
  go_simp; (try go_ints); refine hK _ ?_; clear hK K
  refine wpL_pure (fun K hK => ?_); go_simp; (try go_ints); refine hK _ ?_; clear hK K
  refine wpL_use (.slice b n d) (fun xs m _ => ?_) (fun K hK => ?_)
  · have q0 := (G0.out.below m.below).cell 1 _ rfl
    go_simp
  go_simp; (try go_ints); refine hK _ ?_; clear hK K
  refine wpL_make (OwnNd (w.heap.size + 2) (doAll [] s)) (fun v w w' h hk => h.stay v w w' hk) (fun xs m _ => ?_) (fun K hK => ?_)
  · unfold relOp; go_simp; simp only [relUpon]
    exact (HN.out _ (step_b GB.out m.below)).mono fun e w' ⟨v, he, hv, hb2⟩ => ⟨v, he, OwnR.mono hv (by have := m.below.size; simp only [World.size_alloc] at this; omega), hb2, fun g hg => OwnC.lt hv g hg⟩
  go_simp; (try go_ints); refine hK _ ?_; clear hK K
  refine wpL_nil (fun xs m hf => ?_)
  have h1 := hf _ (List.mem_cons_of_mem _ List.mem_cons_self)
  have h2 := hf _ List.mem_cons_self
  change OwnEn _ _ (xs 2) _ at h1
  change OwnNd _ _ (xs 5) _ at h2
  obtain ⟨a5, c5, e5, i5⟩ := OwnR.isR en_len h1
  obtain ⟨a6, c6, e6, i6⟩ := OwnR.isR nd_len h2
  have E1 := Lib.hid (G1.out.below m.below)
  have E2 := Lib.hid (step_b GB.out m.below)
  rw [e5] at h1
  rw [e6] at h2
  rw [e5, e6]
  have H1 := Lib.hid h1
  have H2 := Lib.hid h2
  clear hf h1 h2 e5 e6 i5 i6
  generalize m.w = w3 at E1 E2 H1 H2 ⊢
  clear m xs
  refine wpList_build_c rfl _ _ rfl _ _ (built_log a5 a6 (ents s).length c5 (doAll [] s).length c6) (by simp [Act.eval, go_sem]) ?_
  have f0 := E1.out.free 0 (by simp)
  have f1 := E1.out.free 1 (by simp)
  have r0 := E1.out.cell 0 _ rfl
  have r1 := E1.out.cell 1 _ rfl
  have hlt := E1.out.lt
  go_wp2_with fail
  have hQ := (E1.out.set 0 (by simp) (.slice a5 (ents s).length c5)).set 1 (by simp) (.slice a6 (doAll [] s).length c6)
  have y0 := hQ.cell 0 _ rfl
  have y1 := hQ.cell 1 _ rfl
  have hsz : ((w3.setCell ⟨w.heap.size + 1, 0, none⟩ (.slice a5 (ents s).length c5)).setCell ⟨w.heap.size + 1, 1, none⟩ (.slice a6 (doAll [] s).length c6)).heap.size = w3.heap.size := setCells_heap (w.heap.size + 1) [.slice a5 (ents s).length c5, .slice a6 (doAll [] s).length c6] 0 w3
  have hot : ∀ g, g < w3.heap.size → g ≠ w.heap.size + 1 → ((w3.setCell ⟨w.heap.size + 1, 0, none⟩ (.slice a5 (ents s).length c5)).setCell ⟨w.heap.size + 1, 1, none⟩ (.slice a6 (doAll [] s).length c6)).heap[g]? = w3.heap[g]? := fun g hg hne => World.heap_setCells_other w3 (w.heap.size + 1) 0 [.slice a5 (ents s).length c5, .slice a6 (doAll [] s).length c6] hg hne
  refine bodyPost_ret (v := .agg #[.slice a5 (ents s).length c5, .slice a6 (doAll [] s).length c6]) (by simp [results, Try.results28, go_sem, y0, y1]) rfl ⟨_, rfl, ⟨_, _, rfl, ?_, ?_⟩, (E2.out.setCell (p := ⟨w.heap.size + 1, 0, none⟩) (Nat.le_add_right _ _) _).setCell (p := ⟨w.heap.size + 1, 1, none⟩) (Nat.le_add_right _ _) _⟩
  · exact OwnR.mono (B' := w.heap.size) (OwnR.keep H1.out (Nat.le_of_eq hsz.symm) fun g hg => hot g (OwnC.lt H1.out g hg).2 (by have := (OwnC.lt H1.out g hg).1; omega)) (by omega)
  · exact OwnR.mono (B' := w.heap.size) (OwnR.keep H2.out (Nat.le_of_eq hsz.symm) fun g hg => hot g (OwnC.lt H2.out g hg).2 (by have := (OwnC.lt H2.out g hg).1; omega)) (by omega)
end Go.Proofs.Ytnndanpahcdmaaa
/-
  The landed package merge: the entries of greater times are taken back, the last one first.
-/
namespace Go.Proofs.Ytnndanpahcdmaaa
open Go.RowKit Go.Lib
/-- A log whose operations may be, as few and as small as the laws ask. -/
structure OkS (s : List Opn) : Prop where
  lg : Lg s
  few : s.length ≤ 200
  small : ∀ x ∈ s, x.s.size ≤ 1000 ∧ x.d.size ≤ 1000
  rng : RgOs s
theorem OkS.nodes {s : List Opn} (h : OkS s) (k : Nat) : RgNs (doAll [] (s.take k)) := doAll_rng _ (fun _ hx => by cases hx) (fun x hx => h.rng x (List.mem_of_mem_take hx))
theorem nodes_few {s : List Opn} (h : s.length ≤ 200) (k : Nat) : (doAll [] (s.take k)).length ≤ 200 := Nat.le_trans (doAll_len _) (by rw [List.length_take]; omega)
theorem OwnR.start {α : Type} {f : α → List Value} {k : Nat} {B : Nat} {l : List α} {a : Option Addr} {n c : Nat} {w : World} (h : OwnR f k B l (.slice a n c) w) : ∀ q o, a = some ⟨q, o, none⟩ → B ≤ q ∧ q < w.heap.size := fun q o e => by
  obtain ⟨_, ⟨e2, _⟩ | ⟨g', c', e2, h1, h2, _⟩⟩ := h
  · simp only [Value.slice.injEq] at e2
    rw [e] at e2
    cases e2.1
  · simp only [Value.slice.injEq] at e2
    rw [e] at e2
    cases e2.1
    exact ⟨h1, h2⟩
def AheadPost (a : Option Addr) (s : List Opn) (o : Opn) (w : World) (e : Ending) (w' : World) : Prop :=
  ∃ n b d, n ≤ s.length ∧ (∀ (j : Nat) y, n ≤ j → s[j]? = some y → ltA o y = true) ∧ (∀ y, 0 < n → s[n - 1]? = some y → ltA o y = false) ∧
    e = .returned (.agg #[.slice a n n, .slice b (doAll [] (s.take n)).length d]) ∧ IsNd w' b d (doAll [] (s.take n)) ∧ Below w.heap.size w w'
theorem fin_ahead {w wr : World} {g : Nat} {a : Option Addr} {s : List Opn} {o : Opn} {n : Nat} {b' : Option Addr} {d' : Nat} {k0 : Value} {k1 : Value} (h2 : Cells wr g [k0, k1]) (hb : Below w.heap.size w wr) (hg : w.heap.size ≤ g) (hn : IsNd wr b' d' (doAll [] (s.take n))) (hf : doAll [] (s.take n) ≠ [] → ∀ q o', b' = some ⟨q, o', none⟩ → q ≠ g) (hns : n ≤ s.length) (h3 : ∀ (j : Nat) y, n ≤ j → s[j]? = some y → ltA o y = true) (h4 : ∀ y, 0 < n → s[n - 1]? = some y → ltA o y = false) (W : World) (hW : W = (wr.setCell ⟨g, 0, none⟩ (.slice a n n)).setCell ⟨g, 1, none⟩ (.slice b' (doAll [] (s.take n)).length d')) :
    W.cell? ⟨g, 0, none⟩ = some (.slice a n n) ∧ W.cell? ⟨g, 1, none⟩ = some (.slice b' (doAll [] (s.take n)).length d') ∧ AheadPost a s o w (.returned (.agg #[.slice a n n, .slice b' (doAll [] (s.take n)).length d'])) W := by
  subst hW
  have hQ := (h2.set 0 (by simp) (.slice a n n)).set 1 (by simp) (.slice b' (doAll [] (s.take n)).length d')
  have hsz : ((wr.setCell ⟨g, 0, none⟩ (.slice a n n)).setCell ⟨g, 1, none⟩ (.slice b' (doAll [] (s.take n)).length d')).heap.size = wr.heap.size := setCells_heap g [.slice a n n, .slice b' (doAll [] (s.take n)).length d'] 0 wr
  have hot : ∀ q, q < wr.heap.size → q ≠ g → ((wr.setCell ⟨g, 0, none⟩ (.slice a n n)).setCell ⟨g, 1, none⟩ (.slice b' (doAll [] (s.take n)).length d')).heap[q]? = wr.heap[q]? := fun q hq hne => World.heap_setCells_other wr g 0 [.slice a n n, .slice b' (doAll [] (s.take n)).length d'] hq hne
  exact ⟨hQ.cell 0 _ rfl, hQ.cell 1 _ rfl, n, b', d', hns, h3, h4, rfl, isR_keep hn (Nat.le_of_eq hsz.symm) (fun hne q o' e hl' => hot q hl' (hf hne q o' e)), (hb.setCell (p := ⟨g, 0, none⟩) hg _).setCell (p := ⟨g, 1, none⟩) hg _⟩
set_option maxRecDepth 100000 in
set_option maxHeartbeats 8000000 in
theorem mahead_any (a : Option Addr) (c : Nat) (b : Option Addr) (d : Nat) (s : List Opn) (o : Opn) (w : World) (h : IsLg w a c b d s) (hs : OkS s) :
    Calls Try.prog 45 #[LV a c b d s, OV o] w (AheadPost a s o w) := by
  have HI := Lib.hid h.1
  have HN := Lib.hid h.2
  have HS := Lib.hid hs
  have hfew := hs.few
  have hcap := HI.out.1
  rw [ents_len] at hcap
  have HLess := Lib.hid (fun (y : Opn) (w : World) => oless_any o y w)
  have HBk := Lib.hid (fun (k : Nat) (y : Opn) (hy : s[k]? = some y) (b' : Option Addr) (d' : Nat) (w' : World) (hb : IsNd w' b' d' (doAll [] (s.take (k + 1)))) =>
    (show Calls Try.prog 68 #[.slice b' (doAll [] (s.take (k + 1))).length d', OV y, UV (doN (doAll [] (s.take k)) y).2] w' (NodsOwn (doAll [] (s.take k)) w') from by
      have e1 : doAll [] (s.take (k + 1)) = (doN (doAll [] (s.take k)) y).1 := by rw [List.take_add_one, hy]; exact doAll_snoc [] _ y
      have hro := hs.rng y (List.mem_of_getElem? hy)
      have := tback_own b' d' (doAll [] (s.take (k + 1))) y (doN (doAll [] (s.take k)) y).2 w' hb (Nat.le_trans (nodes_few hfew _) (by omega)) (hs.nodes _) hro (doN_rng (hs.nodes k) hro).2
      rw [show backN (doAll [] (s.take (k + 1))) y (doN (doAll [] (s.take k)) y).2 = doAll [] (s.take k) by rw [e1]; exact back_do _ _] at this
      exact this))
  obtain ⟨n0, hn0⟩ : ∃ n0, (doAll [] s).length = n0 := ⟨_, rfl⟩
  have HN0 := Lib.hid hn0
  change Calls _ _ #[.agg #[.slice a s.length c, .slice b (doAll [] s).length d], OV o] _ _
  rw [hn0]
  obtain ⟨A, hA⟩ : ∃ A, A = ((w.alloc (.cells #[.slice a s.length c, .slice b n0 d] 32)).alloc (.cells #[.int .i64 o.c, .int .i64 o.r, .int .i64 o.k, .int .i64 o.n, .int .i64 o.p, .string o.s, .string o.d] 26)).alloc (.cells #[.slice none 0 0, .slice none 0 0] 32) := ⟨_, rfl⟩
  have g0 : Cells A w.heap.size [.slice a s.length c, .slice b n0 d] := by rw [hA]; exact ((cells_new w [.slice a s.length c, .slice b n0 d] 32).below (below_alloc _ _)).below (below_alloc _ _)
  have g1 : Cells A (w.heap.size + 1) (cellsOp o) := by
    rw [hA]
    have q := (cells_new (w.alloc (.cells #[.slice a s.length c, .slice b n0 d] 32)) (cellsOp o) 26).below (below_alloc _ (.cells #[.slice none 0 0, .slice none 0 0] 32))
    rw [show (w.alloc (.cells #[.slice a s.length c, .slice b n0 d] 32)).heap.size = w.heap.size + 1 by simp] at q
    exact q
  have g2 : Cells A (w.heap.size + 2) [.slice none 0 0, .slice none 0 0] := by
    rw [hA]
    have q := cells_new ((w.alloc (.cells #[.slice a s.length c, .slice b n0 d] 32)).alloc (.cells #[.int .i64 o.c, .int .i64 o.r, .int .i64 o.k, .int .i64 o.n, .int .i64 o.p, .string o.s, .string o.d] 26)) [.slice none 0 0, .slice none 0 0] 32
    rw [show ((w.alloc (.cells #[.slice a s.length c, .slice b n0 d] 32)).alloc (.cells #[.int .i64 o.c, .int .i64 o.r, .int .i64 o.k, .int .i64 o.n, .int .i64 o.p, .string o.s, .string o.d] 26)).heap.size = w.heap.size + 2 by simp] at q
    exact q
  have gb : Below w.heap.size w A := by rw [hA]; exact (((Below.refl w.heap.size w).alloc (Nat.le_refl _) _).alloc (by simp) _).alloc (by simp; omega) _
  have x0 := g0.cell 0 _ rfl
  have x1 := g0.cell 1 _ rfl
  have G0 := Lib.hid g0
  have G1 := Lib.hid g1
  have G2 := Lib.hid g2
  have GB := Lib.hid gb
  have sA : A.heap.size = w.heap.size + 3 := by rw [hA]; simp
  clear g0 g1 g2 gb h hn0 hs
  go_enter Try.func45, Try.ntmps45
  go_wp2_with fail
  rw [← hA]
  clear hA
  go_step3
  go_wp2_with fail
  refine wp_region_later (by kernel_rfl) (by kernel_rfl) (fun hL => ?_)
  repeat (go_big_quiet_step (fail))
  intro w1 hw
  have c1 := later_out hw
  have B1 := Lib.hid (step_b GB.out c1)
  have A0 := Lib.hid (G0.out.below c1)
  have A1 := Lib.hid (G1.out.below c1)
  have A2 := Lib.hid (G2.out.below c1)
  have s1 := c1.size
  clear c1 hw hL x0 x1
  have x0 := A0.out.cell 0 _ rfl
  go_wp2_with fail
  go_step3
  go_wp2_with fail
  go_loopw [5, 6, 16] (fun x5 x6 x16 w' => ∃ (k i : Nat) (b' : Option Addr) (d' : Nat), i + k = s.length ∧ x5 = .int .i64 k ∧ x16 = .int .i64 i ∧ x6 = .slice b' (doAll [] (s.take k)).length d' ∧ IsNd w' b' d' (doAll [] (s.take k)) ∧ (doAll [] (s.take k) ≠ [] → ∀ q o', b' = some ⟨q, o', none⟩ → q ≠ w.heap.size + 2) ∧ (∀ (j : Nat) y, k ≤ j → s[j]? = some y → ltA o y = true) ∧ Below w1.heap.size w1 w') (fun x5 _ _ _ => (RowKit.intOf x5).toNat)
  case atStart => exact ⟨s.length, 0, b, d, Nat.zero_add _, rfl, rfl, by rw [List.take_length, HN0.out], by rw [List.take_length]; exact IsR.below HN.out B1.out, (fun hne q o' e => by
    rw [List.take_length] at hne
    obtain ⟨b1, o1, e1, hlt1, _⟩ := HN.out.2.2 hne
    rw [e] at e1
    cases e1
    omega), (fun j y hj hy => by rw [List.getElem?_eq_none hj] at hy; cases hy), Below.refl _ _⟩
  case round =>
    obtain ⟨k, i, b', d', hik, rfl, rfl, rfl, hnd, hfr, hall, ck⟩ := hrel
    have HFr := Lib.hid hfr
    have HNd := Lib.hid hnd
    have HAll := Lib.hid hall
    have HIK := Lib.hid hik
    clear hnd hall hfr x0
    have D0 := Lib.hid (A0.out.belowN A0.out.lt ck)
    have D2 := Lib.hid (A2.out.belowN A2.out.lt ck)
    have BE := Lib.hid (step_b B1.out ck)
    have x0 := D0.out.cell 0 _ rfl
    have r0 := D2.out.cell 0 _ rfl
    have r1 := D2.out.cell 1 _ rfl
    have f0 := D2.out.free 0 (by simp)
    have f1 := D2.out.free 1 (by simp)
    have hlt := D2.out.lt
    cases k with
    | zero =>
      obtain rfl : i = s.length := by omega
      clear hik
      go_wp2_with fail
      rw [Exit.noGoto_ret]
      obtain ⟨y0, y1, hp⟩ := fin_ahead (w := w) (g := w.heap.size + 1 + 1) (a := a) (s := s) (o := o) (n := 0) D2.out BE.out (by omega) HNd.out HFr.out (Nat.zero_le _) (fun j y _ => HAll.out j y (Nat.zero_le _)) (fun y h => absurd h (Nat.lt_irrefl 0)) _ rfl
      simp only [List.take_zero] at y0 y1 hp
      exact bodyPost_ret (v := .agg #[.slice a 0 0, .slice b' (doAll [] []).length d']) (by simp [results, Try.results45, go_sem, y0, y1]) rfl hp
    | succ p =>
      have hi2 : (i : Int) < (s.length : Int) := by omega
      obtain ⟨y, hy⟩ : ∃ y, s[p]? = some y := ⟨_, List.getElem?_eq_getElem (by omega)⟩
      obtain ⟨g, off, rfl, hg, hc⟩ := (IsR.below HI.out BE.out).ent (ents_at hy)
      have hAt := atEn_of (hc p _ (ents_at hy))
      have HB2 := Lib.hid (HBk.out p y hy)
      generalize (doN (doAll [] (s.take p)) y).2 = u at hAt HB2
      obtain ⟨m0, m1, m2, m3, m4, m5, m6, m7, m8, m9, m10, m11, m12, m13, m14, m15, m16⟩ := hAt
      simp only [] at m0 m1 m2 m3 m4 m5 m6 m7 m8 m9 m10 m11 m12 m13 m14 m15 m16
      obtain ⟨q, hq⟩ : ∃ q : Int, ((p + 1 : Nat) : Int) = q := ⟨_, rfl⟩
      have hq1 : q - 1 = (p : Int) := by omega
      have hq2 : 0 ≤ q := by omega
      have hq3 : q ≤ 200 := by omega
      have hpl : (p : Int) < (s.length : Int) := by omega
      rw [hq]
      have HQ := Lib.hid hq
      have qn := below_alloc wr (.cells #[.int .i64 y.c, .int .i64 y.r, .int .i64 y.k, .int .i64 y.n, .int .i64 y.p, .string y.s, .string y.d, .bool u.did, .bool u.had, .int .i64 u.was.id, .int .i64 u.was.p, .string u.was.s, .int .i64 u.was.mc, .int .i64 u.was.mr, .string u.was.d, .int .i64 u.was.wc, .int .i64 u.was.wr] 49)
      have HEn := Lib.hid (cells_new wr (cellsE ⟨y, u⟩) 49)
      have E1 := Lib.hid (A1.out.belowN A1.out.lt ck)
      have e0 := fun X => (E1.out.below (below_alloc wr X)).cell 0 _ rfl
      have e1 := fun X => (E1.out.below (below_alloc wr X)).cell 1 _ rfl
      have e2 := fun X => (E1.out.below (below_alloc wr X)).cell 2 _ rfl
      have e3 := fun X => (E1.out.below (below_alloc wr X)).cell 3 _ rfl
      have e4 := fun X => (E1.out.below (below_alloc wr X)).cell 4 _ rfl
      have e5 := fun X => (E1.out.below (below_alloc wr X)).cell 5 _ rfl
      have e6 := fun X => (E1.out.below (below_alloc wr X)).cell 6 _ rfl
      have HY := Lib.hid hy
      clear hc hy hik hq
      obtain ⟨t, ht⟩ : ∃ t, ltA o y = t := ⟨_, rfl⟩
      have HL1 := Lib.hid (fun w => HLess.out y w)
      change Hid (∀ w, Calls _ _ _ w fun e w' => e = .returned (.bool (ltA o y)) ∧ _) at HL1
      rw [ht] at HL1
      have HTt := Lib.hid ht
      clear ht
      go_wp2_with fail
      refine (HL1.out _).mono ?_
      rintro e w2 ⟨rfl, c2⟩
      have hq0 := qn.trans (c2.mono (by simp))
      have b2 := Lib.hid (ck.trans (hq0.mono ck.size))
      have HE2 := Lib.hid (HEn.out.below c2)
      have D20 := Lib.hid (D0.out.belowN D0.out.lt hq0)
      have D22 := Lib.hid (D2.out.belowN D2.out.lt hq0)
      have BE2 := Lib.hid (step_b B1.out b2.out)
      have HNd2 := Lib.hid (IsR.below HNd.out hq0)
      have s2 := c2.size
      clear c2 hq0 qn e0 e1 e2 e3 e4 e5 e6 m0 m1 m2 m3 m4 m5 m6 m7 m8 m9 m10 m11 m12 m13 m14 m15 m16 x0 r0 r1 f0 f1 hlt HL1
      cases t with
      | true =>
        have n0 := HE2.out.cell 0 _ rfl
        have n1 := HE2.out.cell 1 _ rfl
        have n2 := HE2.out.cell 2 _ rfl
        have n3 := HE2.out.cell 3 _ rfl
        have n4 := HE2.out.cell 4 _ rfl
        have n5 := HE2.out.cell 5 _ rfl
        have n6 := HE2.out.cell 6 _ rfl
        have n7 := HE2.out.cell 7 _ rfl
        have n8 := HE2.out.cell 8 _ rfl
        have n9 := HE2.out.cell 9 _ rfl
        have n10 := HE2.out.cell 10 _ rfl
        have n11 := HE2.out.cell 11 _ rfl
        have n12 := HE2.out.cell 12 _ rfl
        have n13 := HE2.out.cell 13 _ rfl
        have n14 := HE2.out.cell 14 _ rfl
        have n15 := HE2.out.cell 15 _ rfl
        have n16 := HE2.out.cell 16 _ rfl
        have hlt2 := D22.out.lt
        have HB3 := Lib.hid (HB2.out b' d' w2 HNd2.out)
        obtain ⟨nn, hnn⟩ : ∃ nn, (doAll [] (s.take (p + 1))).length = nn := ⟨_, rfl⟩
        rw [hnn] at HB3 ⊢
        clear HB2 hnn
        go_wp2_with fail
        refine (HB3.out).mono ?_
        rintro e w3 ⟨a3, c3, rfl, hown3, c3b⟩
        have b3 := b2.out.trans (c3b.mono b2.out.size)
        have HO3 := Lib.hid hown3
        have hs3 := BE2.out.size
        clear c3b hown3
        go_wp2_with fail
        go_roundw
        case rel => exact ⟨p, i + 1, a3, c3, by have := HIK.out; omega, rfl, by go_num, rfl, OwnR.isRv nd_len HO3.out, (fun _ q o' e => by have := (OwnR.start HO3.out q o' e).1; omega), (fun j z hj hz => by
          rcases Nat.lt_or_eq_of_le hj with hlt | heq
          · exact HAll.out j z hlt hz
          · subst heq
            rw [HY.out] at hz
            cases hz
            exact HTt.out), b3⟩
        case measure => simp [RowKit.intOf]; have := HQ.out; omega
      | false =>
        have x0 := D20.out.cell 0 _ rfl
        have r0 := D22.out.cell 0 _ rfl
        have r1 := D22.out.cell 1 _ rfl
        have f0 := D22.out.free 0 (by simp)
        have f1 := D22.out.free 1 (by simp)
        have hlt := D22.out.lt
        have hqc : q ≤ (c : Int) := by omega
        have hqn : q = (p : Int) + 1 := by have := HQ.out; omega
        clear HB2
        go_wp2_with fail
        rw [Exit.noGoto_ret]
        obtain ⟨y0, y1, hp⟩ := fin_ahead (w := w) (g := w.heap.size + 1 + 1) (a := some ⟨g, off, none⟩) (s := s) (o := o) (n := p + 1) D22.out BE2.out (by omega) HNd2.out HFr.out (by have := HIK.out; omega) HAll.out (fun z _ hz => by
          rw [Nat.add_sub_cancel, HY.out] at hz
          cases hz
          exact HTt.out) _ rfl
        exact bodyPost_ret (v := .agg #[.slice (some ⟨g, off, none⟩) (p + 1) (p + 1), .slice b' (doAll [] (s.take (p + 1))).length d']) (by simp [results, Try.results45, go_sem, y0, y1]) rfl hp
end Go.Proofs.Ytnndanpahcdmaaa
