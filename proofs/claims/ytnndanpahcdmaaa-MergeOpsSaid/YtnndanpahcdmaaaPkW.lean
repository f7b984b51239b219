/- Several texts of this seat in one, in build order. -/
import Derived.Test.YtnndanpahcdmaaaPkM
/-
  The landed package merge: one operation more is done, by the closure that gathers.
-/
namespace Go.Proofs.Ytnndanpahcdmaaa
open Go.RowKit Go.Lib
/-- What the closure's box holds: a log, whose entries are the call's own (row r), or are read, without room to spare. -/
def MadeI (w0 : World) (hI gm : Nat) (s : List Opn) (w : World) : Prop :=
  ∃ v r a c, Cells w gm [v, .slice a (doAll [] s).length c] ∧ FitR cellsE 17 w0 hI (ents s) v r w ∧ IsNd w a c (doAll [] s) ∧ (doAll [] s ≠ [] → ∀ q o, a = some ⟨q, o, none⟩ → q ≠ gm ∧ r ≠ some q) ∧
    Below w0.heap.size w0 w ∧ w0.heap.size ≤ gm ∧ gm < hI ∧ hI ≤ w.heap.size
/-- The same, both the call's own. -/
def MadeO (w0 : World) (hI gm : Nat) (s : List Opn) (w : World) : Prop :=
  ∃ v a c, Cells w gm [v, .slice a (doAll [] s).length c] ∧ OwnEn hI (ents s) v w ∧ OwnNd hI (doAll [] s) (.slice a (doAll [] s).length c) w ∧ (∀ q o, a = some ⟨q, o, none⟩ → v.ownBlock ≠ some q) ∧
    Below w0.heap.size w0 w ∧ w0.heap.size ≤ gm ∧ gm < hI ∧ hI ≤ w.heap.size
theorem MadeO.i {w0 : World} {hI gm : Nat} {s : List Opn} {w : World} (h : MadeO w0 hI gm s w) : MadeI w0 hI gm s w := by
  obtain ⟨v, a, c, h1, h2, h3, h4, h5, h6, h7, h8⟩ := h
  exact ⟨v, v.ownBlock, a, c, h1, .inl ⟨rfl, h2⟩, OwnR.isRv nd_len h3, fun _ q o e => ⟨by have := OwnR.start h3 q o e; omega, h4 q o e⟩, h5, h6, h7, h8⟩
def StepPost (w0 : World) (hI gm : Nat) (s : List Opn) (w : World) (e : Ending) (w' : World) : Prop := e = .returned (.tuple #[]) ∧ MadeO w0 hI gm s w' ∧ w.heap.size ≤ w'.heap.size ∧ ∀ q, q < hI → q ≠ gm → w'.heap[q]? = w.heap[q]?
set_option maxRecDepth 100000 in
set_option maxHeartbeats 8000000 in
theorem mstep_any (w0 : World) (hI gm : Nat) (s : List Opn) (o : Opn) (w : World) (h : MadeI w0 hI gm s w) (hl : s.length ≤ 500) (hr : RgNs (doAll [] s)) (ho : o.s.size ≤ 1000 ∧ o.d.size ≤ 1000) (hro : RgO o) :
    Calls Try.prog 46 #[OV o, .pointer (some ⟨gm, 0, none⟩)] w (StepPost w0 hI gm (s ++ [o]) w) := by
  obtain ⟨iE, hiE, hzE, hszE, hbyE⟩ := info_parts infoE
  obtain ⟨v, r, a, c, hc, hf, hn, hap, hb0, hg0, hgm, hI'⟩ := h
  have hnl : (doAll [] s).length ≤ 500 := Nat.le_trans (doAll_len s) hl
  have HDo := Lib.hid (fun (w' : World) (hb : Below w.heap.size w w') => tdo_own a c (doAll [] s) o w' (IsR.below hn hb) (by omega) ho.1 ho.2 hr hro)
  have HC := Lib.hid hc
  have HF := Lib.hid hf
  have HN := Lib.hid hn
  have HAp := Lib.hid hap
  have HB0 := Lib.hid hb0
  have e1 : doAll [] (s ++ [o]) = (doN (doAll [] s) o).1 := doAll_snoc [] s o
  have e2 : ents (s ++ [o]) = ents s ++ [⟨o, (doN (doAll [] s) o).2⟩] := ents_snoc s o
  have HE1 := Lib.hid e1
  have HE2 := Lib.hid e2
  have hel := ents_len s
  have HEl := Lib.hid hel
  obtain ⟨⟨rl, ru⟩, hrr⟩ : ∃ x, doN (doAll [] s) o = x := ⟨_, rfl⟩
  rw [hrr] at HDo HE1 HE2
  obtain ⟨n, hnn⟩ : ∃ n, (doAll [] s).length = n := ⟨_, rfl⟩
  rw [hnn] at HDo HC
  obtain ⟨A, hA⟩ : ∃ A, A = w.alloc (.cells #[.int .i64 o.c, .int .i64 o.r, .int .i64 o.k, .int .i64 o.n, .int .i64 o.p, .string o.s, .string o.d] 26) := ⟨_, rfl⟩
  obtain ⟨C, hCC⟩ : ∃ C, C = A.alloc (.cells #[.bool false, .bool false, .int .i64 0, .int .i64 0, .string ⟨#[]⟩, .int .i64 0, .int .i64 0, .string ⟨#[]⟩, .int .i64 0, .int .i64 0] 47) := ⟨_, rfl⟩
  have sA : A.heap.size = w.heap.size + 1 := by rw [hA]; simp
  have sC : C.heap.size = w.heap.size + 2 := by rw [hCC]; simp [sA]
  have qA : Below w.heap.size w A := by rw [hA]; exact below_alloc _ _
  have qC : Below A.heap.size A C := by rw [hCC]; exact below_alloc _ _
  have b0 := step_b qA qC
  have HO0 := Lib.hid ((by rw [hA]; exact hasO_new w o 26 : HasO A w.heap.size o).below qC)
  have hU : Cells C A.heap.size (cellsU noUnd) := by rw [hCC]; exact cells_new A (cellsU noUnd) 47
  rw [sA] at hU
  have HU0 := Lib.hid hU
  have HBC := Lib.hid b0
  have HCC := Lib.hid (HC.out.below b0)
  have cg1 := HCC.out.cell 1 _ rfl
  obtain ⟨m0, m1, m2, m3, m4, m5, m6⟩ := HO0.out
  rw [hA] at hCC
  rw [hCC] at cg1
  clear hU qA qC sA b0 hA hc hf hn hap hb0 e1 e2 hel hrr hnn hnl hr hro ho
  go_enter Try.func46, Try.ntmps46
  go_wp2_with fail
  rw [← hCC]
  clear hCC
  refine (HDo.out _ HBC.out).mono ?_
  rintro e w1 ⟨v1, rfl, hown1, c1⟩
  obtain ⟨a1, k1, rfl, _⟩ := OwnR.isR nd_len hown1
  have B1 := Lib.hid (step_b HBC.out c1)
  have HO1 := Lib.hid (HO0.out.below c1)
  have HU1 := Lib.hid (HU0.out.below c1)
  have HC1 := Lib.hid (HCC.out.below c1)
  have HN1 := Lib.hid hown1
  have s1 := c1.size
  have sc := HBC.out.size
  clear c1 hown1 cg1 m0 m1 m2 m3 m4 m5 m6
  have cg1 := HC1.out.cell 1 _ rfl
  have cf1 := HC1.out.free 1 (by simp)
  obtain ⟨u0, u1, u2, u3, u4, u5, u6, u7, u8, u9⟩ := cellU_cells HU1.out
  obtain ⟨f0, f1, f2, f3, f4, f5, f6, f7, f8, f9⟩ := cellU_frees HU1.out
  have hlt := HC1.out.lt
  have hne1 : ¬ gm = w.heap.size + 1 := by omega
  have hne2 : ¬ w.heap.size + 1 = gm := by omega
  have HEq := Lib.hid (show C.heap.size ≤ w1.heap.size from s1)
  go_upto_region 3 with fail
  change Code.wp _ _ _ _ ((w1.setCell ⟨gm, 1, none⟩ (.slice a1 rl.length k1)).setCells (w.heap.size + 1) 0 (cellsU ru))
  obtain ⟨W3, hW3⟩ : ∃ W3, W3 = (w1.setCell ⟨gm, 1, none⟩ (.slice a1 rl.length k1)).setCells (w.heap.size + 1) 0 (cellsU ru) := ⟨_, rfl⟩
  have z3 : W3.heap.size = w1.heap.size := by rw [hW3, setCells_heap]; simp
  have hot3 : ∀ q, q < w1.heap.size → q ≠ gm → q ≠ w.heap.size + 1 → W3.heap[q]? = w1.heap[q]? := fun q hq h1 h2 => by
    rw [hW3, World.heap_setCells_other _ _ _ _ (by simpa using hq) h2]
    exact World.heap_setCells_other w1 gm 1 [.slice a1 rl.length k1] hq h1
  have hU3 : Cells W3 (w.heap.size + 1) (cellsU ru) := by rw [hW3]; exact (HU1.out.other hne1 1 _).setAll rfl
  have hO3 : HasO W3 w.heap.size o := HO1.out.keep (hot3 _ (by omega) (by omega) (by omega))
  have hG3 : Cells W3 gm [v, .slice a1 rl.length k1] := by
    refine (HC1.out.set 1 (by simp) (.slice a1 rl.length k1)).keep (by rw [z3]; simp) ?_
    rw [hW3]
    exact World.heap_setCells_other _ _ _ _ (by simpa using hlt) hne1
  have hN3 : OwnNd (w.heap.size + 2) rl (.slice a1 rl.length k1) W3 := OwnR.keep (OwnR.mono HN1.out (by omega)) (by omega) fun g hg => hot3 g (OwnC.lt HN1.out g hg).2 (by have := (OwnC.lt HN1.out g hg).1; omega) (by have := (OwnC.lt HN1.out g hg).1; omega)
  have h13 : ∀ q, q < w.heap.size → q ≠ gm → W3.heap[q]? = w.heap[q]? := fun q hq h1 => (hot3 q (by omega) h1 (by omega)).trans (B1.out.block q hq)
  have hF3 : FitR cellsE 17 w0 hI (ents s) v r W3 := HF.out.keep (by omega) fun g hg => h13 g (HF.out.row g hg).2 (by have := (HF.out.row g hg).1; omega)
  have hB3 : Below w0.heap.size w0 W3 := by
    rw [hW3]
    exact below_setCells (w.heap.size + 1) (by have := HB0.out.size; omega) _ 0 _ _ (((HB0.out.trans (B1.out.mono HB0.out.size))).setCell (p := ⟨gm, 1, none⟩) hg0 _)
  have HRw := Lib.hid HF.out.row
  rw [← hW3]
  clear hW3 hot3 u0 u1 u2 u3 u4 u5 u6 u7 u8 u9 f0 f1 f2 f3 f4 f5 f6 f7 f8 f9 cg1 cf1 HU1 HO1 HC1 HN1 HU0 HO0 HCC HDo HF HN HAp HC
  obtain ⟨a0, c0, rfl, _⟩ := hF3.isR en_len hB3
  have HG3 := Lib.hid hG3
  have HN3 := Lib.hid hN3
  have HF3 := Lib.hid hF3
  have HB3 := Lib.hid hB3
  have H13 := Lib.hid h13
  have HU3 := Lib.hid hU3
  have HO3 := Lib.hid hO3
  clear hF3 hB3 h13 hN3
  have HZ3 := Lib.hid z3
  clear z3
  have cg0 := hG3.cell 0 _ rfl
  obtain ⟨u0, u1, u2, u3, u4, u5, u6, u7, u8, u9⟩ := cellU_cells hU3
  obtain ⟨m0, m1, m2, m3, m4, m5, m6⟩ := hO3
  have hlt3 := hG3.lt
  clear hG3 hU3
  obtain ⟨nl, hnl⟩ : ∃ nl, (ents s).length = nl := ⟨_, rfl⟩
  have HNl := Lib.hid hnl
  rw [hnl] at HEl
  have hnl5 : nl ≤ 500 := by have := HEl.out; omega
  rw [hnl] at HF3 cg0 HG3
  clear hnl
  have qn := below_alloc W3 (.cells #[.int .i64 o.c, .int .i64 o.r, .int .i64 o.k, .int .i64 o.n, .int .i64 o.p, .string o.s, .string o.d, .bool ru.did, .bool ru.had, .int .i64 ru.was.id, .int .i64 ru.was.p, .string ru.was.s, .int .i64 ru.was.mc, .int .i64 ru.was.mr, .string ru.was.d, .int .i64 ru.was.wc, .int .i64 ru.was.wr] 49)
  have zn : (W3.alloc (.cells #[.int .i64 o.c, .int .i64 o.r, .int .i64 o.k, .int .i64 o.n, .int .i64 o.p, .string o.s, .string o.d, .bool ru.did, .bool ru.had, .int .i64 ru.was.id, .int .i64 ru.was.p, .string ru.was.s, .int .i64 ru.was.mc, .int .i64 ru.was.mr, .string ru.was.d, .int .i64 ru.was.wc, .int .i64 ru.was.wr] 49)).heap.size = W3.heap.size + 1 := by simp
  have HAt := Lib.hid (show AtC (cellsE ⟨o, ru⟩) (W3.alloc (.cells #[.int .i64 o.c, .int .i64 o.r, .int .i64 o.k, .int .i64 o.n, .int .i64 o.p, .string o.s, .string o.d, .bool ru.did, .bool ru.had, .int .i64 ru.was.id, .int .i64 ru.was.p, .string ru.was.s, .int .i64 ru.was.mc, .int .i64 ru.was.mr, .string ru.was.d, .int .i64 ru.was.wc, .int .i64 ru.was.wr] 49)) W3.heap.size 0 from atC_new W3 #[.int .i64 o.c, .int .i64 o.r, .int .i64 o.k, .int .i64 o.n, .int .i64 o.p, .string o.s, .string o.d, .bool ru.did, .bool ru.had, .int .i64 ru.was.id, .int .i64 ru.was.p, .string ru.was.s, .int .i64 ru.was.mc, .int .i64 ru.was.mr, .string ru.was.d, .int .i64 ru.was.wc, .int .i64 ru.was.wr] 49)
  have HF4 := Lib.hid (FitR.keep HF3.out qn.size fun g hg => qn.block g (HF3.out.row g hg).2)
  have HB4 := Lib.hid (HB3.out.trans (qn.mono HB3.out.size))
  have hrow := HF3.out.row
  have HRow := Lib.hid hrow
  have HZn := Lib.hid zn
  have hbz : hI ≤ (W3.alloc (.cells #[.int .i64 o.c, .int .i64 o.r, .int .i64 o.k, .int .i64 o.n, .int .i64 o.p, .string o.s, .string o.d, .bool ru.did, .bool ru.had, .int .i64 ru.was.id, .int .i64 ru.was.p, .string ru.was.s, .int .i64 ru.was.mc, .int .i64 ru.was.mr, .string ru.was.d, .int .i64 ru.was.wc, .int .i64 ru.was.wr] 49)).heap.size := by have := HZ3.out; omega
  clear hrow zn
  go_wp2_with (at_builtin; go_loud (refine wpList_append_fit en_len rfl _ _ 29 rfl hI 49 iE _ 160 Try.underlying29 hiE hzE hszE hbyE rfl _ r (ents s) [⟨o, ru⟩] rfl HF4.out HB4.out (by simp) _ rfl (src_one en_len en_one Try.underlying29 HAt.out) ?c1 ?c2 ?c3 ?_))
  case c1 => unfold maxLen; simp; have := HNl.out; omega
  case c2 => simp; have := HNl.out; omega
  case c3 => exact hbz
  intro v4 w4 hv4 hg4 hb4
  have z4 := hg4.size
  have hot4 : ∀ q, q < W3.heap.size → r ≠ some q → w4.heap[q]? = W3.heap[q]? := fun q hq hne => (hg4.block q (by have := HZn.out; omega) (fun e => hne e.symm)).trans (qn.block q hq)
  have hG4 : Cells w4 gm [.slice a0 nl c0, .slice a1 rl.length k1] := HG3.out.keep (by have := HZn.out; omega) (hot4 gm HG3.out.lt fun e => by have := (HRow.out gm e).1; omega)
  have hN4 : OwnNd (w.heap.size + 2) rl (.slice a1 rl.length k1) w4 := OwnR.keep HN3.out (by have := HZn.out; omega) fun g hg => hot4 g (OwnC.lt HN3.out g hg).2 (fun e => by have := (HRw.out g e).2; have := (OwnC.lt HN3.out g hg).1; omega)
  obtain ⟨a4, c4, rfl, _⟩ := OwnR.isR en_len hv4
  obtain ⟨nn, hnn⟩ : ∃ nn, (ents s ++ [(⟨o, ru⟩ : Enl)]).length = nn := ⟨_, rfl⟩
  rw [hnn] at hv4 hb4 ⊢
  have cg0 := hG4.cell 0 _ rfl
  have cf0 := hG4.free 0 (by simp)
  have hlt4 := hG4.lt
  have HV4 := Lib.hid hv4
  have HG4 := Lib.hid hG4
  have HN4 := Lib.hid hN4
  have HO4 := Lib.hid hot4
  have HBk4 := Lib.hid hb4
  have hz4 : W3.heap.size ≤ w4.heap.size := by have := HZn.out; omega
  have HB5 := Lib.hid (show Below w0.heap.size w0 w4 from HB4.out.trans (below_of_grown hg4 (by have := HB4.out.size; exact this) fun g hg => by have := (HRow.out g hg).1; omega))
  clear hv4 hG4 hN4 hot4 hb4 hnn hg4 m0 m1 m2 m3 m4 m5 m6 u0 u1 u2 u3 u4 u5 u6 u7 u8 u9 qn HAt HF4
  go_wp2_with fail
  go_end0
  have hot5 : ∀ q, q ≠ gm → q < w4.heap.size → (w4.setCell ⟨gm, 0, none⟩ (.slice a4 nn c4)).heap[q]? = w4.heap[q]? := fun q h1 hq => World.heap_setCells_other w4 gm 0 [.slice a4 nn c4] hq h1
  have z5 : (w4.setCell ⟨gm, 0, none⟩ (.slice a4 nn c4)).heap.size = w4.heap.size := by simp
  have hz3 := HZ3.out
  refine ⟨rfl, ⟨.slice a4 nn c4, a1, k1, ?_, ?_, ?_, ?_, HB5.out.setCell (p := ⟨gm, 0, none⟩) hg0 _, hg0, hgm, by omega⟩, by omega, fun q hq hne => ?_⟩
  · rw [HE1.out]
    exact HG4.out.set 0 (by simp) _
  · rw [HE2.out]
    exact OwnR.keep HV4.out (by omega) fun g hg => hot5 g (by have := (OwnC.lt HV4.out g hg).1; omega) (OwnC.lt HV4.out g hg).2
  · rw [HE1.out]
    exact OwnR.mono (OwnR.keep HN4.out (by omega) fun g hg => hot5 g (by have := (OwnC.lt HN4.out g hg).1; omega) (OwnC.lt HN4.out g hg).2) (by omega)
  · intro q o' e hv
    rcases (HBk4.out q hv).1 with h1 | h1
    · have := (OwnR.start HN3.out q o' e).2
      have := HZn.out
      omega
    · have := (OwnR.start HN3.out q o' e).1
      have := (HRw.out q h1).2
      omega
  · rw [hot5 q hne (by omega), HO4.out q (by omega) (fun e => by have := (HRw.out q e).1; omega)]
    exact H13.out q (by omega) hne
end Go.Proofs.Ytnndanpahcdmaaa
/-
  The landed package merge: a log with one operation more.
-/
namespace Go.Proofs.Ytnndanpahcdmaaa
open Go.RowKit Go.Lib
theorem entsF_take : ∀ (t : List Nod) (s : List Opn) (k : Nat), entsF t (s.take k) = (entsF t s).take k
  | _, [], k => by simp [entsF]
  | _, _ :: _, 0 => by simp [entsF]
  | t, o :: s, k + 1 => by rw [List.take_succ_cons, entsF, entsF, List.take_succ_cons, entsF_take]
theorem ents_take (s : List Opn) (k : Nat) : ents (s.take k) = (ents s).take k := entsF_take [] s k
theorem isR_cut {α : Type} {f : α → List Value} {k : Nat} {w : World} {a : Option Addr} {c : Nat} {l : List α} (h : IsR f k w a c l) (n : Nat) (hn : n ≤ l.length) : IsR f k w a n (l.take n) :=
  ⟨by rw [List.length_take]; omega, fun e => by have := h.2.1 e; have := h.1; omega, (isR_take h n).2.2⟩
theorem isR_slice {α : Type} {f : α → List Value} {k : Nat} {w : World} {a : Option Addr} {c : Nat} {l : List α} (h : IsR f k w a c l) (n : Nat) (hn : n ≤ l.length) : IsR f k w (if c = n then a else Option.map (fun x => x.add (n * k)) a) (c - n) (l.drop n) := by
  have hl := h.1
  by_cases hc : c = n
  · rw [if_pos hc]
    exact ⟨by rw [List.length_drop]; omega, fun _ => by omega, fun hne => absurd (List.drop_of_length_le (by omega)) hne⟩
  · rw [if_neg hc]
    cases a with
    | none => have := h.2.1 rfl; omega
    | some ad =>
      refine ⟨by rw [List.length_drop]; omega, fun e => (by cases e), fun hne => ?_⟩
      have hne2 : l ≠ [] := fun e => hne (by rw [e]; simp)
      obtain ⟨b, o, e, hlt, hx⟩ := h.2.2 hne2
      cases e
      exact ⟨b, o + n * k, by simp [Addr.add], hlt, (isR_drop h n).2.2 hne |> fun ⟨b2, o2, e2, _, hx2⟩ => by cases e2; exact hx2⟩
theorem MadeI.below {w0 : World} {hI gm : Nat} {s : List Opn} {w w' : World} (h : MadeI w0 hI gm s w) (hb : Below w.heap.size w w') : MadeI w0 hI gm s w' := by
  obtain ⟨v, r, a, c, h1, h2, h3, h4, h5, h6, h7, h8⟩ := h
  exact ⟨v, r, a, c, h1.below hb, h2.keep hb.size fun g hg => hb.block g (h2.row g hg).2, IsR.below h3 hb, h4, h5.trans (hb.mono h5.size), h6, h7, Nat.le_trans h8 hb.size⟩
set_option maxRecDepth 100000 in
set_option maxHeartbeats 8000000 in
theorem mwith_any (a : Option Addr) (c : Nat) (b : Option Addr) (d : Nat) (s : List Opn) (o : Opn) (w : World) (h : IsLg w a c b d s) (hs : OkS s) (hm : mayO o = true) (hh : hasS s o.c o.r = false) (ho : o.s.size ≤ 1000 ∧ o.d.size ≤ 1000) (hro : RgO o) :
    Calls Try.prog 30 #[LV a c b d s, OV o] w (OwnPost (insS o s) w) := by
  have hmf : ∀ (fn : Fn) (first cap : Array Value) (w : World), (Instr.makeFunc fn first cap).run Try.prog w = .ok (.func fn first cap) w := fun _ _ _ _ => rfl
  have HI := Lib.hid h.1
  have hfew := hs.few
  have hcap := HI.out.1
  rw [ents_len] at hcap
  have HAh := Lib.hid (fun (w' : World) (hb : Below w.heap.size w w') => mahead_any a c b d s o w' (h.below hb) hs)
  have HSt := Lib.hid (fun (hI gm : Nat) (t : List Opn) (x : Opn) (w' : World) (h : MadeI w hI gm t w') (hl : t.length ≤ 500) (ht : RgOs t) (hx : x.s.size ≤ 1000 ∧ x.d.size ≤ 1000) (hrx : RgO x) => mstep_any w hI gm t x w' h hl (doAll_rng t (fun _ hx => by cases hx) ht) hx hrx)
  have HS := Lib.hid hs
  have HM := Lib.hid hm
  have HH := Lib.hid hh
  obtain ⟨n0, hn0⟩ : ∃ n0, (doAll [] s).length = n0 := ⟨_, rfl⟩
  change Calls _ _ #[.agg #[.slice a s.length c, .slice b (doAll [] s).length d], OV o] _ _
  change Hid (∀ (w' : World) (hb : Below w.heap.size w w'), Calls _ _ #[.agg #[.slice a s.length c, .slice b (doAll [] s).length d], OV o] _ _) at HAh
  rw [hn0] at HAh ⊢
  obtain ⟨A, hA⟩ : ∃ A, A = ((w.alloc (.cells #[.slice a s.length c, .slice b n0 d] 32)).alloc (.cells #[.int .i64 o.c, .int .i64 o.r, .int .i64 o.k, .int .i64 o.n, .int .i64 o.p, .string o.s, .string o.d] 26)).alloc (.cells #[.slice none 0 0, .slice none 0 0] 32) := ⟨_, rfl⟩
  have g0 : Cells A w.heap.size [.slice a s.length c, .slice b n0 d] := by rw [hA]; exact ((cells_new w [.slice a s.length c, .slice b n0 d] 32).below (below_alloc _ _)).below (below_alloc _ _)
  have g1 : Cells A (w.heap.size + 1) (cellsOp o) := by
    rw [hA]
    have q := (cells_new (w.alloc (.cells #[.slice a s.length c, .slice b n0 d] 32)) (cellsOp o) 26).below (below_alloc _ (.cells #[.slice none 0 0, .slice none 0 0] 32))
    rw [show (w.alloc (.cells #[.slice a s.length c, .slice b n0 d] 32)).heap.size = w.heap.size + 1 by simp] at q
    exact q
  have g2 : Cells A (w.heap.size + 2) [.slice none 0 0, .slice none 0 0] := by
    rw [hA]
    have q := cells_new ((w.alloc (.cells #[.slice a s.length c, .slice b n0 d] 32)).alloc (.cells #[.int .i64 o.c, .int .i64 o.r, .int .i64 o.k, .int .i64 o.n, .int .i64 o.p, .string o.s, .string o.d] 26)) [.slice none 0 0, .slice none 0 0] 32
    rw [show ((w.alloc (.cells #[.slice a s.length c, .slice b n0 d] 32)).alloc (.cells #[.int .i64 o.c, .int .i64 o.r, .int .i64 o.k, .int .i64 o.n, .int .i64 o.p, .string o.s, .string o.d] 26)).heap.size = w.heap.size + 2 by simp] at q
    exact q
  have gb : Below w.heap.size w A := by rw [hA]; exact (((Below.refl w.heap.size w).alloc (Nat.le_refl _) _).alloc (by simp) _).alloc (by simp; omega) _
  have G0 := Lib.hid g0
  have G1 := Lib.hid g1
  have G2 := Lib.hid g2
  have GB := Lib.hid gb
  have HAh2 := Lib.hid (HAh.out A GB.out)
  have sA : A.heap.size = w.heap.size + 3 := by rw [hA]; simp
  have HsA := Lib.hid sA
  rw [hA] at HAh2
  clear g0 g1 g2 gb h hn0 hs hm hh HAh sA
  go_enter Try.func30, Try.ntmps30
  go_wp2_with fail
  refine (HAh2.out).mono ?_
  rintro e w1 ⟨n, b', d', hn, hb, ha, rfl, hnd, c1⟩
  rw [← hA] at c1
  clear hA HAh2
  have hsA := HsA.out
  have s1 := c1.size
  have HN1 := Lib.hid hnd
  have HB := Lib.hid hb
  have HA := Lib.hid ha
  obtain ⟨nn, hnn⟩ : ∃ nn, (doAll [] (s.take n)).length = nn := ⟨_, rfl⟩
  have HNn := Lib.hid hnn
  rw [hnn]
  have qn := below_alloc w1 (.cells #[.slice a n n, .slice b' nn d'] 32)
  have c2 := c1.trans (qn.mono c1.size)
  have M0 := Lib.hid (cells_new w1 [.slice a n n, .slice b' nn d'] 32)
  have D0 := Lib.hid (G0.out.below c2)
  have D1 := Lib.hid (G1.out.below c2)
  have D2 := Lib.hid (G2.out.below c2)
  have BM := Lib.hid (step_b GB.out c2)
  have HQn := Lib.hid qn
  have x0 := D0.out.cell 0 _ rfl
  have k0 := D1.out.cell 0 _ rfl
  have k1 := D1.out.cell 1 _ rfl
  have k2 := D1.out.cell 2 _ rfl
  have k3 := D1.out.cell 3 _ rfl
  have k4 := D1.out.cell 4 _ rfl
  have k5 := D1.out.cell 5 _ rfl
  have k6 := D1.out.cell 6 _ rfl
  clear c1 c2 qn hb ha hnd hnn
  have hn2 : (n : Int) ≤ (s.length : Int) := by omega
  have hn3 : (n : Int) ≤ (c : Int) := by omega
  go_upto_region 4 with fail
  obtain ⟨WM, hWM⟩ : ∃ WM, WM = w1.alloc (.cells #[.slice a n n, .slice b' nn d'] 32) := ⟨_, rfl⟩
  rw [← hWM]
  have hM0 := M0.out
  change Cells (w1.alloc (.cells #[.slice a n n, .slice b' nn d'] 32)) _ _ at hM0
  rw [← hWM] at hM0
  have hD0 := D0.out
  have hD1 := D1.out
  have hD2 := D2.out
  have hBM := BM.out
  have hQn := HQn.out
  have zM : WM.heap.size = w1.heap.size + 1 := by rw [hWM]; simp
  rw [← hWM] at hD0 hD1 hD2 hBM hQn k0 k1 k2 k3 k4 k5 k6
  have HLat := Lib.hid (isR_slice HI.out n (by rw [ents_len]; exact hn))
  have hMade : MadeI w (w1.heap.size + 1) w1.heap.size (s.take n) WM :=
    ⟨.slice a n n, none, b', d', by rw [HNn.out]; exact hM0, .inr ⟨rfl, a, by rw [ents_len, List.length_take, Nat.min_eq_left hn], by rw [ents_len, List.length_take, Nat.min_eq_left hn, ents_take]; exact isR_cut HI.out n (by rw [ents_len]; exact hn)⟩, IsR.below HN1.out hQn,
      fun hne q o' e => ⟨by obtain ⟨b1, o1, e1, hlt1, _⟩ := HN1.out.2.2 hne; rw [e] at e1; cases e1; omega, by simp⟩, hBM, by omega, by omega, by omega⟩
  have HMade := Lib.hid hMade
  have HStep0 := Lib.hid (HSt.out _ _ (s.take n) o WM HMade.out (by rw [List.length_take]; omega) (fun x hx => HS.out.rng x (List.mem_of_mem_take hx)) ho hro)
  have E2 := Lib.hid hD2
  have EBM := Lib.hid hBM
  have HzM := Lib.hid zM
  clear hM0 hD0 hD1 hD2 hBM hQn hMade D0 D1 D2 BM HQn M0 hWM zM x0
  generalize (if c = n then a else Option.map (fun x => x.add (n * 17)) a) = L at HLat ⊢
  go_wp2_with fail
  refine (HStep0.out).mono ?_
  rintro e w2 ⟨rfl, hmo, hz2, hq2⟩
  have HMo := Lib.hid hmo
  have HQ2 := Lib.hid hq2
  clear hmo hq2 HStep0 HMade k0 k1 k2 k3 k4 k5 k6
  have hsn : (0 : Int) ≤ ((s.length - n : Nat) : Int) := by omega
  go_wp2_with fail
  go_loopw [9, 25] (fun _ x25 w' => ∃ j : Nat, j ≤ s.length - n ∧ x25 = .int .i64 j ∧ MadeO w (w1.heap.size + 1) w1.heap.size (s.take n ++ [o] ++ (s.drop n).take j) w' ∧ WM.heap.size ≤ w'.heap.size ∧ ∀ q, q < w1.heap.size + 1 → q ≠ w1.heap.size → w'.heap[q]? = WM.heap[q]?) (fun _ x25 _ => s.length - n - (RowKit.intOf x25).toNat)
  case atStart => exact ⟨0, Nat.zero_le _, rfl, by rw [List.take_zero, List.append_nil]; exact HMo.out, hz2, HQ2.out⟩
  case round =>
    obtain ⟨j, hj, rfl, hmo, hzr, hqr⟩ := hrel
    have HMr := Lib.hid hmo
    have HQr := Lib.hid hqr
    have hwr : Below w.heap.size w wr := by obtain ⟨_, _, _, _, _, _, _, hb, _⟩ := hmo; exact hb
    have HWr := Lib.hid hwr
    clear hmo hqr hwr
    by_cases hjs : j < s.length - n
    · have hj2 : (j : Int) < ((s.length - n : Nat) : Int) := by omega
      obtain ⟨x, hx⟩ : ∃ x, s[n + j]? = some x := ⟨_, List.getElem?_eq_getElem (by omega)⟩
      have hen := ents_at hx
      have hen2 : ((ents s).drop n)[j]? = some ⟨x, (doN (doAll [] (s.take (n + j))) x).2⟩ := by rw [List.getElem?_drop]; exact hen
      have hLr : IsEn wr L (c - n) ((ents s).drop n) := IsR.below HLat.out HWr.out
      obtain ⟨g, off, rfl, hg, hc⟩ := hLr.ent hen2
      have hAt := atEn_of (hc j _ hen2)
      generalize (doN (doAll [] (s.take (n + j))) x).2 = u at hAt
      obtain ⟨m0, m1, m2, m3, m4, m5, m6, m7, m8, m9, m10, m11, m12, m13, m14, m15, m16⟩ := hAt
      simp only [] at m0 m1 m2 m3 m4 m5 m6 m7 m8 m9 m10 m11 m12 m13 m14 m15 m16
      have qn := below_alloc wr (.cells #[.int .i64 x.c, .int .i64 x.r, .int .i64 x.k, .int .i64 x.n, .int .i64 x.p, .string x.s, .string x.d, .bool u.did, .bool u.had, .int .i64 u.was.id, .int .i64 u.was.p, .string u.was.s, .int .i64 u.was.mc, .int .i64 u.was.mr, .string u.was.d, .int .i64 u.was.wc, .int .i64 u.was.wr] 49)
      have hxs := List.mem_of_getElem? hx
      have hxt : (s.drop n).take (j + 1) = (s.drop n).take j ++ [x] := by rw [List.take_add_one, List.getElem?_drop, hx]; rfl
      have hst := HSt.out _ _ (s.take n ++ [o] ++ (s.drop n).take j) x _ (HMr.out.i.below qn) (by simp only [List.length_append, List.length_take, List.length_drop, List.length_singleton]; omega) (fun y hy => by
        rcases List.mem_append.1 hy with hy | hy
        · rcases List.mem_append.1 hy with hy | hy
          · exact HS.out.rng y (List.mem_of_mem_take hy)
          · rw [List.mem_singleton.1 hy]; exact hro
        · exact HS.out.rng y (List.mem_of_mem_drop (List.mem_of_mem_take hy))) (HS.out.small x hxs) (HS.out.rng x hxs)
      rw [List.append_assoc _ _ [x], ← hxt] at hst
      have HStp := Lib.hid hst
      have hqn := qn.size
      have HQn := Lib.hid qn.block
      clear hc hen hen2 hLr hx hst qn hxt hxs
      go_wp2_with fail
      refine (HStp.out).mono ?_
      rintro e w3 ⟨rfl, hmo3, hz3, hq3⟩
      have HM3 := Lib.hid hmo3
      have HQ3 := Lib.hid hq3
      clear hmo3 hq3 HStp
      go_wp2_with fail
      go_roundw
      case rel => exact ⟨j + 1, by omega, by go_num, HM3.out, by omega, fun q hq hne => (HQ3.out q hq hne).trans ((HQn.out q (by have := HzM.out; omega)).trans (HQr.out q hq hne))⟩
      case measure => simp [RowKit.intOf]; omega
    · obtain rfl : j = s.length - n := by omega
      have hj2 : ¬ ((s.length - n : Nat) : Int) < ((s.length - n : Nat) : Int) := by omega
      have hall : s.take n ++ [o] ++ (s.drop n).take (s.length - n) = insS o s := by
        rw [show (s.drop n).take (s.length - n) = s.drop n from List.take_of_length_le (by rw [List.length_drop]; omega), List.append_assoc, List.singleton_append]
        exact (ins_place HS.out.lg.1 hn HB.out HA.out (fun y _ hy he => by
          have := hasS_iff.2 ⟨y, List.mem_of_getElem? hy, he⟩
          rw [HH.out] at this
          cases this)).symm
      have hmr := HMr.out
      rw [hall] at hmr
      obtain ⟨v, a1, q1, hC, hE, hNd, _, _, _, _, _⟩ := hmr
      obtain ⟨a0, q0, rfl, _⟩ := OwnR.isR en_len hE
      have hR := E2.out.keep hzr (HQr.out (w.heap.size + 2) (by omega) (by omega))
      obtain ⟨l1, hl1⟩ : ∃ x, (ents (insS o s)).length = x := ⟨_, rfl⟩
      obtain ⟨l2, hl2⟩ : ∃ x, (doAll [] (insS o s)).length = x := ⟨_, rfl⟩
      rw [hl1] at hE hC
      rw [hl2] at hNd hC
      have cg0 := hC.cell 0 _ rfl
      have cg1 := hC.cell 1 _ rfl
      have r0 := hR.cell 0 _ rfl
      have r1 := hR.cell 1 _ rfl
      have f0 := hR.free 0 (by simp)
      have f1 := hR.free 1 (by simp)
      have hlt := hR.lt
      have HE := Lib.hid hE
      have HNd := Lib.hid hNd
      have HR := Lib.hid hR
      clear hC hE hNd hR hl1 hl2
      go_wp2_with fail
      have hQ := (HR.out.set 0 (by simp) (.slice a0 l1 q0)).set 1 (by simp) (.slice a1 l2 q1)
      have y0 := hQ.cell 0 _ rfl
      have y1 := hQ.cell 1 _ rfl
      have hsz : ((wr.setCell ⟨w.heap.size + 2, 0, none⟩ (.slice a0 l1 q0)).setCell ⟨w.heap.size + 2, 1, none⟩ (.slice a1 l2 q1)).heap.size = wr.heap.size := setCells_heap (w.heap.size + 2) [.slice a0 l1 q0, .slice a1 l2 q1] 0 wr
      have hot : ∀ g, g < wr.heap.size → g ≠ w.heap.size + 2 → ((wr.setCell ⟨w.heap.size + 2, 0, none⟩ (.slice a0 l1 q0)).setCell ⟨w.heap.size + 2, 1, none⟩ (.slice a1 l2 q1)).heap[g]? = wr.heap[g]? := fun g hg hne => World.heap_setCells_other wr (w.heap.size + 2) 0 [.slice a0 l1 q0, .slice a1 l2 q1] hg hne
      refine bodyPost_ret (v := .agg #[.slice a0 l1 q0, .slice a1 l2 q1]) (by simp [results, Try.results30, go_sem, y0, y1]) rfl ⟨_, rfl, ⟨_, _, rfl, ?_, ?_⟩, (HWr.out.setCell (p := ⟨w.heap.size + 2, 0, none⟩) (Nat.le_add_right _ _) _).setCell (p := ⟨w.heap.size + 2, 1, none⟩) (Nat.le_add_right _ _) _⟩
      · exact OwnR.mono (B' := w.heap.size) (OwnR.keep HE.out (Nat.le_of_eq hsz.symm) fun g hg => hot g (OwnC.lt HE.out g hg).2 (by have := (OwnC.lt HE.out g hg).1; omega)) (by omega)
      · exact OwnR.mono (B' := w.heap.size) (OwnR.keep HNd.out (Nat.le_of_eq hsz.symm) fun g hg => hot g (OwnC.lt HNd.out g hg).2 (by have := (OwnC.lt HNd.out g hg).1; omega)) (by omega)
end Go.Proofs.Ytnndanpahcdmaaa
/-
  The landed package merge: Add, All and Of.
-/
namespace Go.Proofs.Ytnndanpahcdmaaa
open Go.RowKit Go.Lib
theorem OkS.ins {s : List Opn} (h : OkS s) {o : Opn} (hk : askB s o = true) (ho : o.s.size ≤ 1000 ∧ o.d.size ≤ 1000) (hro : RgO o) : OkS (insS o s) := by
  obtain ⟨h1, h2, h3⟩ := ask_yes hk
  refine ⟨⟨insS_srt o h.lg.1, insS_may h.lg h1⟩, by have := insS_len o s; omega, fun x hx => ?_, fun x hx => ?_⟩
  · rcases (insS_mem h.lg.1).1 hx with hx | ⟨rfl, _⟩
    · exact h.small x hx
    · exact ho
  · rcases (insS_mem h.lg.1).1 hx with hx | ⟨rfl, _⟩
    · exact h.rng x hx
    · exact hro
theorem OkS.add {s : List Opn} (h : OkS s) {o : Opn} (ho : o.s.size ≤ 1000 ∧ o.d.size ≤ 1000) (hro : RgO o) : OkS (addL s o).1 := by
  cases hk : askB s o with
  | true => rw [add_yes hk]; exact h.ins hk ho hro
  | false => rw [add_no hk]; exact h
theorem okS_nil : OkS [] := ⟨lg_nil, Nat.zero_le _, (fun _ h => by cases h), (fun _ h => by cases h)⟩
theorem nodes_few0 {s : List Opn} (h : s.length ≤ 200) : (doAll [] s).length ≤ 200 := Nat.le_trans (doAll_len _) h
def MAddPost (r : List Opn × Int) (w : World) (e : Ending) (w' : World) : Prop := ∃ x, e = .returned (.tuple #[x, .int .i64 r.2]) ∧ OwnLg w.heap.size r.1 x w' ∧ Below w.heap.size w w'
set_option maxRecDepth 100000 in
set_option maxHeartbeats 8000000 in
theorem madd_any (a : Option Addr) (c : Nat) (b : Option Addr) (d : Nat) (s : List Opn) (o : Opn) (w : World) (h : IsLg w a c b d s) (hs : OkS s) (ho : o.s.size ≤ 1000 ∧ o.d.size ≤ 1000) (hro : RgO o) :
    Calls Try.prog 13 #[LV a c b d s, OV o] w (MAddPost (addL s o) w) := by
  have hfew := hs.few
  have HAsk := Lib.hid (fun (w' : World) (hb : Below w.heap.size w w') => mask_any a c b d s o w' (h.below hb) (by omega) (by have := ho.1; omega) hro)
  have HOwn := Lib.hid (fun (w' : World) (hb : Below w.heap.size w w') => mown_any a c b d s w' (h.below hb) (by omega) (Nat.le_trans (nodes_few0 hfew) (by omega)))
  have HWith := Lib.hid (fun (hk : askB s o = true) (w' : World) (hb : Below w.heap.size w w') => mwith_any a c b d s o w' (h.below hb) hs (ask_yes hk).1 (ask_yes hk).2.1 ho hro)
  obtain ⟨k, hk⟩ : ∃ k, askB s o = k := ⟨_, rfl⟩
  obtain ⟨er, her⟩ : ∃ er, (addL s o).2 = er := ⟨_, rfl⟩
  rw [hk, her] at HAsk
  have HK := Lib.hid hk
  have HEr := Lib.hid her
  change Hid (∀ (w' : World) (hb : Below w.heap.size w w'), Calls _ _ #[.agg #[.slice a s.length c, .slice b (doAll [] s).length d], OV o] _ _) at HAsk
  change Hid (∀ (w' : World) (hb : Below w.heap.size w w'), Calls _ _ #[.agg #[.slice a s.length c, .slice b (doAll [] s).length d]] _ _) at HOwn
  change Hid (∀ (hk : askB s o = true) (w' : World) (hb : Below w.heap.size w w'), Calls _ _ #[.agg #[.slice a s.length c, .slice b (doAll [] s).length d], OV o] _ _) at HWith
  change Calls _ _ #[.agg #[.slice a s.length c, .slice b (doAll [] s).length d], OV o] _ _
  generalize (doAll [] s).length = n0 at HAsk HOwn HWith ⊢
  obtain ⟨A, hA⟩ : ∃ A, A = ((w.alloc (.cells #[.slice a s.length c, .slice b n0 d] 32)).alloc (.cells #[.int .i64 o.c, .int .i64 o.r, .int .i64 o.k, .int .i64 o.n, .int .i64 o.p, .string o.s, .string o.d] 26)).alloc (.cells #[.slice none 0 0, .slice none 0 0] 32) := ⟨_, rfl⟩
  have g0 : Cells A w.heap.size [.slice a s.length c, .slice b n0 d] := by rw [hA]; exact ((cells_new w [.slice a s.length c, .slice b n0 d] 32).below (below_alloc _ _)).below (below_alloc _ _)
  have g1 : Cells A (w.heap.size + 1) (cellsOp o) := by
    rw [hA]
    have q := (cells_new (w.alloc (.cells #[.slice a s.length c, .slice b n0 d] 32)) (cellsOp o) 26).below (below_alloc _ (.cells #[.slice none 0 0, .slice none 0 0] 32))
    rw [show (w.alloc (.cells #[.slice a s.length c, .slice b n0 d] 32)).heap.size = w.heap.size + 1 by simp] at q
    exact q
  have g2 : Cells A (w.heap.size + 2) [.slice none 0 0, .slice none 0 0] := by
    rw [hA]
    have q := cells_new ((w.alloc (.cells #[.slice a s.length c, .slice b n0 d] 32)).alloc (.cells #[.int .i64 o.c, .int .i64 o.r, .int .i64 o.k, .int .i64 o.n, .int .i64 o.p, .string o.s, .string o.d] 26)) [.slice none 0 0, .slice none 0 0] 32
    rw [show ((w.alloc (.cells #[.slice a s.length c, .slice b n0 d] 32)).alloc (.cells #[.int .i64 o.c, .int .i64 o.r, .int .i64 o.k, .int .i64 o.n, .int .i64 o.p, .string o.s, .string o.d] 26)).heap.size = w.heap.size + 2 by simp] at q
    exact q
  have gb : Below w.heap.size w A := by rw [hA]; exact (((Below.refl w.heap.size w).alloc (Nat.le_refl _) _).alloc (by simp) _).alloc (by simp; omega) _
  have sA : A.heap.size = w.heap.size + 3 := by rw [hA]; simp
  have G0 := Lib.hid g0
  have G1 := Lib.hid g1
  have G2 := Lib.hid g2
  have GB := Lib.hid gb
  have HsA := Lib.hid sA
  have HAsk2 := Lib.hid (HAsk.out A GB.out)
  rw [hA] at HAsk2
  clear g0 g1 g2 gb h hk her HAsk sA hs ho hro
  go_enter Try.func13, Try.ntmps13
  go_wp2_with fail
  refine (HAsk2.out).mono ?_
  rintro e w1 ⟨rfl, c1⟩
  rw [← hA] at c1
  clear hA HAsk2
  have B1 := Lib.hid (step_b GB.out c1)
  have A0 := Lib.hid (G0.out.below c1)
  have A1 := Lib.hid (G1.out.below c1)
  have A2 := Lib.hid (G2.out.below c1)
  have s1 := c1.size
  have x0 := A0.out.cell 0 _ rfl
  have x1 := A0.out.cell 1 _ rfl
  have k0 := A1.out.cell 0 _ rfl
  have k1 := A1.out.cell 1 _ rfl
  have k2 := A1.out.cell 2 _ rfl
  have k3 := A1.out.cell 3 _ rfl
  have k4 := A1.out.cell 4 _ rfl
  have k5 := A1.out.cell 5 _ rfl
  have k6 := A1.out.cell 6 _ rfl
  clear c1
  have fin : ∀ (t : List Opn) (x : Value) (w2 : World), OwnLg w1.heap.size t x w2 → Below w1.heap.size w1 w2 → (addL s o).1 = t → ∃ p q, x = .agg #[p, q] ∧ (∃ pa pn pc, p = .slice pa pn pc) ∧ (∃ qa qn qc, q = .slice qa qn qc) ∧ ∀ W, W = (w2.setCell ⟨w.heap.size + 2, 0, none⟩ p).setCell ⟨w.heap.size + 2, 1, none⟩ q →
      W.cell? ⟨w.heap.size + 2, 0, none⟩ = some p ∧ W.cell? ⟨w.heap.size + 2, 1, none⟩ = some q ∧ MAddPost (addL s o) w (.returned (.tuple #[.agg #[p, q], .int .i64 er])) W := by
    rintro t x w2 ⟨p, q, rfl, hp, hq⟩ c2 ht
    obtain ⟨pa, pc, hpe, _⟩ := OwnR.isR en_len hp
    obtain ⟨qa, qc, hqe, _⟩ := OwnR.isR nd_len hq
    refine ⟨p, q, rfl, ⟨_, _, _, hpe⟩, ⟨_, _, _, hqe⟩, ?_⟩
    rintro W rfl
    have hQ := ((A2.out.below c2).set 0 (by simp) p).set 1 (by simp) q
    have hsz : ((w2.setCell ⟨w.heap.size + 2, 0, none⟩ p).setCell ⟨w.heap.size + 2, 1, none⟩ q).heap.size = w2.heap.size := setCells_heap (w.heap.size + 2) [p, q] 0 w2
    have hot : ∀ g, g < w2.heap.size → g ≠ w.heap.size + 2 → ((w2.setCell ⟨w.heap.size + 2, 0, none⟩ p).setCell ⟨w.heap.size + 2, 1, none⟩ q).heap[g]? = w2.heap[g]? := fun g hg hne => World.heap_setCells_other w2 (w.heap.size + 2) 0 [p, q] hg hne
    have hsA := HsA.out
    refine ⟨hQ.cell 0 _ rfl, hQ.cell 1 _ rfl, _, by rw [HEr.out], ⟨p, q, rfl, ?_, ?_⟩, ((step_b B1.out c2).setCell (p := ⟨w.heap.size + 2, 0, none⟩) (Nat.le_add_right _ _) _).setCell (p := ⟨w.heap.size + 2, 1, none⟩) (Nat.le_add_right _ _) _⟩
    · rw [ht]
      exact OwnR.mono (OwnR.keep hp (Nat.le_of_eq hsz.symm) fun g hg => hot g (OwnC.lt hp g hg).2 (by have := (OwnC.lt hp g hg).1; omega)) (by omega)
    · rw [ht]
      exact OwnR.mono (OwnR.keep hq (Nat.le_of_eq hsz.symm) fun g hg => hot g (OwnC.lt hq g hg).2 (by have := (OwnC.lt hq g hg).1; omega)) (by omega)
  have HFin := Lib.hid fin
  clear fin
  cases k with
  | false =>
    go_wp2_with fail
    refine (HOwn.out _ B1.out).mono ?_
    rintro e w2 ⟨x, rfl, hx, c2⟩
    obtain ⟨p, q, rfl, ⟨pa, pn, pc, rfl⟩, ⟨qa, qn, qc, rfl⟩, hf⟩ := HFin.out s x w2 hx c2 (by rw [add_no HK.out])
    have E2 := A2.out.below c2
    have r0 := E2.cell 0 _ rfl
    have r1 := E2.cell 1 _ rfl
    have f0 := E2.free 0 (by simp)
    have f1 := E2.free 1 (by simp)
    have hlt := E2.lt
    have HF := Lib.hid hf
    clear c2 hx hf E2
    go_wp2_with fail
    obtain ⟨y0, y1, hp⟩ := HF.out _ rfl
    exact bodyPost_ret (v := .tuple #[.agg #[.slice pa pn pc, .slice qa qn qc], .int .i64 er]) (by simp [results, Try.results13, go_sem, y0, y1]) rfl hp
  | true =>
    have HW := Lib.hid (HWith.out HK.out w1 B1.out)
    have her0 : er = 0 := by rw [← HEr.out, add_yes HK.out]
    have HEr0 := Lib.hid her0
    clear her0
    go_wp2_with fail
    refine (HW.out).mono ?_
    rintro e w2 ⟨x, rfl, hx, c2⟩
    obtain ⟨p, q, rfl, ⟨pa, pn, pc, rfl⟩, ⟨qa, qn, qc, rfl⟩, hf⟩ := HFin.out (insS o s) x w2 hx c2 (by rw [add_yes HK.out])
    have E2 := A2.out.below c2
    have r0 := E2.cell 0 _ rfl
    have r1 := E2.cell 1 _ rfl
    have f0 := E2.free 0 (by simp)
    have f1 := E2.free 1 (by simp)
    have hlt := E2.lt
    have HF := Lib.hid hf
    clear c2 hx hf E2
    go_wp2_with fail
    obtain ⟨y0, y1, hp⟩ := HF.out _ rfl
    rw [HEr0.out] at hp
    exact bodyPost_ret (v := .tuple #[.agg #[.slice pa pn pc, .slice qa qn qc], .int .i64 0]) (by simp [results, Try.results13, go_sem, y0, y1]) rfl hp
end Go.Proofs.Ytnndanpahcdmaaa
/-
  The landed package merge: All and Of.
-/
namespace Go.Proofs.Ytnndanpahcdmaaa
open Go.RowKit Go.Lib
theorem OkS.all {s : List Opn} (h : OkS s) (l : List Opn) : (∀ x ∈ l, x.s.size ≤ 1000 ∧ x.d.size ≤ 1000) → RgOs l → OkS (allL s l).1 := by
  refine list_snoc (P := fun l => (∀ x ∈ l, x.s.size ≤ 1000 ∧ x.d.size ≤ 1000) → RgOs l → OkS (allL s l).1) (fun _ _ => h) (fun l o ih hs hr => ?_) l
  rw [allL_snoc]
  exact (ih (fun x hx => hs x (List.mem_append_left _ hx)) (fun x hx => hr x (List.mem_append_left _ hx))).add (hs o (by simp)) (hr o (by simp))
def MAllPost (r : List Opn × Nat) (w : World) (e : Ending) (w' : World) : Prop := ∃ x, e = .returned (.tuple #[x, .int .i64 r.2]) ∧ OwnLg w.heap.size r.1 x w' ∧ Below w.heap.size w w'
/-- What All's box holds. -/
def BoxL (B gm : Nat) (t : List Opn) (w : World) : Prop := ∃ p q, Cells w gm [p, q] ∧ OwnEn B (ents t) p w ∧ OwnNd B (doAll [] t) q w ∧ (∀ g, p.ownBlock = some g → g ≠ gm) ∧ ∀ g, q.ownBlock = some g → g ≠ gm
theorem BoxL.below {B gm : Nat} {t : List Opn} {w w' : World} (h : BoxL B gm t w) (hb : Below w.heap.size w w') : BoxL B gm t w' := by
  obtain ⟨p, q, h1, h2, h3, h4, h5⟩ := h
  exact ⟨p, q, h1.below hb, h2.below hb, h3.below hb, h4, h5⟩
theorem BoxL.cells {B gm : Nat} {t : List Opn} {w : World} (h : BoxL B gm t w) : ∃ a c b d, Cells w gm [.slice a t.length c, .slice b (doAll [] t).length d] ∧ IsLg w a c b d t ∧ OwnEn B (ents t) (.slice a t.length c) w ∧ OwnNd B (doAll [] t) (.slice b (doAll [] t).length d) w ∧ (∀ g o, a = some ⟨g, o, none⟩ → g ≠ gm) ∧ ∀ g o, b = some ⟨g, o, none⟩ → g ≠ gm := by
  obtain ⟨p, q, h1, h2, h3, h4, h5⟩ := h
  obtain ⟨a, c, e1, i1, a1⟩ := OwnR.isR2 en_len h2
  obtain ⟨b, d, e2, i2, a2⟩ := OwnR.isR2 nd_len h3
  rw [e1] at h1 h2 h4
  rw [e2] at h1 h3 h5
  rw [ents_len] at h1 h2 h4
  refine ⟨a, c, b, d, h1, ⟨i1, i2⟩, h2, h3, fun g o e => ?_, fun g o e => ?_⟩
  · rcases a1 with rfl | ⟨g', rfl⟩
    · cases e
    · cases e; exact h4 g rfl
  · rcases a2 with rfl | ⟨g', rfl⟩
    · cases e
    · cases e; exact h5 g rfl
set_option maxRecDepth 100000 in
set_option maxHeartbeats 8000000 in
theorem mall_any (a : Option Addr) (c : Nat) (b : Option Addr) (d : Nat) (s : List Opn) (la : Option Addr) (lc : Nat) (l : List Opn) (w : World) (h : IsLg w a c b d s) (hs : OkS s) (hl : IsOp w la lc l) (hll : l.length ≤ 1000000) (hsm : ∀ x ∈ l, x.s.size ≤ 1000 ∧ x.d.size ≤ 1000) (hr : RgOs l) :
    Calls Try.prog 11 #[LV a c b d s, .slice la l.length lc] w (MAllPost (allL s l) w) := by
  have hfew := hs.few
  have HOwn := Lib.hid (fun (w' : World) (hb : Below w.heap.size w w') => mown_any a c b d s w' (h.below hb) (by omega) (Nat.le_trans (nodes_few0 hfew) (by omega)))
  have HAsk := Lib.hid (fun (t : List Opn) (o : Opn) (ho : o ∈ l) (ht : t.length ≤ 200) (a c b d) (w' : World) (hb : IsLg w' a c b d t) => mask_any a c b d t o w' hb (by omega) (by have := (hsm o ho).1; omega) (hr o ho))
  have HWith := Lib.hid (fun (t : List Opn) (o : Opn) (ho : o ∈ l) (ht : OkS t) (hk : askB t o = true) (a c b d) (w' : World) (hb : IsLg w' a c b d t) => mwith_any a c b d t o w' hb ht (ask_yes hk).1 (ask_yes hk).2.1 (hsm o ho) (hr o ho))
  have HOk := Lib.hid (fun k => hs.all (l.take k) (fun x hx => hsm x (List.mem_of_mem_take hx)) (fun x hx => hr x (List.mem_of_mem_take hx)))
  have HL := Lib.hid hl
  change Hid (∀ (w' : World) (hb : Below w.heap.size w w'), Calls _ _ #[.agg #[.slice a s.length c, .slice b (doAll [] s).length d]] _ _) at HOwn
  change Calls _ _ #[.agg #[.slice a s.length c, .slice b (doAll [] s).length d], _] _ _
  generalize (doAll [] s).length = n0 at HOwn ⊢
  obtain ⟨A, hA⟩ : ∃ A, A = (w.alloc (.cells #[.slice a s.length c, .slice b n0 d] 32)).alloc (.cells #[.slice none 0 0, .slice none 0 0] 32) := ⟨_, rfl⟩
  have g2 : Cells A (w.heap.size + 1) [.slice none 0 0, .slice none 0 0] := by
    rw [hA]
    have q := cells_new (w.alloc (.cells #[.slice a s.length c, .slice b n0 d] 32)) [.slice none 0 0, .slice none 0 0] 32
    rw [show (w.alloc (.cells #[.slice a s.length c, .slice b n0 d] 32)).heap.size = w.heap.size + 1 by simp] at q
    exact q
  have gb : Below w.heap.size w A := by rw [hA]; exact ((Below.refl w.heap.size w).alloc (Nat.le_refl _) _).alloc (by simp) _
  have sA : A.heap.size = w.heap.size + 2 := by rw [hA]; simp
  have G2 := Lib.hid g2
  have GB := Lib.hid gb
  have HsA := Lib.hid sA
  have HOwn2 := Lib.hid (HOwn.out A GB.out)
  rw [hA] at HOwn2
  clear g2 gb h sA hs hsm hr hl HOwn
  go_enter Try.func11, Try.ntmps11
  go_wp2_with fail
  refine (HOwn2.out).mono ?_
  rintro e w1 ⟨x, rfl, hx, c1⟩
  rw [← hA] at c1 hx
  clear hA HOwn2
  have B1 := Lib.hid (step_b GB.out c1)
  have s1 := c1.size
  have hsA := HsA.out
  obtain ⟨p, q, rfl, hp, hq⟩ := hx
  obtain ⟨pa, pc, rfl, _⟩ := OwnR.isR en_len hp
  obtain ⟨qa, qc, rfl, _⟩ := OwnR.isR nd_len hq
  have qm := below_alloc w1 (.cells #[.slice pa (ents s).length pc, .slice qa (doAll [] s).length qc] 32)
  obtain ⟨WM, hWM⟩ : ∃ WM, WM = w1.alloc (.cells #[.slice pa (ents s).length pc, .slice qa (doAll [] s).length qc] 32) := ⟨_, rfl⟩
  have zM : WM.heap.size = w1.heap.size + 1 := by rw [hWM]; simp
  have HBox0 := Lib.hid (show BoxL (w.heap.size + 2) w1.heap.size s WM from by
    rw [hWM]
    exact ⟨_, _, cells_new w1 [.slice pa (ents s).length pc, .slice qa (doAll [] s).length qc] 32, OwnR.mono (OwnR.below hp qm) (by omega), OwnR.mono (OwnR.below hq qm) (by omega), fun g hg => by have := (OwnC.lt hp g hg).2; omega, fun g hg => by have := (OwnC.lt hq g hg).2; omega⟩)
  have c2 : Below A.heap.size A WM := by rw [hWM]; exact c1.trans (qm.mono c1.size)
  have D2 := Lib.hid (G2.out.below c2)
  have BM := Lib.hid (step_b GB.out c2)
  have HzM := Lib.hid zM
  clear c1 c2 qm hp hq zM
  go_wp2_with fail
  rw [← hWM]
  clear hWM
  go_loopw [7, 16] (fun x7 x16 w' => ∃ j : Nat, j ≤ l.length ∧ x16 = .int .i64 j ∧ x7 = .int .i64 (allL s (l.take j)).2 ∧ BoxL (w.heap.size + 2) w1.heap.size (allL s (l.take j)).1 w' ∧ Below w1.heap.size WM w') (fun _ x16 _ => l.length - (RowKit.intOf x16).toNat)
  case atStart => exact ⟨0, Nat.zero_le _, rfl, rfl, HBox0.out, Below.refl _ _⟩
  case round =>
    obtain ⟨j, hj, rfl, rfl, hbx, ck⟩ := hrel
    have hzr := ck.size
    have hzM := HzM.out
    have hnum : (allL s (l.take j)).2 ≤ 1000000 := Nat.le_trans (allL_num s _) (by rw [List.length_take]; omega)
    have hokt := HOk.out j
    have BW := Lib.hid (show Below w.heap.size w wr from BM.out.trans (ck.mono (by omega)))
    by_cases hjl : j < l.length
    · obtain ⟨o, ho⟩ : ∃ o, l[j]? = some o := ⟨_, List.getElem?_eq_getElem hjl⟩
      have hj2 : (j : Int) < (l.length : Int) := by omega
      have htk := allL_take (s := s) ho
      generalize allL s (l.take j) = r at hbx hnum hokt htk ⊢
      obtain ⟨t, n⟩ := r
      simp only [] at hbx hnum hokt htk ⊢
      have HTk := Lib.hid htk
      have HOkt := Lib.hid hokt
      obtain ⟨a1, c1, b1, d1, hC, hLg, hE, hN, fa, fb⟩ := hbx.cells
      have HBx := Lib.hid hC
      have HLg := Lib.hid hLg
      have HE := Lib.hid hE
      have HN := Lib.hid hN
      have HFa := Lib.hid fa
      have HFb := Lib.hid fb
      obtain ⟨g, off, rfl, hg, hc⟩ := (IsR.below HL.out BW.out).opn ho
      obtain ⟨m0, m1, m2, m3, m4, m5, m6⟩ := hc j o ho
      have hmem := List.mem_of_getElem? ho
      have qn := below_alloc wr (.cells #[.int .i64 o.c, .int .i64 o.r, .int .i64 o.k, .int .i64 o.n, .int .i64 o.p, .string o.s, .string o.d] 26)
      have HO1 := Lib.hid (hasO_new wr o 26)
      have HAs := Lib.hid (HAsk.out t o hmem HOkt.out.few a1 c1 b1 d1 _ (hLg.below qn))
      have HWi := Lib.hid (fun hk w' hb => HWith.out t o hmem HOkt.out hk a1 c1 b1 d1 w' (hLg.below hb))
      obtain ⟨k, hk⟩ : ∃ k, askB t o = k := ⟨_, rfl⟩
      obtain ⟨er, her⟩ : ∃ er, (addL t o).2 = er := ⟨_, rfl⟩
      rw [hk, her] at HAs
      rw [her] at HTk
      change Hid (Calls _ _ #[.agg #[.slice a1 t.length c1, .slice b1 (doAll [] t).length d1], OV o] _ _) at HAs
      change Hid (∀ (hk : askB t o = true) (w' : World) (hb : Below wr.heap.size wr w'), Calls _ _ #[.agg #[.slice a1 t.length c1, .slice b1 (doAll [] t).length d1], OV o] _ _) at HWi
      obtain ⟨dn, hdn⟩ : ∃ dn, (doAll [] t).length = dn := ⟨_, rfl⟩
      rw [hdn] at HAs HWi HBx HN
      have HK := Lib.hid hk
      have HEr := Lib.hid her
      have HMem := Lib.hid hmem
      have y0 := fun X => (HBx.out.below (below_alloc wr X)).cell 0 _ rfl
      have y1 := fun X => (HBx.out.below (below_alloc wr X)).cell 1 _ rfl
      have HBX := Lib.hid hbx
      clear hC hLg hE hN fa fb hc ho hk her htk hokt hbx hdn hmem
      go_wp2_with fail
      refine (HAs.out).mono ?_
      rintro e w2 ⟨rfl, c2⟩
      have c20 := Lib.hid (qn.trans (c2.mono qn.size))
      have A1 := Lib.hid (HO1.out.below c2)
      have C2 := Lib.hid (HBx.out.below c20.out)
      have s2 := c20.out.size
      have B2 := Lib.hid (ck.trans (c20.out.mono (by omega)))
      clear c2 qn y0 y1 m0 m1 m2 m3 m4 m5 m6 HAs
      cases k with
      | false =>
        have hadd := add_no HK.out
        have HAdd := Lib.hid (show (addL t o).1 = t by rw [hadd])
        clear hadd
        by_cases he : er = 0
        · have he2 : (er == 0) = true := by rw [he]; rfl
          have HT2 := Lib.hid (show allL s (l.take (j + 1)) = (t, n) by rw [HTk.out, HAdd.out, if_pos he]; rfl)
          have HZ := Lib.hid he
          clear he
          go_wp2_with fail
          go_roundw
          case rel => exact ⟨j + 1, by omega, by go_num, by rw [HT2.out], by rw [HT2.out]; exact HBX.out.below c20.out, B2.out⟩
          case measure => simp [RowKit.intOf]; omega
        · have he2 : (er == 0) = false := beq_eq_false_iff_ne.2 he
          have HT2 := Lib.hid (show allL s (l.take (j + 1)) = (t, n + 1) by rw [HTk.out, HAdd.out, if_neg he])
          have HZ := Lib.hid he
          clear he
          go_wp2_with fail
          go_roundw
          case rel => exact ⟨j + 1, by omega, by go_num, by rw [HT2.out]; go_num, by rw [HT2.out]; exact HBX.out.below c20.out, B2.out⟩
          case measure => simp [RowKit.intOf]; omega
      | true =>
        have hadd := add_yes HK.out
        have he : er = 0 := by rw [← HEr.out, hadd]
        have HT2 := Lib.hid (show allL s (l.take (j + 1)) = (insS o t, n) by rw [HTk.out, hadd, if_pos he]; rfl)
        have he2 : (er == 0) = true := by rw [he]; rfl
        have HZ := Lib.hid he
        clear he hadd
        have y0 := C2.out.cell 0 _ rfl
        have y1 := C2.out.cell 1 _ rfl
        obtain ⟨m0, m1, m2, m3, m4, m5, m6⟩ := A1.out
        have HW := Lib.hid (HWi.out HK.out w2 c20.out)
        go_wp2_with fail
        refine (HW.out).mono ?_
        rintro e w3 ⟨x, rfl, hx, c3⟩
        obtain ⟨p3, q3, rfl, hp3, hq3⟩ := hx
        obtain ⟨pa3, pc3, rfl, _⟩ := OwnR.isR en_len hp3
        obtain ⟨qa3, qc3, rfl, _⟩ := OwnR.isR nd_len hq3
        have C3 := C2.out.below c3
        have f0 := C3.free 0 (by simp)
        have f1 := C3.free 1 (by simp)
        have r0 := C3.cell 0 _ rfl
        have r1 := C3.cell 1 _ rfl
        have hlt := C3.lt
        have B3 := Lib.hid (B2.out.trans (c3.mono (by omega)))
        have s3 := c3.size
        obtain ⟨l1, hl1⟩ : ∃ x, (ents (insS o t)).length = x := ⟨_, rfl⟩
        obtain ⟨l2, hl2⟩ : ∃ x, (doAll [] (insS o t)).length = x := ⟨_, rfl⟩
        rw [hl1] at hp3 ⊢
        rw [hl2] at hq3 ⊢
        have HP3 := Lib.hid hp3
        have HQ3 := Lib.hid hq3
        have HC3 := Lib.hid C3
        clear c3 hp3 hq3 C3 hl1 hl2 y0 y1 m0 m1 m2 m3 m4 m5 m6 HW
        go_wp2_with fail
        go_roundw
        case rel =>
          have hsz : ((w3.setCell ⟨w1.heap.size, 0, none⟩ (.slice pa3 l1 pc3)).setCell ⟨w1.heap.size, 1, none⟩ (.slice qa3 l2 qc3)).heap.size = w3.heap.size := setCells_heap (w1.heap.size) [.slice pa3 l1 pc3, .slice qa3 l2 qc3] 0 w3
          have hot : ∀ g, g < w3.heap.size → g ≠ w1.heap.size → ((w3.setCell ⟨w1.heap.size, 0, none⟩ (.slice pa3 l1 pc3)).setCell ⟨w1.heap.size, 1, none⟩ (.slice qa3 l2 qc3)).heap[g]? = w3.heap[g]? := fun g hg hne => World.heap_setCells_other w3 (w1.heap.size) 0 [.slice pa3 l1 pc3, .slice qa3 l2 qc3] hg hne
          refine ⟨j + 1, by omega, by go_num, by rw [HT2.out], ?_, (B3.out.setCell (p := ⟨w1.heap.size, 0, none⟩) (Nat.le_refl _) _).setCell (p := ⟨w1.heap.size, 1, none⟩) (Nat.le_refl _) _⟩
          rw [HT2.out]
          refine ⟨_, _, (HC3.out.set 0 (by simp) (.slice pa3 l1 pc3)).set 1 (by simp) (.slice qa3 l2 qc3), ?_, ?_, ?_, ?_⟩
          · exact OwnR.mono (OwnR.keep HP3.out (Nat.le_of_eq hsz.symm) fun g hg => hot g (OwnC.lt HP3.out g hg).2 (by have := (OwnC.lt HP3.out g hg).1; omega)) (by omega)
          · exact OwnR.mono (OwnR.keep HQ3.out (Nat.le_of_eq hsz.symm) fun g hg => hot g (OwnC.lt HQ3.out g hg).2 (by have := (OwnC.lt HQ3.out g hg).1; omega)) (by omega)
          · intro g hg; have := (OwnC.lt HP3.out g hg).1; omega
          · intro g hg; have := (OwnC.lt HQ3.out g hg).1; omega
        case measure => simp [RowKit.intOf]; omega
    · obtain rfl : j = l.length := by omega
      have hj2 : ¬ (l.length : Int) < (l.length : Int) := by omega
      rw [List.take_length] at hbx hnum ⊢
      obtain ⟨⟨t, n⟩, hrr⟩ : ∃ r, allL s l = r := ⟨_, rfl⟩
      have HRr := Lib.hid hrr
      rw [hrr] at hbx hnum ⊢
      simp only [] at hbx hnum ⊢
      clear hrr
      obtain ⟨a1, c1, b1, d1, hC, hLg, hE, hN, fa, fb⟩ := hbx.cells
      have hR := D2.out.belowN (B := w1.heap.size) (by omega) ck
      obtain ⟨l1, hl1⟩ : ∃ x, t.length = x := ⟨_, rfl⟩
      obtain ⟨l2, hl2⟩ : ∃ x, (doAll [] t).length = x := ⟨_, rfl⟩
      have HL1 := Lib.hid hl1
      have HL2 := Lib.hid hl2
      rw [hl1] at hE hC
      rw [hl2] at hN hC
      have cg0 := hC.cell 0 _ rfl
      have cg1 := hC.cell 1 _ rfl
      have r0 := hR.cell 0 _ rfl
      have r1 := hR.cell 1 _ rfl
      have f0 := hR.free 0 (by simp)
      have f1 := hR.free 1 (by simp)
      have hlt := hR.lt
      have HE := Lib.hid hE
      have HN := Lib.hid hN
      have HR := Lib.hid hR
      clear hC hE hN hR hl1 hl2 fa fb hLg hbx
      go_wp2_with fail
      have hQ := (HR.out.set 0 (by simp) (.slice a1 l1 c1)).set 1 (by simp) (.slice b1 l2 d1)
      have y0 := hQ.cell 0 _ rfl
      have y1 := hQ.cell 1 _ rfl
      have hsz : ((wr.setCell ⟨w.heap.size + 1, 0, none⟩ (.slice a1 l1 c1)).setCell ⟨w.heap.size + 1, 1, none⟩ (.slice b1 l2 d1)).heap.size = wr.heap.size := setCells_heap (w.heap.size + 1) [.slice a1 l1 c1, .slice b1 l2 d1] 0 wr
      have hot : ∀ g, g < wr.heap.size → g ≠ w.heap.size + 1 → ((wr.setCell ⟨w.heap.size + 1, 0, none⟩ (.slice a1 l1 c1)).setCell ⟨w.heap.size + 1, 1, none⟩ (.slice b1 l2 d1)).heap[g]? = wr.heap[g]? := fun g hg hne => World.heap_setCells_other wr (w.heap.size + 1) 0 [.slice a1 l1 c1, .slice b1 l2 d1] hg hne
      refine bodyPost_ret (v := .tuple #[.agg #[.slice a1 l1 c1, .slice b1 l2 d1], .int .i64 n]) (by simp [results, Try.results11, go_sem, y0, y1]) rfl ?_
      refine ⟨.agg #[.slice a1 l1 c1, .slice b1 l2 d1], by rw [HRr.out], ?_, (BW.out.setCell (p := ⟨w.heap.size + 1, 0, none⟩) (Nat.le_add_right _ _) _).setCell (p := ⟨w.heap.size + 1, 1, none⟩) (Nat.le_add_right _ _) _⟩
      rw [HRr.out]
      refine ⟨_, _, rfl, ?_, ?_⟩
      · exact OwnR.mono (OwnR.keep HE.out (Nat.le_of_eq hsz.symm) fun g hg => hot g (OwnC.lt HE.out g hg).2 (by have := (OwnC.lt HE.out g hg).1; omega)) (by omega)
      · exact OwnR.mono (OwnR.keep HN.out (Nat.le_of_eq hsz.symm) fun g hg => hot g (OwnC.lt HN.out g hg).2 (by have := (OwnC.lt HN.out g hg).1; omega)) (by omega)
/-- A log is stored in a box that lies ahead of its rows. -/
theorem store_log {B g : Nat} {s : List Opn} {p q x0 x1 : Value} {W : World} (hR : Cells W g [x0, x1]) (hp : OwnEn B (ents s) p W) (hq : OwnNd B (doAll [] s) q W) (hg : g < B) :
    ((W.setCell ⟨g, 0, none⟩ p).setCell ⟨g, 1, none⟩ q).cell? ⟨g, 0, none⟩ = some p ∧ ((W.setCell ⟨g, 0, none⟩ p).setCell ⟨g, 1, none⟩ q).cell? ⟨g, 1, none⟩ = some q ∧
    OwnEn B (ents s) p ((W.setCell ⟨g, 0, none⟩ p).setCell ⟨g, 1, none⟩ q) ∧ OwnNd B (doAll [] s) q ((W.setCell ⟨g, 0, none⟩ p).setCell ⟨g, 1, none⟩ q) ∧ Cells ((W.setCell ⟨g, 0, none⟩ p).setCell ⟨g, 1, none⟩ q) g [p, q] := by
  have hQ := (hR.set 0 (by simp) p).set 1 (by simp) q
  have hsz : ((W.setCell ⟨g, 0, none⟩ p).setCell ⟨g, 1, none⟩ q).heap.size = W.heap.size := setCells_heap g [p, q] 0 W
  have hot : ∀ k, k < W.heap.size → k ≠ g → ((W.setCell ⟨g, 0, none⟩ p).setCell ⟨g, 1, none⟩ q).heap[k]? = W.heap[k]? := fun k hk hne => World.heap_setCells_other W g 0 [p, q] hk hne
  exact ⟨hQ.cell 0 _ rfl, hQ.cell 1 _ rfl, OwnR.keep hp (Nat.le_of_eq hsz.symm) fun k hk => hot k (OwnC.lt hp k hk).2 (by have := (OwnC.lt hp k hk).1; omega),
    OwnR.keep hq (Nat.le_of_eq hsz.symm) fun k hk => hot k (OwnC.lt hq k hk).2 (by have := (OwnC.lt hq k hk).1; omega), hQ⟩
theorem isLg_nil (w : World) : IsLg w none 0 none 0 [] := ⟨isR_nil _ _ _, isR_nil _ _ _⟩
set_option maxRecDepth 100000 in
set_option maxHeartbeats 8000000 in
theorem mof_any (la : Option Addr) (lc : Nat) (l : List Opn) (w : World) (hl : IsOp w la lc l) (hll : l.length ≤ 1000000) (hsm : ∀ x ∈ l, x.s.size ≤ 1000 ∧ x.d.size ≤ 1000) (hr : RgOs l) :
    Calls Try.prog 21 #[.slice la l.length lc] w (OwnPost (allL [] l).1 w) := by
  have G2 := Lib.hid (cells_new w [.slice none 0 0, .slice none 0 0] 32)
  have q0 := below_alloc w (.cells #[.slice none 0 0, .slice none 0 0] 32)
  have HAll := Lib.hid (mall_any none 0 none 0 [] la lc l (w.alloc (.cells #[.slice none 0 0, .slice none 0 0] 32)) (isLg_nil _) okS_nil (IsR.below hl q0) hll hsm hr)
  change Hid (Calls _ _ #[.agg #[.slice none 0 0, .slice none 0 0], _] _ _) at HAll
  have Q0 := Lib.hid q0
  obtain ⟨⟨t, n⟩, hrr⟩ : ∃ r, allL [] l = r := ⟨_, rfl⟩
  rw [hrr] at HAll ⊢
  clear q0 hl hsm hr hrr
  go_enter Try.func21, Try.ntmps21
  go_wp2_with fail
  refine (HAll.out).mono ?_
  rintro e w1 ⟨x, rfl, ⟨p, q, rfl, hp, hq⟩, c1⟩
  obtain ⟨pa, pc, rfl, _⟩ := OwnR.isR en_len hp
  obtain ⟨qa, qc, rfl, _⟩ := OwnR.isR nd_len hq
  obtain ⟨l1, hl1⟩ : ∃ x, (ents t).length = x := ⟨_, rfl⟩
  obtain ⟨l2, hl2⟩ : ∃ x, (doAll [] t).length = x := ⟨_, rfl⟩
  simp only [] at hp hq
  rw [hl1] at hp ⊢
  rw [hl2] at hq ⊢
  have qm := below_alloc w1 (.cells #[.slice pa l1 pc, .slice qa l2 qc] 32)
  have hR := (G2.out.below c1).below qm
  have r0 := hR.cell 0 _ rfl
  have r1 := hR.cell 1 _ rfl
  have f0 := hR.free 0 (by simp)
  have f1 := hR.free 1 (by simp)
  have hlt := hR.lt
  have BE := Lib.hid ((Q0.out.trans (c1.mono Q0.out.size)).trans (qm.mono (Nat.le_trans Q0.out.size c1.size)))
  have HP := Lib.hid (OwnR.below hp qm)
  have HQ := Lib.hid (OwnR.below hq qm)
  have HR := Lib.hid hR
  clear hp hq hR c1 qm hl1 hl2
  go_wp2_with fail
  obtain ⟨y0, y1, hp, hq, _⟩ := store_log HR.out HP.out HQ.out (by simp)
  exact bodyPost_ret (v := .agg #[.slice pa l1 pc, .slice qa l2 qc]) (by simp [results, Try.results21, go_sem, y0, y1]) rfl ⟨_, rfl, ⟨_, _, rfl, OwnR.mono hp (by simp), OwnR.mono hq (by simp)⟩, (BE.out.setCell (p := ⟨w.heap.size, 0, none⟩) (Nat.le_refl _) _).setCell (p := ⟨w.heap.size, 1, none⟩) (Nat.le_refl _) _⟩
end Go.Proofs.Ytnndanpahcdmaaa
