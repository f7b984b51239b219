/-
  The document's Do.
-/
import Derived.Test.YtnndanpahcdmaaaRWith
namespace Go.Proofs.Ytnndanpahcdmaaa
open Go.RowKit Go.Lib
/-- A struct stored whole. -/
theorem Cells.setAll {w : World} {g : Nat} {us vs : List Value} (h : Cells w g us) (hl : vs.length = us.length) : Cells (w.setCells g 0 vs) g vs := by
  have hb := below_setCells g (Nat.le_refl g) vs 0 w w (Below.refl _ _)
  refine ⟨Nat.lt_of_lt_of_le h.lt hb.size, fun j v hj => ?_, fun j hj => ?_⟩
  · have hjl := (List.getElem?_eq_some_iff.1 hj).1
    have := World.cell?_setCells_in g vs 0 w (fun i hi => by
      rw [Nat.zero_add, h.cell i us[i] (List.getElem?_eq_getElem (by omega))]; rfl) j hjl
    rw [Nat.zero_add] at this
    rw [this, ← hj, List.getElem?_eq_getElem hjl]
  · rw [World.frozen?_setCells]
    exact h.free j (by omega)
theorem Cells.keep {w w' : World} {g : Nat} {vs : List Value} (h : Cells w g vs) (hs : w.heap.size ≤ w'.heap.size) (hb : w'.heap[g]? = w.heap[g]?) : Cells w' g vs :=
  ⟨Nat.lt_of_lt_of_le h.lt hs, fun j v hj => by rw [World.cell?_of_block (w := w) (a := ⟨g, j, none⟩) hb]; exact h.cell j v hj, fun j hj => by rw [World.frozen?_of_block (w := w) (a := ⟨g, j, none⟩) hb]; exact h.free j hj⟩
theorem Cells.atC {w : World} {g : Nat} {vs : List Value} (h : Cells w g vs) : AtC vs w g 0 := fun i u hu => by rw [Nat.zero_add]; exact h.cell i u hu
/-- What was changed, as a slot holds it. -/
abbrev UV (u : Und) : Value := .agg #[.bool u.did, .bool u.had, .int .i64 u.was.id, .int .i64 u.was.p, .string u.was.s, .int .i64 u.was.mc, .int .i64 u.was.mr, .string u.was.d, .int .i64 u.was.wc, .int .i64 u.was.wr]
def cellsU (u : Und) : List Value := [.bool u.did, .bool u.had, .int .i64 u.was.id, .int .i64 u.was.p, .string u.was.s, .int .i64 u.was.mc, .int .i64 u.was.mr, .string u.was.d, .int .i64 u.was.wc, .int .i64 u.was.wr]
theorem cellU_cells {w : World} {g : Nat} {u : Und} (h : Cells w g (cellsU u)) :
    w.cell? ⟨g, 0, none⟩ = some (.bool u.did) ∧ w.cell? ⟨g, 1, none⟩ = some (.bool u.had) ∧ w.cell? ⟨g, 2, none⟩ = some (.int .i64 u.was.id) ∧ w.cell? ⟨g, 3, none⟩ = some (.int .i64 u.was.p) ∧ w.cell? ⟨g, 4, none⟩ = some (.string u.was.s) ∧ w.cell? ⟨g, 5, none⟩ = some (.int .i64 u.was.mc) ∧
    w.cell? ⟨g, 6, none⟩ = some (.int .i64 u.was.mr) ∧ w.cell? ⟨g, 7, none⟩ = some (.string u.was.d) ∧ w.cell? ⟨g, 8, none⟩ = some (.int .i64 u.was.wc) ∧ w.cell? ⟨g, 9, none⟩ = some (.int .i64 u.was.wr) :=
  ⟨h.cell 0 _ rfl, h.cell 1 _ rfl, h.cell 2 _ rfl, h.cell 3 _ rfl, h.cell 4 _ rfl, h.cell 5 _ rfl, h.cell 6 _ rfl, h.cell 7 _ rfl, h.cell 8 _ rfl, h.cell 9 _ rfl⟩
theorem cellU_frees {w : World} {g : Nat} {u : Und} (h : Cells w g (cellsU u)) :
    w.frozen? ⟨g, 0, none⟩ = false ∧ w.frozen? ⟨g, 1, none⟩ = false ∧ w.frozen? ⟨g, 2, none⟩ = false ∧ w.frozen? ⟨g, 3, none⟩ = false ∧ w.frozen? ⟨g, 4, none⟩ = false ∧ w.frozen? ⟨g, 5, none⟩ = false ∧
    w.frozen? ⟨g, 6, none⟩ = false ∧ w.frozen? ⟨g, 7, none⟩ = false ∧ w.frozen? ⟨g, 8, none⟩ = false ∧ w.frozen? ⟨g, 9, none⟩ = false :=
  ⟨h.free 0 (by simp [cellsU]), h.free 1 (by simp [cellsU]), h.free 2 (by simp [cellsU]), h.free 3 (by simp [cellsU]), h.free 4 (by simp [cellsU]), h.free 5 (by simp [cellsU]), h.free 6 (by simp [cellsU]), h.free 7 (by simp [cellsU]), h.free 8 (by simp [cellsU]), h.free 9 (by simp [cellsU])⟩
theorem ownR_off {α : Type} {f : α → List Value} {k B g o n c : Nat} {l : List α} {w : World} (h : OwnR f k B l (.slice (some ⟨g, o, none⟩) n c) w) : o = 0 := by
  obtain ⟨_, ⟨e, _⟩ | ⟨g', c', e, _⟩⟩ := h <;> cases e
  rfl
/-- .. the nodes are those that were given, or in memory that was made on the way. -/
def DoOwn (a0 : Option Addr) (r : List Nod × Und) (w : World) (e : Ending) (w' : World) : Prop := ∃ a c, e = .returned (.tuple #[.slice a r.1.length c, UV r.2]) ∧ IsNd w' a c r.1 ∧ Below w.heap.size w w' ∧ (a = a0 ∨ ∀ g o, a = some ⟨g, o, none⟩ → w.heap.size ≤ g ∧ g < w'.heap.size ∧ o = 0)
def DoPost (r : List Nod × Und) (w : World) (e : Ending) (w' : World) : Prop := ∃ a c, e = .returned (.tuple #[.slice a r.1.length c, UV r.2]) ∧ IsNd w' a c r.1 ∧ Below w.heap.size w w'
set_option maxRecDepth 100000 in
set_option maxHeartbeats 8000000 in
theorem rdo_own (a : Option Addr) (c : Nat) (l : List Nod) (o : Opn) (w : World) (h : IsNd w a c l) (hl : l.length ≤ 100000) (ho : o.s.size ≤ 1000000) :
    Calls Try.prog 52 #[.slice a l.length c, OV o] w (DoOwn a (doN l o) w) := by
  have hlm : l.length ≤ maxLen := by unfold maxLen; omega
  have q0 := (below_alloc w (.cells #[.int .i64 o.c, .int .i64 o.r, .int .i64 o.k, .int .i64 o.n, .int .i64 o.p, .string o.s, .string o.d] 26)).trans ((below_alloc (w.alloc (.cells #[.int .i64 o.c, .int .i64 o.r, .int .i64 o.k, .int .i64 o.n, .int .i64 o.p, .string o.s, .string o.d] 26)) (.cells (cellsU noUnd).toArray 47)).mono (by simp))
  have hO0 := Lib.hid ((hasO_new w o 26).below (below_alloc _ (.cells (cellsU noUnd).toArray 47)))
  have hU0 := cells_new (w.alloc (.cells #[.int .i64 o.c, .int .i64 o.r, .int .i64 o.k, .int .i64 o.n, .int .i64 o.p, .string o.s, .string o.d] 26)) (cellsU noUnd) 47
  have hs1 : (w.alloc (.cells #[.int .i64 o.c, .int .i64 o.r, .int .i64 o.k, .int .i64 o.n, .int .i64 o.p, .string o.s, .string o.d] 26)).heap.size = w.heap.size + 1 := by simp
  rw [hs1] at hU0
  have HU0 := Lib.hid hU0
  have h1 := Lib.hid (h.below q0)
  have H0 := Lib.hid h
  clear hU0 hs1 h
  go_enter Try.func52, Try.ntmps52
  go_wp2_with fail
  refine (rnchk_any a c l _ h1.out hlm).mono ?_
  rintro e w1 ⟨rfl, c1⟩
  have b1 := step_b q0 c1
  have h2 := Lib.hid (h1.out.below c1)
  have hO1 := Lib.hid (hO0.out.below c1)
  have hU1 := Lib.hid (HU0.out.below c1)
  clear h1 hO0 HU0 c1 q0
  obtain ⟨m0, m1, m2, m3, m4, m5, m6⟩ := hO1.out
  go_wp2_with fail
  refine (rchk_any o _ ho).mono ?_
  rintro e w2 ⟨rfl, c2⟩
  have b2 := step_b b1 c2
  have h3 := Lib.hid (h2.out.below c2)
  have hO2 := Lib.hid (hO1.out.below c2)
  have hU2 := Lib.hid (hU1.out.below c2)
  clear h2 hO1 hU1 c2 b1 m0 m1 m2 m3 m4 m5 m6
  by_cases hgo : chkN l = true ∧ mayO o = true
  · obtain ⟨hc, hm⟩ := hgo
    rw [hc, hm]
    have HC := Lib.hid hc
    have HM := Lib.hid hm
    clear hc hm
    obtain ⟨m0, m1, m2, m3, m4, m5, m6⟩ := hO2.out
    go_wp2_with fail
    cases hg : getN l o.n with
    | some x =>
      have HOld := Lib.hid (show oldN l o.n = x by unfold oldN; rw [hg]; rfl)
      have HUnd := Lib.hid (show undN l o.n = ⟨true, true, x⟩ by unfold undN; rw [hg]; rfl)
      have HG := Lib.hid hg
      clear hg
      refine (rfind_some (x := x) _ h3.out hlm (by unfold findN; rw [HC.out, if_pos rfl]; exact HG.out)).mono ?_
      rintro e w3 ⟨rfl, c3⟩
      have b3 := step_b b2 c3
      have hO3 := Lib.hid (hO2.out.below c3)
      have hU3 := Lib.hid (hU2.out.below c3)
      have lt3 := hU3.out.lt
      have lt3b := hO3.out.lt
      have ne1 : ¬ (w.heap.size = w3.heap.size) := by omega
      have ne2 : ¬ (w3.heap.size = w.heap.size) := by omega
      have ne3 : ¬ (w.heap.size = w3.heap.size + 1) := by omega
      have ne4 : ¬ (w3.heap.size + 1 = w.heap.size) := by omega
      clear m0 m1 m2 m3 m4 m5 m6 c3 hO2 hU2 h3 b2
      obtain ⟨m0, m1, m2, m3, m4, m5, m6⟩ := hO3.out
      by_cases hk : o.k = 2
      · have hk2 : (o.k == 2) = true := by rw [beq_iff_eq]; exact hk
        have HD := Lib.hid (show doN l o = (withN l (wroteN l o), ⟨true, true, x⟩) by unfold doN; rw [HC.out, HM.out]; simp only [Bool.and_self, if_true]; rw [if_pos hk, HUnd.out])
        have HNew := Lib.hid (show wroteN l o = ⟨x.id, x.p, x.s, x.mc, x.mr, o.d, o.c, o.r⟩ by unfold wroteN; rw [HOld.out])
        clear hk
        have hs3 := b3.size
        have CN0 := Lib.hid ((show CellN _ _ ⟨x.id, x.p, x.s, x.mc, x.mr, o.d, o.c, o.r⟩ from cells_new w3 (cellsNd ⟨x.id, x.p, x.s, x.mc, x.mr, o.d, o.c, o.r⟩) 45).below (below_alloc _ (.cells (cellsU ⟨true, true, x⟩).toArray 47)))
        have hsz : (w3.alloc (.cells (cellsNd ⟨x.id, x.p, x.s, x.mc, x.mr, o.d, o.c, o.r⟩).toArray 45)).heap.size = w3.heap.size + 1 := by simp
        have CU00 := cells_new (w3.alloc (.cells (cellsNd ⟨x.id, x.p, x.s, x.mc, x.mr, o.d, o.c, o.r⟩).toArray 45)) (cellsU ⟨true, true, x⟩) 47
        rw [hsz] at CU00
        have CU0 := Lib.hid CU00
        have CV0 := Lib.hid ((hU3.out.below (below_alloc w3 (.cells (cellsNd ⟨x.id, x.p, x.s, x.mc, x.mr, o.d, o.c, o.r⟩).toArray 45))).below (below_alloc _ (.cells (cellsU ⟨true, true, x⟩).toArray 47)))
        have hO4 := Lib.hid ((hO3.out.below (below_alloc w3 (.cells (cellsNd ⟨x.id, x.p, x.s, x.mc, x.mr, o.d, o.c, o.r⟩).toArray 45))).below (below_alloc _ (.cells (cellsU ⟨true, true, x⟩).toArray 47)))
        have bA := (b3.alloc hs3 (.cells (cellsNd ⟨x.id, x.p, x.s, x.mc, x.mr, o.d, o.c, o.r⟩).toArray 45)).alloc (by simp; omega) (.cells (cellsU ⟨true, true, x⟩).toArray 47)
        have hlt5 : w.heap.size + 2 ≤ ((w3.alloc (.cells (cellsNd ⟨x.id, x.p, x.s, x.mc, x.mr, o.d, o.c, o.r⟩).toArray 45)).alloc (.cells (cellsU ⟨true, true, x⟩).toArray 47)).heap.size := by simp; omega
        clear CU00 hsz
        have CN := Lib.hid CN0.out
        have CU := Lib.hid CU0.out
        have CV := Lib.hid CV0.out
        have bX := bA
        clear hO4
        go_wp2_with fail
        have HD2 := Lib.hid (HD.out.trans (by rw [HNew.out]))
        clear HD HNew
        refine wp_region_t 5 (by kernel_rfl) (by kernel_rfl) ?_
        simp only [List.take_succ_cons, List.take_zero, List.drop_succ_cons, List.drop_zero]
        refine wpL_pure (fun K hK => ?_); go_simp; refine hK _ ?_; clear hK K
        refine wpL_use (NV ⟨x.id, x.p, x.s, x.mc, x.mr, o.d, o.c, o.r⟩) (fun xs n _ => ?_) (fun K hK => ?_)
        · obtain ⟨k0, k1, k2, k3, k4, k5, k6, k7⟩ := cellN_cells (CN.out.below n.below)
          go_simp
        go_simp; (try go_ints); refine hK _ ?_; clear hK K
        refine wpL_make (OwnNd (w.heap.size + 2) (withN l ⟨x.id, x.p, x.s, x.mc, x.mr, o.d, o.c, o.r⟩)) (fun v w w' h hk => h.stay v w w' hk) (fun xs n _ => ?_) (fun K hK => ?_)
        · have hb := bX.trans (n.below.mono bX.size)
          have hnw := n.below.size
          unfold relOp; go_simp; simp only [relUpon]
          exact (rwith_any a c l ⟨x.id, x.p, x.s, x.mc, x.mr, o.d, o.c, o.r⟩ n.w (H0.out.below hb) hl).mono fun e w' ⟨v, he, hv, hb2⟩ => ⟨v, he, OwnR.mono hv (Nat.le_trans hlt5 hnw), hb2, fun g hg => OwnC.lt hv g hg⟩
        go_simp; (try go_ints); refine hK _ ?_; clear hK K
        refine wpL_use (UV ⟨true, true, x⟩) (fun xs n _ => ?_) (fun K hK => ?_)
        · obtain ⟨k0, k1, k2, k3, k4, k5, k6, k7, k8, k9⟩ := cellU_cells (CU.out.below n.below)
          go_simp
        go_simp; (try go_ints); refine hK _ ?_; clear hK K
        refine wpL_take 0 (OwnNd (w.heap.size + 2) (withN l ⟨x.id, x.p, x.s, x.mc, x.mr, o.d, o.c, o.r⟩)) (fun v w w' h hk => h.stay v w w' hk) rfl (by kernel_rfl) (by kernel_rfl) (fun xs m hf => ?_) (fun K hK => ?_)
        · have h0 := factL hf 0 rfl (by kernel_rfl)
          unfold relOp; go_simp; simp only [relUpon]
          exact own_moved h0
        go_simp; (try go_ints); refine hK _ ?_; clear hK K
        refine wpL_nil (fun xs n hf => ?_)
        have hfin := Lib.hid (hf _ (List.mem_cons_self))
        have b6 := bX.trans (n.below.mono bX.size)
        have CV6 := Lib.hid (CV.out.below n.below)
        generalize n.w = w6 at hfin b6 CV6 ⊢
        obtain ⟨v0, v1, v2, v3, v4, v5, v6, v7, v8, v9⟩ := cellU_cells CV6.out
        obtain ⟨f0, f1, f2, f3, f4, f5, f6, f7, f8, f9⟩ := cellU_frees CV6.out
        go_wp2_with fail
        change bodyPost _ _ _ _ _ (w6.setCells (w.heap.size + 1) 0 (cellsU ⟨true, true, x⟩))
        have hUE := CV6.out.setAll (vs := cellsU ⟨true, true, x⟩) rfl
        obtain ⟨y0, y1, y2, y3, y4, y5, y6, y7, y8, y9⟩ := cellU_cells hUE
        have bE := below_setCells (B := w.heap.size) (w.heap.size + 1) (by omega) (cellsU ⟨true, true, x⟩) 0 w6 w b6
        have bS := below_setCells (B := 0) (w.heap.size + 1) (Nat.zero_le _) (cellsU ⟨true, true, x⟩) 0 w6 w6 (Below.refl _ _)
        have hfE : OwnNd (w.heap.size + 2) (withN l ⟨x.id, x.p, x.s, x.mc, x.mr, o.d, o.c, o.r⟩) (xs 4) (w6.setCells (w.heap.size + 1) 0 (cellsU ⟨true, true, x⟩)) := OwnC.own hfin.out bS.size fun g hg => World.heap_setCells_other w6 _ _ _ (OwnC.lt hfin.out g hg).2 (by have := (OwnC.lt hfin.out g hg).1; omega)
        obtain ⟨a4, c4, e4, hi4⟩ := hfE.isR nd_len
        refine bodyPost_ret (v := .tuple #[.slice a4 (withN l ⟨x.id, x.p, x.s, x.mc, x.mr, o.d, o.c, o.r⟩).length c4, UV ⟨true, true, x⟩]) (by simp [results, Try.results52, go_sem, y0, y1, y2, y3, y4, y5, y6, y7, y8, y9, e4]) rfl ⟨a4, c4, ?_, ?_, bE, .inr fun g o ha => ⟨by have := (OwnC.lt hfE g (by rw [e4, ha]; rfl)).1; omega, (OwnC.lt hfE g (by rw [e4, ha]; rfl)).2, by have q := hfE; rw [e4, ha] at q; exact ownR_off q⟩⟩
        · rw [HD2.out]
        · rw [HD2.out]; exact hi4
      · have hk2 : (o.k == 2) = false := by rw [beq_eq_false_iff_ne]; exact hk
        have HK := Lib.hid hk
        clear hk
        have hs3 := b3.size
        have CN0 := Lib.hid ((show CellN _ _ x from cells_new w3 (cellsNd x) 45).below (below_alloc _ (.cells (cellsU ⟨true, true, x⟩).toArray 47)))
        have hsz : (w3.alloc (.cells (cellsNd x).toArray 45)).heap.size = w3.heap.size + 1 := by simp
        have CU00 := cells_new (w3.alloc (.cells (cellsNd x).toArray 45)) (cellsU ⟨true, true, x⟩) 47
        rw [hsz] at CU00
        have CU0 := Lib.hid CU00
        have CV0 := Lib.hid ((hU3.out.below (below_alloc w3 (.cells (cellsNd x).toArray 45))).below (below_alloc _ (.cells (cellsU ⟨true, true, x⟩).toArray 47)))
        have hO4 := Lib.hid ((hO3.out.below (below_alloc w3 (.cells (cellsNd x).toArray 45))).below (below_alloc _ (.cells (cellsU ⟨true, true, x⟩).toArray 47)))
        have bA := (b3.alloc hs3 (.cells (cellsNd x).toArray 45)).alloc (by simp; omega) (.cells (cellsU ⟨true, true, x⟩).toArray 47)
        have hlt5 : w.heap.size + 2 ≤ ((w3.alloc (.cells (cellsNd x).toArray 45)).alloc (.cells (cellsU ⟨true, true, x⟩).toArray 47)).heap.size := by simp; omega
        clear CU00 hsz
        go_wp2_with fail
        refine (rloops_any a c l o _ (H0.out.below bA) (by omega)).mono ?_
        rintro e w4 ⟨rfl, c4⟩
        have b4 := bA.trans (c4.mono bA.size)
        have CN4 := Lib.hid (CN0.out.below c4)
        have CU4 := Lib.hid (CU0.out.below c4)
        have CV4 := Lib.hid (CV0.out.below c4)
        have hO5 := Lib.hid (hO4.out.below c4)
        have hlt6 := Nat.le_trans hlt5 c4.size
        have ltN := CN4.out.lt
        clear CN0 CU0 CV0 hO4 bA c4 m0 m1 m2 m3 m4 m5 m6 hO3 hU3 hlt5
        cases hlo : loopsN l o with
        | true =>
          have HD := Lib.hid (show doN l o = (l, noUnd) by unfold doN; rw [HC.out, HM.out]; simp only [Bool.and_self, if_true]; rw [if_neg HK.out, hlo]; rfl)
          obtain ⟨z0, z1, z2, z3, z4, z5, z6, z7, z8, z9⟩ := cellU_cells CV4.out
          obtain ⟨f0, f1, f2, f3, f4, f5, f6, f7, f8, f9⟩ := cellU_frees CV4.out
          go_wp2_with fail
          change bodyPost _ _ _ _ _ (w4.setCells (w.heap.size + 1) 0 (cellsU noUnd))
          have hUE := CV4.out.setAll (vs := cellsU noUnd) rfl
          obtain ⟨y0, y1, y2, y3, y4, y5, y6, y7, y8, y9⟩ := cellU_cells hUE
          have bE := below_setCells (B := w.heap.size) (w.heap.size + 1) (by omega) (cellsU noUnd) 0 w4 w b4
          refine bodyPost_ret (v := .tuple #[.slice a l.length c, UV noUnd]) (by simp [results, Try.results52, go_sem, y0, y1, y2, y3, y4, y5, y6, y7, y8, y9]) rfl ⟨a, c, ?_, ?_, bE, .inl rfl⟩
          · rw [HD.out]
          · rw [HD.out]; exact H0.out.below bE
        | false =>
          have HD := Lib.hid (show doN l o = (withN l (movedN l o), ⟨true, true, x⟩) by unfold doN; rw [HC.out, HM.out]; simp only [Bool.and_self, if_true]; rw [if_neg HK.out, hlo, HUnd.out]; rfl)
          have HNew := Lib.hid (show movedN l o = ⟨x.id, o.p, o.s, o.c, o.r, x.d, x.wc, x.wr⟩ by unfold movedN; rw [HOld.out])
          have CN := Lib.hid (show Cells _ w3.heap.size (cellsNd ⟨x.id, o.p, o.s, o.c, o.r, x.d, x.wc, x.wr⟩) from (((CN4.out.set 1 (by simp [cellsNd]) (.int .i64 o.p)).set 2 (by simp [cellsNd]) (.string o.s)).set 3 (by simp [cellsNd]) (.int .i64 o.c)).set 4 (by simp [cellsNd]) (.int .i64 o.r))
          have CU := Lib.hid (Cells.other (Cells.other (Cells.other (Cells.other CU4.out (g' := w3.heap.size) (by omega) 1 (.int .i64 o.p)) (g' := w3.heap.size) (by omega) 2 (.string o.s)) (g' := w3.heap.size) (by omega) 3 (.int .i64 o.c)) (g' := w3.heap.size) (by omega) 4 (.int .i64 o.r))
          have CV := Lib.hid (Cells.other (Cells.other (Cells.other (Cells.other CV4.out (g' := w3.heap.size) (by omega) 1 (.int .i64 o.p)) (g' := w3.heap.size) (by omega) 2 (.string o.s)) (g' := w3.heap.size) (by omega) 3 (.int .i64 o.c)) (g' := w3.heap.size) (by omega) 4 (.int .i64 o.r))
          have bX := (((b4.setCell (p := ⟨w3.heap.size, 1, none⟩) hs3 (.int .i64 o.p)).setCell (p := ⟨w3.heap.size, 2, none⟩) hs3 (.string o.s)).setCell (p := ⟨w3.heap.size, 3, none⟩) hs3 (.int .i64 o.c)).setCell (p := ⟨w3.heap.size, 4, none⟩) hs3 (.int .i64 o.r)
          have hlt5 : w.heap.size + 2 ≤ ((((w4.setCell ⟨w3.heap.size, 1, none⟩ (.int .i64 o.p)).setCell ⟨w3.heap.size, 2, none⟩ (.string o.s)).setCell ⟨w3.heap.size, 3, none⟩ (.int .i64 o.c)).setCell ⟨w3.heap.size, 4, none⟩ (.int .i64 o.r)).heap.size := by simpa using hlt6
          obtain ⟨m0, m1, m2, m3, m4, m5, m6⟩ := hO5.out
          obtain ⟨z0, z1, z2, z3, z4, z5, z6, z7⟩ := cellN_cells CN4.out
          obtain ⟨f0, f1, f2, f3, f4, f5, f6, f7⟩ := cellN_frees CN4.out
          clear CN4 CU4 CV4 hO5
          go_wp2_with fail
          have HD2 := Lib.hid (HD.out.trans (by rw [HNew.out]))
          clear HD HNew
          refine wp_region_t 5 (by kernel_rfl) (by kernel_rfl) ?_
          simp only [List.take_succ_cons, List.take_zero, List.drop_succ_cons, List.drop_zero]
          refine wpL_pure (fun K hK => ?_); go_simp; refine hK _ ?_; clear hK K
          refine wpL_use (NV ⟨x.id, o.p, o.s, o.c, o.r, x.d, x.wc, x.wr⟩) (fun xs n _ => ?_) (fun K hK => ?_)
          · obtain ⟨k0, k1, k2, k3, k4, k5, k6, k7⟩ := cellN_cells (CN.out.below n.below)
            go_simp
          go_simp; (try go_ints); refine hK _ ?_; clear hK K
          refine wpL_make (OwnNd (w.heap.size + 2) (withN l ⟨x.id, o.p, o.s, o.c, o.r, x.d, x.wc, x.wr⟩)) (fun v w w' h hk => h.stay v w w' hk) (fun xs n _ => ?_) (fun K hK => ?_)
          · have hb := bX.trans (n.below.mono bX.size)
            have hnw := n.below.size
            unfold relOp; go_simp; simp only [relUpon]
            exact (rwith_any a c l ⟨x.id, o.p, o.s, o.c, o.r, x.d, x.wc, x.wr⟩ n.w (H0.out.below hb) hl).mono fun e w' ⟨v, he, hv, hb2⟩ => ⟨v, he, OwnR.mono hv (Nat.le_trans hlt5 hnw), hb2, fun g hg => OwnC.lt hv g hg⟩
          go_simp; (try go_ints); refine hK _ ?_; clear hK K
          refine wpL_use (UV ⟨true, true, x⟩) (fun xs n _ => ?_) (fun K hK => ?_)
          · obtain ⟨k0, k1, k2, k3, k4, k5, k6, k7, k8, k9⟩ := cellU_cells (CU.out.below n.below)
            go_simp
          go_simp; (try go_ints); refine hK _ ?_; clear hK K
          refine wpL_take 0 (OwnNd (w.heap.size + 2) (withN l ⟨x.id, o.p, o.s, o.c, o.r, x.d, x.wc, x.wr⟩)) (fun v w w' h hk => h.stay v w w' hk) rfl (by kernel_rfl) (by kernel_rfl) (fun xs m hf => ?_) (fun K hK => ?_)
          · have h0 := factL hf 0 rfl (by kernel_rfl)
            unfold relOp; go_simp; simp only [relUpon]
            exact own_moved h0
          go_simp; (try go_ints); refine hK _ ?_; clear hK K
          refine wpL_nil (fun xs n hf => ?_)
          have hfin := Lib.hid (hf _ (List.mem_cons_self))
          have b6 := bX.trans (n.below.mono bX.size)
          have CV6 := Lib.hid (CV.out.below n.below)
          generalize n.w = w6 at hfin b6 CV6 ⊢
          obtain ⟨v0, v1, v2, v3, v4, v5, v6, v7, v8, v9⟩ := cellU_cells CV6.out
          obtain ⟨f0, f1, f2, f3, f4, f5, f6, f7, f8, f9⟩ := cellU_frees CV6.out
          go_wp2_with fail
          change bodyPost _ _ _ _ _ (w6.setCells (w.heap.size + 1) 0 (cellsU ⟨true, true, x⟩))
          have hUE := CV6.out.setAll (vs := cellsU ⟨true, true, x⟩) rfl
          obtain ⟨y0, y1, y2, y3, y4, y5, y6, y7, y8, y9⟩ := cellU_cells hUE
          have bE := below_setCells (B := w.heap.size) (w.heap.size + 1) (by omega) (cellsU ⟨true, true, x⟩) 0 w6 w b6
          have bS := below_setCells (B := 0) (w.heap.size + 1) (Nat.zero_le _) (cellsU ⟨true, true, x⟩) 0 w6 w6 (Below.refl _ _)
          have hfE : OwnNd (w.heap.size + 2) (withN l ⟨x.id, o.p, o.s, o.c, o.r, x.d, x.wc, x.wr⟩) (xs 4) (w6.setCells (w.heap.size + 1) 0 (cellsU ⟨true, true, x⟩)) := OwnC.own hfin.out bS.size fun g hg => World.heap_setCells_other w6 _ _ _ (OwnC.lt hfin.out g hg).2 (by have := (OwnC.lt hfin.out g hg).1; omega)
          obtain ⟨a4, c4, e4, hi4⟩ := hfE.isR nd_len
          refine bodyPost_ret (v := .tuple #[.slice a4 (withN l ⟨x.id, o.p, o.s, o.c, o.r, x.d, x.wc, x.wr⟩).length c4, UV ⟨true, true, x⟩]) (by simp [results, Try.results52, go_sem, y0, y1, y2, y3, y4, y5, y6, y7, y8, y9, e4]) rfl ⟨a4, c4, ?_, ?_, bE, .inr fun g o ha => ⟨by have := (OwnC.lt hfE g (by rw [e4, ha]; rfl)).1; omega, (OwnC.lt hfE g (by rw [e4, ha]; rfl)).2, by have q := hfE; rw [e4, ha] at q; exact ownR_off q⟩⟩
          · rw [HD2.out]
          · rw [HD2.out]; exact hi4
    | none =>
      have HOld := Lib.hid (show oldN l o.n = ⟨o.n, -1, emptyB, 0, 0, emptyB, 0, 0⟩ by unfold oldN; rw [hg]; rfl)
      have HUnd := Lib.hid (show undN l o.n = ⟨true, false, noNod⟩ by unfold undN; rw [hg]; rfl)
      have HG := Lib.hid hg
      clear hg
      refine (rfind_none _ h3.out hlm (by unfold findN; rw [HC.out, if_pos rfl]; exact HG.out)).mono ?_
      rintro e w3 ⟨rfl, c3⟩
      have b3 := step_b b2 c3
      have hO3 := Lib.hid (hO2.out.below c3)
      have hU3 := Lib.hid (hU2.out.below c3)
      have lt3 := hU3.out.lt
      have lt3b := hO3.out.lt
      have ne1 : ¬ (w.heap.size = w3.heap.size) := by omega
      have ne2 : ¬ (w3.heap.size = w.heap.size) := by omega
      have ne3 : ¬ (w.heap.size = w3.heap.size + 1) := by omega
      have ne4 : ¬ (w3.heap.size + 1 = w.heap.size) := by omega
      clear m0 m1 m2 m3 m4 m5 m6 c3 hO2 hU2 h3 b2
      obtain ⟨m0, m1, m2, m3, m4, m5, m6⟩ := hO3.out
      by_cases hk : o.k = 2
      · have hk2 : (o.k == 2) = true := by rw [beq_iff_eq]; exact hk
        have HD := Lib.hid (show doN l o = (withN l (wroteN l o), ⟨true, false, noNod⟩) by unfold doN; rw [HC.out, HM.out]; simp only [Bool.and_self, if_true]; rw [if_pos hk, HUnd.out])
        have HNew := Lib.hid (show wroteN l o = ⟨o.n, -1, emptyB, 0, 0, o.d, o.c, o.r⟩ by unfold wroteN; rw [HOld.out])
        clear hk
        have hs3 := b3.size
        have CN0 := Lib.hid ((show CellN _ _ ⟨o.n, -1, emptyB, 0, 0, o.d, o.c, o.r⟩ from cells_new w3 (cellsNd ⟨o.n, -1, emptyB, 0, 0, o.d, o.c, o.r⟩) 45).below (below_alloc _ (.cells (cellsU ⟨true, false, noNod⟩).toArray 47)))
        have hsz : (w3.alloc (.cells (cellsNd ⟨o.n, -1, emptyB, 0, 0, o.d, o.c, o.r⟩).toArray 45)).heap.size = w3.heap.size + 1 := by simp
        have CU00 := cells_new (w3.alloc (.cells (cellsNd ⟨o.n, -1, emptyB, 0, 0, o.d, o.c, o.r⟩).toArray 45)) (cellsU ⟨true, false, noNod⟩) 47
        rw [hsz] at CU00
        have CU0 := Lib.hid CU00
        have CV0 := Lib.hid ((hU3.out.below (below_alloc w3 (.cells (cellsNd ⟨o.n, -1, emptyB, 0, 0, o.d, o.c, o.r⟩).toArray 45))).below (below_alloc _ (.cells (cellsU ⟨true, false, noNod⟩).toArray 47)))
        have hO4 := Lib.hid ((hO3.out.below (below_alloc w3 (.cells (cellsNd ⟨o.n, -1, emptyB, 0, 0, o.d, o.c, o.r⟩).toArray 45))).below (below_alloc _ (.cells (cellsU ⟨true, false, noNod⟩).toArray 47)))
        have bA := (b3.alloc hs3 (.cells (cellsNd ⟨o.n, -1, emptyB, 0, 0, o.d, o.c, o.r⟩).toArray 45)).alloc (by simp; omega) (.cells (cellsU ⟨true, false, noNod⟩).toArray 47)
        have hlt5 : w.heap.size + 2 ≤ ((w3.alloc (.cells (cellsNd ⟨o.n, -1, emptyB, 0, 0, o.d, o.c, o.r⟩).toArray 45)).alloc (.cells (cellsU ⟨true, false, noNod⟩).toArray 47)).heap.size := by simp; omega
        clear CU00 hsz
        have CN := Lib.hid CN0.out
        have CU := Lib.hid CU0.out
        have CV := Lib.hid CV0.out
        have bX := bA
        clear hO4
        go_wp2_with fail
        have HD2 := Lib.hid (HD.out.trans (by rw [HNew.out]))
        clear HD HNew
        refine wp_region_t 5 (by kernel_rfl) (by kernel_rfl) ?_
        simp only [List.take_succ_cons, List.take_zero, List.drop_succ_cons, List.drop_zero]
        refine wpL_pure (fun K hK => ?_); go_simp; refine hK _ ?_; clear hK K
        refine wpL_use (NV ⟨o.n, -1, emptyB, 0, 0, o.d, o.c, o.r⟩) (fun xs n _ => ?_) (fun K hK => ?_)
        · obtain ⟨k0, k1, k2, k3, k4, k5, k6, k7⟩ := cellN_cells (CN.out.below n.below)
          go_simp
        go_simp; (try go_ints); refine hK _ ?_; clear hK K
        refine wpL_make (OwnNd (w.heap.size + 2) (withN l ⟨o.n, -1, emptyB, 0, 0, o.d, o.c, o.r⟩)) (fun v w w' h hk => h.stay v w w' hk) (fun xs n _ => ?_) (fun K hK => ?_)
        · have hb := bX.trans (n.below.mono bX.size)
          have hnw := n.below.size
          unfold relOp; go_simp; simp only [relUpon]
          exact (rwith_any a c l ⟨o.n, -1, emptyB, 0, 0, o.d, o.c, o.r⟩ n.w (H0.out.below hb) hl).mono fun e w' ⟨v, he, hv, hb2⟩ => ⟨v, he, OwnR.mono hv (Nat.le_trans hlt5 hnw), hb2, fun g hg => OwnC.lt hv g hg⟩
        go_simp; (try go_ints); refine hK _ ?_; clear hK K
        refine wpL_use (UV ⟨true, false, noNod⟩) (fun xs n _ => ?_) (fun K hK => ?_)
        · obtain ⟨k0, k1, k2, k3, k4, k5, k6, k7, k8, k9⟩ := cellU_cells (CU.out.below n.below)
          go_simp
        go_simp; (try go_ints); refine hK _ ?_; clear hK K
        refine wpL_take 0 (OwnNd (w.heap.size + 2) (withN l ⟨o.n, -1, emptyB, 0, 0, o.d, o.c, o.r⟩)) (fun v w w' h hk => h.stay v w w' hk) rfl (by kernel_rfl) (by kernel_rfl) (fun xs m hf => ?_) (fun K hK => ?_)
        · have h0 := factL hf 0 rfl (by kernel_rfl)
          unfold relOp; go_simp; simp only [relUpon]
          exact own_moved h0
        go_simp; (try go_ints); refine hK _ ?_; clear hK K
        refine wpL_nil (fun xs n hf => ?_)
        have hfin := Lib.hid (hf _ (List.mem_cons_self))
        have b6 := bX.trans (n.below.mono bX.size)
        have CV6 := Lib.hid (CV.out.below n.below)
        generalize n.w = w6 at hfin b6 CV6 ⊢
        obtain ⟨v0, v1, v2, v3, v4, v5, v6, v7, v8, v9⟩ := cellU_cells CV6.out
        obtain ⟨f0, f1, f2, f3, f4, f5, f6, f7, f8, f9⟩ := cellU_frees CV6.out
        go_wp2_with fail
        change bodyPost _ _ _ _ _ (w6.setCells (w.heap.size + 1) 0 (cellsU ⟨true, false, noNod⟩))
        have hUE := CV6.out.setAll (vs := cellsU ⟨true, false, noNod⟩) rfl
        obtain ⟨y0, y1, y2, y3, y4, y5, y6, y7, y8, y9⟩ := cellU_cells hUE
        have bE := below_setCells (B := w.heap.size) (w.heap.size + 1) (by omega) (cellsU ⟨true, false, noNod⟩) 0 w6 w b6
        have bS := below_setCells (B := 0) (w.heap.size + 1) (Nat.zero_le _) (cellsU ⟨true, false, noNod⟩) 0 w6 w6 (Below.refl _ _)
        have hfE : OwnNd (w.heap.size + 2) (withN l ⟨o.n, -1, emptyB, 0, 0, o.d, o.c, o.r⟩) (xs 4) (w6.setCells (w.heap.size + 1) 0 (cellsU ⟨true, false, noNod⟩)) := OwnC.own hfin.out bS.size fun g hg => World.heap_setCells_other w6 _ _ _ (OwnC.lt hfin.out g hg).2 (by have := (OwnC.lt hfin.out g hg).1; omega)
        obtain ⟨a4, c4, e4, hi4⟩ := hfE.isR nd_len
        refine bodyPost_ret (v := .tuple #[.slice a4 (withN l ⟨o.n, -1, emptyB, 0, 0, o.d, o.c, o.r⟩).length c4, UV ⟨true, false, noNod⟩]) (by simp [results, Try.results52, go_sem, y0, y1, y2, y3, y4, y5, y6, y7, y8, y9, e4]) rfl ⟨a4, c4, ?_, ?_, bE, .inr fun g o ha => ⟨by have := (OwnC.lt hfE g (by rw [e4, ha]; rfl)).1; omega, (OwnC.lt hfE g (by rw [e4, ha]; rfl)).2, by have q := hfE; rw [e4, ha] at q; exact ownR_off q⟩⟩
        · rw [HD2.out]
        · rw [HD2.out]; exact hi4
      · have hk2 : (o.k == 2) = false := by rw [beq_eq_false_iff_ne]; exact hk
        have HK := Lib.hid hk
        clear hk
        have hs3 := b3.size
        have CN0 := Lib.hid ((show CellN _ _ ⟨o.n, -1, emptyB, 0, 0, emptyB, 0, 0⟩ from cells_new w3 (cellsNd ⟨o.n, -1, emptyB, 0, 0, emptyB, 0, 0⟩) 45).below (below_alloc _ (.cells (cellsU ⟨true, false, noNod⟩).toArray 47)))
        have hsz : (w3.alloc (.cells (cellsNd ⟨o.n, -1, emptyB, 0, 0, emptyB, 0, 0⟩).toArray 45)).heap.size = w3.heap.size + 1 := by simp
        have CU00 := cells_new (w3.alloc (.cells (cellsNd ⟨o.n, -1, emptyB, 0, 0, emptyB, 0, 0⟩).toArray 45)) (cellsU ⟨true, false, noNod⟩) 47
        rw [hsz] at CU00
        have CU0 := Lib.hid CU00
        have CV0 := Lib.hid ((hU3.out.below (below_alloc w3 (.cells (cellsNd ⟨o.n, -1, emptyB, 0, 0, emptyB, 0, 0⟩).toArray 45))).below (below_alloc _ (.cells (cellsU ⟨true, false, noNod⟩).toArray 47)))
        have hO4 := Lib.hid ((hO3.out.below (below_alloc w3 (.cells (cellsNd ⟨o.n, -1, emptyB, 0, 0, emptyB, 0, 0⟩).toArray 45))).below (below_alloc _ (.cells (cellsU ⟨true, false, noNod⟩).toArray 47)))
        have bA := (b3.alloc hs3 (.cells (cellsNd ⟨o.n, -1, emptyB, 0, 0, emptyB, 0, 0⟩).toArray 45)).alloc (by simp; omega) (.cells (cellsU ⟨true, false, noNod⟩).toArray 47)
        have hlt5 : w.heap.size + 2 ≤ ((w3.alloc (.cells (cellsNd ⟨o.n, -1, emptyB, 0, 0, emptyB, 0, 0⟩).toArray 45)).alloc (.cells (cellsU ⟨true, false, noNod⟩).toArray 47)).heap.size := by simp; omega
        clear CU00 hsz
        go_wp2_with fail
        refine (rloops_any a c l o _ (H0.out.below bA) (by omega)).mono ?_
        rintro e w4 ⟨rfl, c4⟩
        have b4 := bA.trans (c4.mono bA.size)
        have CN4 := Lib.hid (CN0.out.below c4)
        have CU4 := Lib.hid (CU0.out.below c4)
        have CV4 := Lib.hid (CV0.out.below c4)
        have hO5 := Lib.hid (hO4.out.below c4)
        have hlt6 := Nat.le_trans hlt5 c4.size
        have ltN := CN4.out.lt
        clear CN0 CU0 CV0 hO4 bA c4 m0 m1 m2 m3 m4 m5 m6 hO3 hU3 hlt5
        cases hlo : loopsN l o with
        | true =>
          have HD := Lib.hid (show doN l o = (l, noUnd) by unfold doN; rw [HC.out, HM.out]; simp only [Bool.and_self, if_true]; rw [if_neg HK.out, hlo]; rfl)
          obtain ⟨z0, z1, z2, z3, z4, z5, z6, z7, z8, z9⟩ := cellU_cells CV4.out
          obtain ⟨f0, f1, f2, f3, f4, f5, f6, f7, f8, f9⟩ := cellU_frees CV4.out
          go_wp2_with fail
          change bodyPost _ _ _ _ _ (w4.setCells (w.heap.size + 1) 0 (cellsU noUnd))
          have hUE := CV4.out.setAll (vs := cellsU noUnd) rfl
          obtain ⟨y0, y1, y2, y3, y4, y5, y6, y7, y8, y9⟩ := cellU_cells hUE
          have bE := below_setCells (B := w.heap.size) (w.heap.size + 1) (by omega) (cellsU noUnd) 0 w4 w b4
          refine bodyPost_ret (v := .tuple #[.slice a l.length c, UV noUnd]) (by simp [results, Try.results52, go_sem, y0, y1, y2, y3, y4, y5, y6, y7, y8, y9]) rfl ⟨a, c, ?_, ?_, bE, .inl rfl⟩
          · rw [HD.out]
          · rw [HD.out]; exact H0.out.below bE
        | false =>
          have HD := Lib.hid (show doN l o = (withN l (movedN l o), ⟨true, false, noNod⟩) by unfold doN; rw [HC.out, HM.out]; simp only [Bool.and_self, if_true]; rw [if_neg HK.out, hlo, HUnd.out]; rfl)
          have HNew := Lib.hid (show movedN l o = ⟨o.n, o.p, o.s, o.c, o.r, emptyB, 0, 0⟩ by unfold movedN; rw [HOld.out])
          have CN := Lib.hid (show Cells _ w3.heap.size (cellsNd ⟨o.n, o.p, o.s, o.c, o.r, emptyB, 0, 0⟩) from (((CN4.out.set 1 (by simp [cellsNd]) (.int .i64 o.p)).set 2 (by simp [cellsNd]) (.string o.s)).set 3 (by simp [cellsNd]) (.int .i64 o.c)).set 4 (by simp [cellsNd]) (.int .i64 o.r))
          have CU := Lib.hid (Cells.other (Cells.other (Cells.other (Cells.other CU4.out (g' := w3.heap.size) (by omega) 1 (.int .i64 o.p)) (g' := w3.heap.size) (by omega) 2 (.string o.s)) (g' := w3.heap.size) (by omega) 3 (.int .i64 o.c)) (g' := w3.heap.size) (by omega) 4 (.int .i64 o.r))
          have CV := Lib.hid (Cells.other (Cells.other (Cells.other (Cells.other CV4.out (g' := w3.heap.size) (by omega) 1 (.int .i64 o.p)) (g' := w3.heap.size) (by omega) 2 (.string o.s)) (g' := w3.heap.size) (by omega) 3 (.int .i64 o.c)) (g' := w3.heap.size) (by omega) 4 (.int .i64 o.r))
          have bX := (((b4.setCell (p := ⟨w3.heap.size, 1, none⟩) hs3 (.int .i64 o.p)).setCell (p := ⟨w3.heap.size, 2, none⟩) hs3 (.string o.s)).setCell (p := ⟨w3.heap.size, 3, none⟩) hs3 (.int .i64 o.c)).setCell (p := ⟨w3.heap.size, 4, none⟩) hs3 (.int .i64 o.r)
          have hlt5 : w.heap.size + 2 ≤ ((((w4.setCell ⟨w3.heap.size, 1, none⟩ (.int .i64 o.p)).setCell ⟨w3.heap.size, 2, none⟩ (.string o.s)).setCell ⟨w3.heap.size, 3, none⟩ (.int .i64 o.c)).setCell ⟨w3.heap.size, 4, none⟩ (.int .i64 o.r)).heap.size := by simpa using hlt6
          obtain ⟨m0, m1, m2, m3, m4, m5, m6⟩ := hO5.out
          obtain ⟨z0, z1, z2, z3, z4, z5, z6, z7⟩ := cellN_cells CN4.out
          obtain ⟨f0, f1, f2, f3, f4, f5, f6, f7⟩ := cellN_frees CN4.out
          clear CN4 CU4 CV4 hO5
          go_wp2_with fail
          have HD2 := Lib.hid (HD.out.trans (by rw [HNew.out]))
          clear HD HNew
          refine wp_region_t 5 (by kernel_rfl) (by kernel_rfl) ?_
          simp only [List.take_succ_cons, List.take_zero, List.drop_succ_cons, List.drop_zero]
          refine wpL_pure (fun K hK => ?_); go_simp; refine hK _ ?_; clear hK K
          refine wpL_use (NV ⟨o.n, o.p, o.s, o.c, o.r, emptyB, 0, 0⟩) (fun xs n _ => ?_) (fun K hK => ?_)
          · obtain ⟨k0, k1, k2, k3, k4, k5, k6, k7⟩ := cellN_cells (CN.out.below n.below)
            go_simp
          go_simp; (try go_ints); refine hK _ ?_; clear hK K
          refine wpL_make (OwnNd (w.heap.size + 2) (withN l ⟨o.n, o.p, o.s, o.c, o.r, emptyB, 0, 0⟩)) (fun v w w' h hk => h.stay v w w' hk) (fun xs n _ => ?_) (fun K hK => ?_)
          · have hb := bX.trans (n.below.mono bX.size)
            have hnw := n.below.size
            unfold relOp; go_simp; simp only [relUpon]
            exact (rwith_any a c l ⟨o.n, o.p, o.s, o.c, o.r, emptyB, 0, 0⟩ n.w (H0.out.below hb) hl).mono fun e w' ⟨v, he, hv, hb2⟩ => ⟨v, he, OwnR.mono hv (Nat.le_trans hlt5 hnw), hb2, fun g hg => OwnC.lt hv g hg⟩
          go_simp; (try go_ints); refine hK _ ?_; clear hK K
          refine wpL_use (UV ⟨true, false, noNod⟩) (fun xs n _ => ?_) (fun K hK => ?_)
          · obtain ⟨k0, k1, k2, k3, k4, k5, k6, k7, k8, k9⟩ := cellU_cells (CU.out.below n.below)
            go_simp
          go_simp; (try go_ints); refine hK _ ?_; clear hK K
          refine wpL_take 0 (OwnNd (w.heap.size + 2) (withN l ⟨o.n, o.p, o.s, o.c, o.r, emptyB, 0, 0⟩)) (fun v w w' h hk => h.stay v w w' hk) rfl (by kernel_rfl) (by kernel_rfl) (fun xs m hf => ?_) (fun K hK => ?_)
          · have h0 := factL hf 0 rfl (by kernel_rfl)
            unfold relOp; go_simp; simp only [relUpon]
            exact own_moved h0
          go_simp; (try go_ints); refine hK _ ?_; clear hK K
          refine wpL_nil (fun xs n hf => ?_)
          have hfin := Lib.hid (hf _ (List.mem_cons_self))
          have b6 := bX.trans (n.below.mono bX.size)
          have CV6 := Lib.hid (CV.out.below n.below)
          generalize n.w = w6 at hfin b6 CV6 ⊢
          obtain ⟨v0, v1, v2, v3, v4, v5, v6, v7, v8, v9⟩ := cellU_cells CV6.out
          obtain ⟨f0, f1, f2, f3, f4, f5, f6, f7, f8, f9⟩ := cellU_frees CV6.out
          go_wp2_with fail
          change bodyPost _ _ _ _ _ (w6.setCells (w.heap.size + 1) 0 (cellsU ⟨true, false, noNod⟩))
          have hUE := CV6.out.setAll (vs := cellsU ⟨true, false, noNod⟩) rfl
          obtain ⟨y0, y1, y2, y3, y4, y5, y6, y7, y8, y9⟩ := cellU_cells hUE
          have bE := below_setCells (B := w.heap.size) (w.heap.size + 1) (by omega) (cellsU ⟨true, false, noNod⟩) 0 w6 w b6
          have bS := below_setCells (B := 0) (w.heap.size + 1) (Nat.zero_le _) (cellsU ⟨true, false, noNod⟩) 0 w6 w6 (Below.refl _ _)
          have hfE : OwnNd (w.heap.size + 2) (withN l ⟨o.n, o.p, o.s, o.c, o.r, emptyB, 0, 0⟩) (xs 4) (w6.setCells (w.heap.size + 1) 0 (cellsU ⟨true, false, noNod⟩)) := OwnC.own hfin.out bS.size fun g hg => World.heap_setCells_other w6 _ _ _ (OwnC.lt hfin.out g hg).2 (by have := (OwnC.lt hfin.out g hg).1; omega)
          obtain ⟨a4, c4, e4, hi4⟩ := hfE.isR nd_len
          refine bodyPost_ret (v := .tuple #[.slice a4 (withN l ⟨o.n, o.p, o.s, o.c, o.r, emptyB, 0, 0⟩).length c4, UV ⟨true, false, noNod⟩]) (by simp [results, Try.results52, go_sem, y0, y1, y2, y3, y4, y5, y6, y7, y8, y9, e4]) rfl ⟨a4, c4, ?_, ?_, bE, .inr fun g o ha => ⟨by have := (OwnC.lt hfE g (by rw [e4, ha]; rfl)).1; omega, (OwnC.lt hfE g (by rw [e4, ha]; rfl)).2, by have q := hfE; rw [e4, ha] at q; exact ownR_off q⟩⟩
          · rw [HD2.out]
          · rw [HD2.out]; exact hi4
  · have HD := Lib.hid (show doN l o = (l, noUnd) by unfold doN; rw [if_neg (by simpa using hgo)])
    have hgo2 : (!chkN l || !mayO o) = true := by
      cases h1 : chkN l <;> cases h2 : mayO o <;> simp_all
    obtain ⟨z0, z1, z2, z3, z4, z5, z6, z7, z8, z9⟩ := cellU_cells hU2.out
    obtain ⟨f0, f1, f2, f3, f4, f5, f6, f7, f8, f9⟩ := cellU_frees hU2.out
    cases hc : chkN l <;> cases hm : mayO o
    case true.true => rw [hc, hm] at hgo2; cases hgo2
    all_goals
      clear hgo hgo2
      go_wp2_with fail
      change bodyPost _ _ _ _ _ (w2.setCells (w.heap.size + 1) 0 (cellsU noUnd))
      have hUE := hU2.out.setAll (vs := cellsU noUnd) rfl
      obtain ⟨y0, y1, y2, y3, y4, y5, y6, y7, y8, y9⟩ := cellU_cells hUE
      have bE := below_setCells (B := w.heap.size) (w.heap.size + 1) (by omega) (cellsU noUnd) 0 w2 w b2
      have hlt := hU2.out.lt
      refine bodyPost_ret (v := .tuple #[.slice a l.length c, UV noUnd]) (by simp [results, Try.results52, go_sem, y0, y1, y2, y3, y4, y5, y6, y7, y8, y9]) rfl ⟨a, c, ?_, ?_, bE, .inl rfl⟩
      · rw [HD.out]
      · rw [HD.out]
        exact H0.out.below bE
theorem rdo_any (a : Option Addr) (c : Nat) (l : List Nod) (o : Opn) (w : World) (h : IsNd w a c l) (hl : l.length ≤ 100000) (ho : o.s.size ≤ 1000000) :
    Calls Try.prog 52 #[.slice a l.length c, OV o] w (DoPost (doN l o) w) :=
  (rdo_own a c l o w h hl ho).mono fun _ _ ⟨a', c', h1, h2, h3, _⟩ => ⟨a', c', h1, h2, h3⟩
end Go.Proofs.Ytnndanpahcdmaaa
