/-
  The landed package tree: an operation done.
-/
import Derived.Test.YtnndanpahcdmaaaTClimb
import Derived.Test.YtnndanpahcdmaaaTLay
namespace Go.Proofs.Ytnndanpahcdmaaa
open Go.RowKit Go.Lib
theorem OwnR.isRv {α : Type} {f : α → List Value} {k : Nat} (hf : ∀ x, (f x).length = k) {B : Nat} {l : List α} {a : Option Addr} {n c : Nat} {w : World} (h : OwnR f k B l (.slice a n c) w) : IsR f k w a c l := by
  obtain ⟨a', c', e, hi⟩ := h.isR hf
  simp only [Value.slice.injEq] at e
  obtain ⟨rfl, _, rfl⟩ := e
  exact hi
/-- What comes of an operation that is done to nodes of the call's own. -/
def DoOwnPost (B : Nat) (r : List Nod × Und) (w : World) (e : Ending) (w' : World) : Prop := ∃ v, e = .returned (.tuple #[v, UV r.2]) ∧ OwnNd B r.1 v w' ∧ Below B w w'
def newN (o : Opn) : Nod := ⟨o.n, -1, emptyB, 0, 0, emptyB, 0, 0⟩
theorem HasO.keep {w w' : World} {b : Nat} {o : Opn} (h : HasO w b o) (hb : w'.heap[b]? = w.heap[b]?) : HasO w' b o := by
  obtain ⟨m0, m1, m2, m3, m4, m5, m6⟩ := h
  have e : ∀ j, w'.cell? ⟨b, j, none⟩ = w.cell? ⟨b, j, none⟩ := fun j => World.cell?_of_block (a := ⟨b, j, none⟩) hb
  exact ⟨(e 0).trans m0, (e 1).trans m1, (e 2).trans m2, (e 3).trans m3, (e 4).trans m4, (e 5).trans m5, (e 6).trans m6⟩
theorem mid_get {α : Type} (l : List α) (n : α) (i : Nat) (hi : i ≤ l.length) : (l.take i ++ n :: l.drop i)[i]? = some n := by
  rw [List.getElem?_append_right (by rw [List.length_take]; omega), List.length_take, Nat.min_eq_left hi, Nat.sub_self]; rfl
theorem mid_len {α : Type} (l : List α) (n : α) (i : Nat) (hi : i ≤ l.length) : (l.take i ++ n :: l.drop i).length = l.length + 1 := by
  simp only [List.length_append, List.length_take, List.length_cons, List.length_drop]; omega
theorem do_loop {l : List Nod} {o : Opn} (h1 : o.k = 1) (hlo : loopsN l o = true) : doN l o = (l, noUnd) := by
  unfold doN
  by_cases h : (chkN l && mayO o)
  · simp [h, hlo, h1]
  · simp [h]
theorem do_goes {l : List Nod} {o : Opn} (hm : MayN l) (ho : mayO o = true) (hlo : o.k = 1 → loopsN l o = false) : doN l o = (withN l (chgN (oldN l o.n) o), undN l o.n) := by
  have hk := (mayO_parts ho).2.2
  unfold doN
  rw [if_pos (by rw [chkN_iff.2 hm, ho]; rfl)]
  by_cases h2 : o.k = 2
  · rw [if_pos h2]
    unfold chgN wroteN
    rw [if_neg (by omega)]
  · have h1 : o.k = 1 := by
      rcases hk with h | h
      · exact h.1
      · exact absurd h.1 h2
    rw [if_neg h2, if_neg (by rw [hlo h1]; simp)]
    unfold chgN movedN
    rw [if_pos h1]
theorem chgN_id (x : Nod) (o : Opn) : (chgN x o).id = x.id := by unfold chgN; split <;> rfl
theorem do_had {l : List Nod} {o : Opn} {x : Nod} (hm : MayN l) (ho : mayO o = true) (hlo : o.k = 1 → loopsN l o = false) (hg : getN l o.n = some x) : doN l o = (l.set (posN l o.n) (chgN x o), ⟨true, true, x⟩) := by
  have hx := (getN_some hg).2
  rw [do_goes hm ho hlo]
  unfold oldN undN
  rw [hg]
  simp only [Option.getD_some, Option.isSome_some]
  rw [with_some hm (x := x) (by rw [chgN_id, hx]; exact hg), chgN_id, hx]
theorem do_new {l : List Nod} {o : Opn} (hm : MayN l) (ho : mayO o = true) (hlo : o.k = 1 → loopsN l o = false) (hg : getN l o.n = none) : doN l o = ((l.take (posN l o.n) ++ newN o :: l.drop (posN l o.n)).set (posN l o.n) (chgN (newN o) o), ⟨true, false, noNod⟩) := by
  have e0 : (chgN (newN o) o).id = o.n := by rw [chgN_id]; rfl
  have e1 : oldN l o.n = newN o := by unfold oldN; rw [hg]; rfl
  rw [do_goes hm ho hlo, e1, with_none hm (by rw [e0]; exact hg), e0]
  have hp := posN_le l o.n
  have hu : undN l o.n = ⟨true, false, noNod⟩ := by unfold undN; rw [hg]; rfl
  rw [hu]
  congr 1
  have := set_between (l.take (posN l o.n)) (l.drop (posN l o.n)) (newN o) (chgN (newN o) o)
  rw [List.length_take, Nat.min_eq_left hp] at this
  exact this.symm
set_option maxRecDepth 100000 in
set_option maxHeartbeats 8000000 in
theorem tdoin_any (B : Nat) (a : Option Addr) (c : Nat) (l : List Nod) (o : Opn) (w : World) (h : OwnNd B l (.slice a l.length c) w) (hB : B ≤ w.heap.size) (hm : MayN l) (ho : mayO o = true) (hl : l.length ≤ 99999) :
    Calls Try.prog 38 #[.slice a l.length c, OV o] w (DoOwnPost B (doN l o) w) := by
  have hmf : ∀ (fn : Fn) (first cap : Array Value) (w : World), (Instr.makeFunc fn first cap).run Try.prog w = .ok (.func fn first cap) w := fun _ _ _ _ => rfl
  obtain ⟨A, hA⟩ : ∃ A, A = w.alloc (.cells #[.int .i64 o.c, .int .i64 o.r, .int .i64 o.k, .int .i64 o.n, .int .i64 o.p, .string o.s, .string o.d] 26) := ⟨_, rfl⟩
  obtain ⟨C, hC⟩ : ∃ C, C = A.alloc (.cells #[.bool false, .bool false, .int .i64 0, .int .i64 0, .string ⟨#[]⟩, .int .i64 0, .int .i64 0, .string ⟨#[]⟩, .int .i64 0, .int .i64 0] 47) := ⟨_, rfl⟩
  have sA : A.heap.size = w.heap.size + 1 := by rw [hA]; simp
  have sC : C.heap.size = w.heap.size + 2 := by rw [hC]; simp [sA]
  have qA : Below w.heap.size w A := by rw [hA]; exact below_alloc _ _
  have qC : Below A.heap.size A C := by rw [hC]; exact below_alloc _ _
  have b0 := step_b qA qC
  have HO0 := Lib.hid ((by rw [hA]; exact hasO_new w o 26 : HasO A w.heap.size o).below qC)
  have hU : Cells C A.heap.size (cellsU noUnd) := by rw [hC]; exact cells_new A (cellsU noUnd) 47
  rw [sA] at hU
  have HU0 := Lib.hid hU
  have HL0 := Lib.hid (OwnR.below h b0)
  have HLt := Lib.hid h.lt
  have HB0 := Lib.hid (b0.mono hB)
  have HSC := Lib.hid sC
  have HM := Lib.hid hm
  have HLo := Lib.hid (loopsN_is l o hm)
  have HMay := Lib.hid ho
  clear h hm ho hU qA qC sA b0
  go_enter Try.func38, Try.ntmps38
  by_cases hk : o.k = 1
  · have hk1 : (o.k == 1) = true := by rw [beq_iff_eq]; exact hk
    have HK := Lib.hid hk
    clear hk
    obtain ⟨e1, he1⟩ : ∃ b, (o.p == o.n) = b := ⟨_, rfl⟩
    have HE1 := Lib.hid he1
    have HIs := Lib.hid (tis_any w.heap.size o o.p C HO0.out)
    rw [he1] at HIs
    obtain ⟨m0, m1, m2, m3, m4, m5, m6⟩ := HO0.out
    clear he1
    cases e1 with
    | true =>
      have HD := Lib.hid (do_loop HK.out (by rw [HLo.out, HE1.out]; rfl))
      rw [hA] at hC
      go_wp2_with fail
      rw [← hC]
      clear hC hA
      refine (HIs.out).mono ?_
      rintro e w1 ⟨rfl, rfl⟩
      obtain ⟨f0, f1, f2, f3, f4, f5, f6, f7, f8, f9⟩ := cellU_frees HU0.out
      obtain ⟨u0, u1, u2, u3, u4, u5, u6, u7, u8, u9⟩ := cellU_cells HU0.out
      go_wp2_with fail
      change bodyPost _ _ _ _ _ (w1.setCells (w.heap.size + 1) 0 (cellsU noUnd))
      have hUE := HU0.out.setAll (vs := cellsU noUnd) rfl
      obtain ⟨y0, y1, y2, y3, y4, y5, y6, y7, y8, y9⟩ := cellU_cells hUE
      have hfE : OwnNd B l (.slice a l.length c) (w1.setCells (w.heap.size + 1) 0 (cellsU noUnd)) := OwnC.own HL0.out (by rw [setCells_heap]; exact Nat.le_refl _) fun g hg => World.heap_setCells_other w1 _ _ _ (OwnC.lt HL0.out g hg).2 (by have := (HLt.out g hg).2; omega)
      have bE := below_setCells (B := B) (w.heap.size + 1) (by omega) (cellsU noUnd) 0 w1 w HB0.out
      exact bodyPost_ret (v := .tuple #[.slice a l.length c, UV noUnd]) (by simp [results, Try.results38, go_sem, y0, y1, y2, y3, y4, y5, y6, y7, y8, y9]) rfl ⟨_, by rw [HD.out], by rw [HD.out]; exact hfE, bE⟩
    | false =>
      have HCl := Lib.hid (tup_any a c l o C (OwnR.isRv nd_len HL0.out) HM.out (by omega) w.heap.size HO0.out)
      obtain ⟨e2, he2⟩ : ∃ b, ((upN l l.length o.p).any fun x => x == o.n) = b := ⟨_, rfl⟩
      rw [he2] at HCl
      have HE2 := Lib.hid he2
      clear he2
      have HA := Lib.hid hA
      rw [hA] at hC
      go_wp2_with fail
      rw [← hC]
      clear hC hA HA
      refine (HIs.out).mono ?_
      rintro e w1 ⟨rfl, rfl⟩
      cases e2 with
      | true =>
        have HD := Lib.hid (do_loop HK.out (by rw [HLo.out, HE1.out, HE2.out]; rfl))
        go_wp2_with fail
        refine (HCl.out).mono ?_
        rintro e w3 ⟨rfl, c3⟩
        have HU3 := Lib.hid (HU0.out.below c3)
        have HL3 := Lib.hid (OwnR.below HL0.out c3)
        have HB3 := Lib.hid (HB0.out.trans (c3.mono (by have := HB0.out.size; omega)))
        clear HCl c3 m0 m1 m2 m3 m4 m5 m6
        obtain ⟨f0, f1, f2, f3, f4, f5, f6, f7, f8, f9⟩ := cellU_frees HU3.out
        obtain ⟨u0, u1, u2, u3, u4, u5, u6, u7, u8, u9⟩ := cellU_cells HU3.out
        go_wp2_with fail
        change bodyPost _ _ _ _ _ (w3.setCells (w.heap.size + 1) 0 (cellsU noUnd))
        have hUE := HU3.out.setAll (vs := cellsU noUnd) rfl
        obtain ⟨y0, y1, y2, y3, y4, y5, y6, y7, y8, y9⟩ := cellU_cells hUE
        have hfE : OwnNd B l (.slice a l.length c) (w3.setCells (w.heap.size + 1) 0 (cellsU noUnd)) := OwnC.own HL3.out (by rw [setCells_heap]; exact Nat.le_refl _) fun g hg => World.heap_setCells_other w3 _ _ _ (OwnC.lt HL3.out g hg).2 (by have := (HLt.out g hg).2; omega)
        have bE := below_setCells (B := B) (w.heap.size + 1) (by omega) (cellsU noUnd) 0 w3 w HB3.out
        exact bodyPost_ret (v := .tuple #[.slice a l.length c, UV noUnd]) (by simp [results, Try.results38, go_sem, y0, y1, y2, y3, y4, y5, y6, y7, y8, y9]) rfl ⟨_, by rw [HD.out], by rw [HD.out]; exact hfE, bE⟩
      | false =>
        have hno : o.k = 1 → loopsN l o = false := fun _ => by rw [HLo.out, HE1.out, HE2.out]; rfl
        go_wp2_with fail
        refine (HCl.out).mono ?_
        rintro e w3 ⟨rfl, c3⟩
        have HO3 := Lib.hid (HO0.out.below c3)
        have HU3 := Lib.hid (HU0.out.below c3)
        have HL3 := Lib.hid (OwnR.below HL0.out c3)
        have HB3 := Lib.hid (HB0.out.trans (c3.mono (by have := HB0.out.size; omega)))
        have hs3 := c3.size
        clear HCl c3 m0 m1 m2 m3 m4 m5 m6
        obtain ⟨m0, m1, m2, m3, m4, m5, m6⟩ := HO3.out
        go_wp2_with fail
        have HNL := Lib.hid hno
        clear hno
        cases hg : getN l o.n with
        | some x =>
          have HPl := Lib.hid (tplace_any a c l o.n w3 (OwnR.isRv nd_len HL3.out) HM.out (by omega))
          rw [hg] at HPl
          have HD := Lib.hid (do_had HM.out HMay.out HNL.out hg)
          have hx := pos_some HM.out hg
          obtain ⟨i, hi⟩ : ∃ i, posN l o.n = i := ⟨_, rfl⟩
          rw [hi] at HPl HD hx
          have HX := Lib.hid hx
          have hil : (i : Int) < (l.length : Int) := by have := (List.getElem?_eq_some_iff.1 hx).1; omega
          clear hg hi hx
          refine (HPl.out).mono ?_
          rintro e w2 ⟨rfl, c2⟩
          have HO2 := Lib.hid (HO3.out.below c2)
          have HU2 := Lib.hid (HU3.out.below c2)
          have HL2 := Lib.hid (OwnR.below HL3.out c2)
          have HB2 := Lib.hid (HB3.out.trans (c2.mono (by have := HB3.out.size; omega)))
          obtain ⟨g, c', e, hg1, hg2, _⟩ := HL2.out.row (by intro e; have := HX.out; rw [e] at this; cases this)
          simp only [Value.slice.injEq] at e
          obtain ⟨rfl, _, rfl⟩ := e
          have hgw := (HLt.out g rfl).2
          have hneU : w.heap.size + 1 ≠ g := by omega
          have hneV : w2.heap.size ≠ g := by omega
          obtain ⟨hA1, _⟩ := HL2.out.cellsAt nd_len HX.out
          obtain ⟨n0, n1, n2, n3, n4, n5, n6, n7⟩ := atN_of hA1
          clear hA1 c2 HPl
          go_wp2_with fail
          have q3 := below_alloc w2 (.cells #[.bool true, .bool true, .int .i64 x.id, .int .i64 x.p, .string x.s, .int .i64 x.mc, .int .i64 x.mr, .string x.d, .int .i64 x.wc, .int .i64 x.wr] 47)
          have hv3 : Cells (w2.alloc (.cells #[.bool true, .bool true, .int .i64 x.id, .int .i64 x.p, .string x.s, .int .i64 x.mc, .int .i64 x.mr, .string x.d, .int .i64 x.wc, .int .i64 x.wr] 47)) w2.heap.size (cellsU ⟨true, true, x⟩) := cells_new w2 (cellsU ⟨true, true, x⟩) 47
          have HO3 := Lib.hid (HO2.out.below q3)
          have HU3 := Lib.hid (HU2.out.below q3)
          have HL3 := Lib.hid (OwnR.below HL2.out q3)
          have HB3 := Lib.hid (HB2.out.trans (q3.mono (by have := HB2.out.size; omega)))
          have HV3 := Lib.hid hv3
          clear q3 hv3 HO2 HU2 HL2 HB2 m0 m1 m2 m3 m4 m5 m6 n0 n1 n2 n3 n4 n5 n6 n7
          generalize w2.alloc (.cells #[.bool true, .bool true, .int .i64 x.id, .int .i64 x.p, .string x.s, .int .i64 x.mc, .int .i64 x.mr, .string x.d, .int .i64 x.wc, .int .i64 x.wr] 47) = w3 at HO3 HU3 HL3 HB3 HV3 ⊢
          obtain ⟨m0, m1, m2, m3, m4, m5, m6⟩ := HO3.out
          obtain ⟨hA1, _⟩ := HL3.out.cellsAt nd_len HX.out
          obtain ⟨n0, n1, n2, n3, n4, n5, n6, n7⟩ := atN_of hA1
          clear hA1
          have hlO := HO3.out.lt
          have hlR := (OwnC.lt HL3.out g rfl).2
          have HCh := Lib.hid (fun w => tchanged_any x o w)
          have hR : ∀ (n : Later w3) b o, b < w3.heap.size → n.w.cell? ⟨b, o, none⟩ = w3.cell? ⟨b, o, none⟩ := fun n b o hb => n.below.cell (p := ⟨b, o, none⟩) hb
          refine wp_region_t 9 (by kernel_rfl) (by kernel_rfl) ?_
          simp only [List.take_succ_cons, List.take_zero, List.drop_succ_cons, List.drop_zero]
          iterate 7 (refine wpL_pure (fun K hK => ?_); go_simp; (try go_ints); refine hK _ ?_; clear hK K)
          refine wpL_pure (fun K hK => ?_)
          go_simp
          apply Exists.intro
          refine ⟨fun m => ?_, hK _ ?_⟩
          · go_at_call 60; exact HCh.out _
          clear hK K
          refine wpL_pure (fun K hK => ?_); go_simp; (try go_ints); refine hK _ ?_; clear hK K
          refine wpL_nil (fun xs nl _ => ?_)
          have HL4 := Lib.hid (OwnR.below HL3.out nl.below)
          have HU4 := Lib.hid (HU3.out.below nl.below)
          have HV4 := Lib.hid (HV3.out.below nl.below)
          have HB4 := Lib.hid (HB3.out.trans (nl.below.mono (by have := HB3.out.size; omega)))
          clear hR m0 m1 m2 m3 m4 m5 m6 n0 n1 n2 n3 n4 n5 n6 n7 HO3 HU3 HL3 HB3 HV3
          generalize nl.w = w4 at HL4 HU4 HV4 HB4 ⊢
          go_wp2_with (refine wpList_store_rec nd_len nd_one rfl rfl 45 _ _ rfl (by kernel_rfl) B g _ _ _ HL4.out i (by omega) (chgN x o) _ rfl rfl rfl ?_)
          intro w5 hl5 c5 s5 r5
          have HL5 := Lib.hid hl5
          have HU5 := Lib.hid (HU4.out.keep (by omega) (r5 _ HU4.out.lt hneU))
          have HV5 := Lib.hid (HV4.out.keep (by omega) (r5 _ HV4.out.lt hneV))
          have HB5 := Lib.hid (HB4.out.trans c5)
          clear hl5 c5 r5 s5 HL4 HU4 HV4 HB4
          go_wp2_with fail
          have hlV := HV5.out.lt
          obtain ⟨u0, u1, u2, u3, u4, u5, u6, u7, u8, u9⟩ := cellU_cells HV5.out
          have hR : ∀ (n : Later w5) b o, b < w5.heap.size → n.w.cell? ⟨b, o, none⟩ = w5.cell? ⟨b, o, none⟩ := fun n b o hb => n.below.cell (p := ⟨b, o, none⟩) hb
          refine wp_region_t 3 (by kernel_rfl) (by kernel_rfl) ?_
          simp only [List.take_succ_cons, List.take_zero, List.drop_succ_cons, List.drop_zero]
          iterate 3 (refine wpL_pure (fun K hK => ?_); go_simp; (try go_ints); refine hK _ ?_; clear hK K)
          refine wpL_nil (fun xs nl _ => ?_)
          have HL6 := Lib.hid (OwnR.below HL5.out nl.below)
          have HU6 := Lib.hid (HU5.out.below nl.below)
          have HB6 := Lib.hid (HB5.out.trans (nl.below.mono (by have := HB5.out.size; omega)))
          clear hR u0 u1 u2 u3 u4 u5 u6 u7 u8 u9 HL5 HU5 HV5 HB5
          generalize nl.w = w6 at HL6 HU6 HB6 ⊢
          obtain ⟨f0, f1, f2, f3, f4, f5, f6, f7, f8, f9⟩ := cellU_frees HU6.out
          obtain ⟨u0, u1, u2, u3, u4, u5, u6, u7, u8, u9⟩ := cellU_cells HU6.out
          go_wp2_with fail
          change bodyPost _ _ _ _ _ (w6.setCells (w.heap.size + 1) 0 (cellsU ⟨true, true, x⟩))
          have hUE := HU6.out.setAll (vs := cellsU ⟨true, true, x⟩) rfl
          obtain ⟨y0, y1, y2, y3, y4, y5, y6, y7, y8, y9⟩ := cellU_cells hUE
          have hfE : OwnNd B (l.set i (chgN x o)) (.slice (some ⟨g, 0, none⟩) l.length c) (w6.setCells (w.heap.size + 1) 0 (cellsU ⟨true, true, x⟩)) := OwnC.own HL6.out (by rw [setCells_heap]; exact Nat.le_refl _) fun q hq => World.heap_setCells_other w6 _ _ _ (OwnC.lt HL6.out q hq).2 (by cases hq; exact fun e => hneU e.symm)
          have bE := below_setCells (B := B) (w.heap.size + 1) (by omega) (cellsU ⟨true, true, x⟩) 0 w6 w HB6.out
          exact bodyPost_ret (v := .tuple #[.slice (some ⟨g, 0, none⟩) l.length c, UV ⟨true, true, x⟩]) (by simp [results, Try.results38, go_sem, y0, y1, y2, y3, y4, y5, y6, y7, y8, y9]) rfl ⟨_, by rw [HD.out], by rw [HD.out]; exact hfE, by exact bE⟩
        | none =>
          have HPl := Lib.hid (tplace_any a c l o.n w3 (OwnR.isRv nd_len HL3.out) HM.out (by omega))
          rw [hg] at HPl
          have HD := Lib.hid (do_new HM.out HMay.out HNL.out hg)
          have hpl := posN_le l o.n
          obtain ⟨i, hi⟩ : ∃ i, posN l o.n = i := ⟨_, rfl⟩
          rw [hi] at HPl HD hpl
          clear hg hi
          refine (HPl.out).mono ?_
          rintro e w2 ⟨rfl, c2⟩
          have q3 := below_alloc w2 (.cells #[.bool true, .bool false, .int .i64 0, .int .i64 0, .string ⟨#[]⟩, .int .i64 0, .int .i64 0, .string ⟨#[]⟩, .int .i64 0, .int .i64 0] 47)
          have c3 := step_b c2 q3
          have hv3 : Cells (w2.alloc (.cells #[.bool true, .bool false, .int .i64 0, .int .i64 0, .string ⟨#[]⟩, .int .i64 0, .int .i64 0, .string ⟨#[]⟩, .int .i64 0, .int .i64 0] 47)) w2.heap.size (cellsU ⟨true, false, noNod⟩) := cells_new w2 (cellsU ⟨true, false, noNod⟩) 47
          have HO2 := Lib.hid (HO3.out.below c3)
          have HU2 := Lib.hid (HU3.out.below c3)
          have HL2 := Lib.hid (OwnR.below HL3.out c3)
          have HB2 := Lib.hid (HB3.out.trans (c3.mono (by have := HB3.out.size; omega)))
          have HV2 := Lib.hid hv3
          have hs2 := c2.size
          have hs2' := q3.size
          have HLay := Lib.hid (tlay_any B l (newN o) i a c _ HL2.out (by have := HB2.out.size; omega) hpl (by omega))
          obtain ⟨m0, m1, m2, m3, m4, m5, m6⟩ := HO2.out
          have mk := (HO3.out.below c2).2.2.2.1
          clear c2 c3 q3 hv3 HPl
          go_wp2_with fail
          refine (HLay.out).mono ?_
          rintro e w3 ⟨v1, rfl, hl3, c3, r3, hg3⟩
          have hX := mid_get l (newN o) i hpl
          have hXl := mid_len l (newN o) i hpl
          obtain ⟨x, hx⟩ : ∃ x, newN o = x := ⟨_, rfl⟩
          rw [hx] at hl3 HD hX hXl
          obtain ⟨l2, hl2⟩ : ∃ l2, l.take i ++ x :: l.drop i = l2 := ⟨_, rfl⟩
          rw [hl2] at hl3 HD hX hXl
          have HX := Lib.hid hX
          have hown : ∀ q, (Value.slice a l.length c).ownBlock = some q → q < w.heap.size := fun q hq => (HLt.out q hq).2
          have HO3 := Lib.hid (HO2.out.keep (r3.block HO2.out.lt (fun e => by have := hown _ e; omega)))
          have HU3 := Lib.hid (HU2.out.keep r3.1 (r3.block HU2.out.lt (fun e => by have := hown _ e; omega)))
          have HV3 := Lib.hid (HV2.out.keep r3.1 (r3.block HV2.out.lt (fun e => by have := hown _ e; omega)))
          have HB3 := Lib.hid (HB2.out.trans c3)
          have hlt2 := HV2.out.lt
          obtain ⟨g, c', e, hg1, hg2, _⟩ := hl3.row (by intro e; rw [e] at hX; cases hX)
          subst e
          have hgg := hg3 g rfl
          have hneU : w.heap.size + 1 ≠ g := by
            rcases hgg with h | h
            · omega
            · have := hown _ h; omega
          have hneV : w2.heap.size ≠ g := by
            rcases hgg with h | h
            · omega
            · have := hown _ h; omega
          have HL3 := Lib.hid hl3
          have hil : (i : Int) < (l2.length : Int) := by omega
          clear hx hl2 hX hXl hl3 c3 r3 hg3 hown hgg HO2 HU2 HV2 HL2 HB2 HLay m0 m1 m2 m3 m4 m5 m6 mk
          go_wp2_with fail
          obtain ⟨m0, m1, m2, m3, m4, m5, m6⟩ := HO3.out
          obtain ⟨hA1, _⟩ := HL3.out.cellsAt nd_len HX.out
          obtain ⟨n0, n1, n2, n3, n4, n5, n6, n7⟩ := atN_of hA1
          clear hA1
          have hlO := HO3.out.lt
          have hlR := (OwnC.lt HL3.out g rfl).2
          have HCh := Lib.hid (fun w => tchanged_any x o w)
          have hR : ∀ (n : Later w3) b o, b < w3.heap.size → n.w.cell? ⟨b, o, none⟩ = w3.cell? ⟨b, o, none⟩ := fun n b o hb => n.below.cell (p := ⟨b, o, none⟩) hb
          refine wp_region_t 9 (by kernel_rfl) (by kernel_rfl) ?_
          simp only [List.take_succ_cons, List.take_zero, List.drop_succ_cons, List.drop_zero]
          iterate 7 (refine wpL_pure (fun K hK => ?_); go_simp; (try go_ints); refine hK _ ?_; clear hK K)
          refine wpL_pure (fun K hK => ?_)
          go_simp
          apply Exists.intro
          refine ⟨fun m => ?_, hK _ ?_⟩
          · go_at_call 60; exact HCh.out _
          clear hK K
          refine wpL_pure (fun K hK => ?_); go_simp; (try go_ints); refine hK _ ?_; clear hK K
          refine wpL_nil (fun xs nl _ => ?_)
          have HL4 := Lib.hid (OwnR.below HL3.out nl.below)
          have HU4 := Lib.hid (HU3.out.below nl.below)
          have HV4 := Lib.hid (HV3.out.below nl.below)
          have HB4 := Lib.hid (HB3.out.trans (nl.below.mono (by have := HB3.out.size; omega)))
          clear hR m0 m1 m2 m3 m4 m5 m6 n0 n1 n2 n3 n4 n5 n6 n7 HO3 HU3 HL3 HB3 HV3
          generalize nl.w = w4 at HL4 HU4 HV4 HB4 ⊢
          go_wp2_with (refine wpList_store_rec nd_len nd_one rfl rfl 45 _ _ rfl (by kernel_rfl) B g _ _ _ HL4.out i (by omega) (chgN x o) _ rfl rfl rfl ?_)
          intro w5 hl5 c5 s5 r5
          have HL5 := Lib.hid hl5
          have HU5 := Lib.hid (HU4.out.keep (by omega) (r5 _ HU4.out.lt hneU))
          have HV5 := Lib.hid (HV4.out.keep (by omega) (r5 _ HV4.out.lt hneV))
          have HB5 := Lib.hid (HB4.out.trans c5)
          clear hl5 c5 r5 s5 HL4 HU4 HV4 HB4
          go_wp2_with fail
          have hlV := HV5.out.lt
          obtain ⟨u0, u1, u2, u3, u4, u5, u6, u7, u8, u9⟩ := cellU_cells HV5.out
          have hR : ∀ (n : Later w5) b o, b < w5.heap.size → n.w.cell? ⟨b, o, none⟩ = w5.cell? ⟨b, o, none⟩ := fun n b o hb => n.below.cell (p := ⟨b, o, none⟩) hb
          refine wp_region_t 3 (by kernel_rfl) (by kernel_rfl) ?_
          simp only [List.take_succ_cons, List.take_zero, List.drop_succ_cons, List.drop_zero]
          iterate 3 (refine wpL_pure (fun K hK => ?_); go_simp; (try go_ints); refine hK _ ?_; clear hK K)
          refine wpL_nil (fun xs nl _ => ?_)
          have HL6 := Lib.hid (OwnR.below HL5.out nl.below)
          have HU6 := Lib.hid (HU5.out.below nl.below)
          have HB6 := Lib.hid (HB5.out.trans (nl.below.mono (by have := HB5.out.size; omega)))
          clear hR u0 u1 u2 u3 u4 u5 u6 u7 u8 u9 HL5 HU5 HV5 HB5
          generalize nl.w = w6 at HL6 HU6 HB6 ⊢
          obtain ⟨f0, f1, f2, f3, f4, f5, f6, f7, f8, f9⟩ := cellU_frees HU6.out
          obtain ⟨u0, u1, u2, u3, u4, u5, u6, u7, u8, u9⟩ := cellU_cells HU6.out
          go_wp2_with fail
          change bodyPost _ _ _ _ _ (w6.setCells (w.heap.size + 1) 0 (cellsU ⟨true, false, noNod⟩))
          have hUE := HU6.out.setAll (vs := cellsU ⟨true, false, noNod⟩) rfl
          obtain ⟨y0, y1, y2, y3, y4, y5, y6, y7, y8, y9⟩ := cellU_cells hUE
          have hfE : OwnNd B (l2.set i (chgN x o)) (.slice (some ⟨g, 0, none⟩) l2.length c') (w6.setCells (w.heap.size + 1) 0 (cellsU ⟨true, false, noNod⟩)) := OwnC.own HL6.out (by rw [setCells_heap]; exact Nat.le_refl _) fun q hq => World.heap_setCells_other w6 _ _ _ (OwnC.lt HL6.out q hq).2 (by cases hq; exact fun e => hneU e.symm)
          have bE := below_setCells (B := B) (w.heap.size + 1) (by omega) (cellsU ⟨true, false, noNod⟩) 0 w6 w HB6.out
          exact bodyPost_ret (v := .tuple #[.slice (some ⟨g, 0, none⟩) l2.length c', UV ⟨true, false, noNod⟩]) (by simp [results, Try.results38, go_sem, y0, y1, y2, y3, y4, y5, y6, y7, y8, y9]) rfl ⟨_, by rw [HD.out], by rw [HD.out]; exact hfE, by exact bE⟩
  · have hno : o.k = 1 → loopsN l o = false := fun h => absurd h hk
    have hk1 : (o.k == 1) = false := by rw [beq_eq_false_iff_ne]; exact hk
    clear hk
    obtain ⟨m0, m1, m2, m3, m4, m5, m6⟩ := HO0.out
    rw [hA] at hC
    go_wp2_with fail
    rw [← hC]
    clear hC hA
    have HNL := Lib.hid hno
    clear hno
    cases hg : getN l o.n with
    | some x =>
      have HPl := Lib.hid (tplace_any a c l o.n C (OwnR.isRv nd_len HL0.out) HM.out (by omega))
      rw [hg] at HPl
      have HD := Lib.hid (do_had HM.out HMay.out HNL.out hg)
      have hx := pos_some HM.out hg
      obtain ⟨i, hi⟩ : ∃ i, posN l o.n = i := ⟨_, rfl⟩
      rw [hi] at HPl HD hx
      have HX := Lib.hid hx
      have hil : (i : Int) < (l.length : Int) := by have := (List.getElem?_eq_some_iff.1 hx).1; omega
      clear hg hi hx
      refine (HPl.out).mono ?_
      rintro e w2 ⟨rfl, c2⟩
      have HO2 := Lib.hid (HO0.out.below c2)
      have HU2 := Lib.hid (HU0.out.below c2)
      have HL2 := Lib.hid (OwnR.below HL0.out c2)
      have HB2 := Lib.hid (HB0.out.trans (c2.mono (by have := HB0.out.size; omega)))
      obtain ⟨g, c', e, hg1, hg2, _⟩ := HL2.out.row (by intro e; have := HX.out; rw [e] at this; cases this)
      simp only [Value.slice.injEq] at e
      obtain ⟨rfl, _, rfl⟩ := e
      have hgw := (HLt.out g rfl).2
      have hneU : w.heap.size + 1 ≠ g := by omega
      have hneV : w2.heap.size ≠ g := by omega
      obtain ⟨hA1, _⟩ := HL2.out.cellsAt nd_len HX.out
      obtain ⟨n0, n1, n2, n3, n4, n5, n6, n7⟩ := atN_of hA1
      clear hA1 c2 HPl
      go_wp2_with fail
      have q3 := below_alloc w2 (.cells #[.bool true, .bool true, .int .i64 x.id, .int .i64 x.p, .string x.s, .int .i64 x.mc, .int .i64 x.mr, .string x.d, .int .i64 x.wc, .int .i64 x.wr] 47)
      have hv3 : Cells (w2.alloc (.cells #[.bool true, .bool true, .int .i64 x.id, .int .i64 x.p, .string x.s, .int .i64 x.mc, .int .i64 x.mr, .string x.d, .int .i64 x.wc, .int .i64 x.wr] 47)) w2.heap.size (cellsU ⟨true, true, x⟩) := cells_new w2 (cellsU ⟨true, true, x⟩) 47
      have HO3 := Lib.hid (HO2.out.below q3)
      have HU3 := Lib.hid (HU2.out.below q3)
      have HL3 := Lib.hid (OwnR.below HL2.out q3)
      have HB3 := Lib.hid (HB2.out.trans (q3.mono (by have := HB2.out.size; omega)))
      have HV3 := Lib.hid hv3
      clear q3 hv3 HO2 HU2 HL2 HB2 m0 m1 m2 m3 m4 m5 m6 n0 n1 n2 n3 n4 n5 n6 n7
      generalize w2.alloc (.cells #[.bool true, .bool true, .int .i64 x.id, .int .i64 x.p, .string x.s, .int .i64 x.mc, .int .i64 x.mr, .string x.d, .int .i64 x.wc, .int .i64 x.wr] 47) = w3 at HO3 HU3 HL3 HB3 HV3 ⊢
      obtain ⟨m0, m1, m2, m3, m4, m5, m6⟩ := HO3.out
      obtain ⟨hA1, _⟩ := HL3.out.cellsAt nd_len HX.out
      obtain ⟨n0, n1, n2, n3, n4, n5, n6, n7⟩ := atN_of hA1
      clear hA1
      have hlO := HO3.out.lt
      have hlR := (OwnC.lt HL3.out g rfl).2
      have HCh := Lib.hid (fun w => tchanged_any x o w)
      have hR : ∀ (n : Later w3) b o, b < w3.heap.size → n.w.cell? ⟨b, o, none⟩ = w3.cell? ⟨b, o, none⟩ := fun n b o hb => n.below.cell (p := ⟨b, o, none⟩) hb
      refine wp_region_t 9 (by kernel_rfl) (by kernel_rfl) ?_
      simp only [List.take_succ_cons, List.take_zero, List.drop_succ_cons, List.drop_zero]
      iterate 7 (refine wpL_pure (fun K hK => ?_); go_simp; (try go_ints); refine hK _ ?_; clear hK K)
      refine wpL_pure (fun K hK => ?_)
      go_simp
      apply Exists.intro
      refine ⟨fun m => ?_, hK _ ?_⟩
      · go_at_call 60; exact HCh.out _
      clear hK K
      refine wpL_pure (fun K hK => ?_); go_simp; (try go_ints); refine hK _ ?_; clear hK K
      refine wpL_nil (fun xs nl _ => ?_)
      have HL4 := Lib.hid (OwnR.below HL3.out nl.below)
      have HU4 := Lib.hid (HU3.out.below nl.below)
      have HV4 := Lib.hid (HV3.out.below nl.below)
      have HB4 := Lib.hid (HB3.out.trans (nl.below.mono (by have := HB3.out.size; omega)))
      clear hR m0 m1 m2 m3 m4 m5 m6 n0 n1 n2 n3 n4 n5 n6 n7 HO3 HU3 HL3 HB3 HV3
      generalize nl.w = w4 at HL4 HU4 HV4 HB4 ⊢
      go_wp2_with (refine wpList_store_rec nd_len nd_one rfl rfl 45 _ _ rfl (by kernel_rfl) B g _ _ _ HL4.out i (by omega) (chgN x o) _ rfl rfl rfl ?_)
      intro w5 hl5 c5 s5 r5
      have HL5 := Lib.hid hl5
      have HU5 := Lib.hid (HU4.out.keep (by omega) (r5 _ HU4.out.lt hneU))
      have HV5 := Lib.hid (HV4.out.keep (by omega) (r5 _ HV4.out.lt hneV))
      have HB5 := Lib.hid (HB4.out.trans c5)
      clear hl5 c5 r5 s5 HL4 HU4 HV4 HB4
      go_wp2_with fail
      have hlV := HV5.out.lt
      obtain ⟨u0, u1, u2, u3, u4, u5, u6, u7, u8, u9⟩ := cellU_cells HV5.out
      have hR : ∀ (n : Later w5) b o, b < w5.heap.size → n.w.cell? ⟨b, o, none⟩ = w5.cell? ⟨b, o, none⟩ := fun n b o hb => n.below.cell (p := ⟨b, o, none⟩) hb
      refine wp_region_t 3 (by kernel_rfl) (by kernel_rfl) ?_
      simp only [List.take_succ_cons, List.take_zero, List.drop_succ_cons, List.drop_zero]
      iterate 3 (refine wpL_pure (fun K hK => ?_); go_simp; (try go_ints); refine hK _ ?_; clear hK K)
      refine wpL_nil (fun xs nl _ => ?_)
      have HL6 := Lib.hid (OwnR.below HL5.out nl.below)
      have HU6 := Lib.hid (HU5.out.below nl.below)
      have HB6 := Lib.hid (HB5.out.trans (nl.below.mono (by have := HB5.out.size; omega)))
      clear hR u0 u1 u2 u3 u4 u5 u6 u7 u8 u9 HL5 HU5 HV5 HB5
      generalize nl.w = w6 at HL6 HU6 HB6 ⊢
      obtain ⟨f0, f1, f2, f3, f4, f5, f6, f7, f8, f9⟩ := cellU_frees HU6.out
      obtain ⟨u0, u1, u2, u3, u4, u5, u6, u7, u8, u9⟩ := cellU_cells HU6.out
      go_wp2_with fail
      change bodyPost _ _ _ _ _ (w6.setCells (w.heap.size + 1) 0 (cellsU ⟨true, true, x⟩))
      have hUE := HU6.out.setAll (vs := cellsU ⟨true, true, x⟩) rfl
      obtain ⟨y0, y1, y2, y3, y4, y5, y6, y7, y8, y9⟩ := cellU_cells hUE
      have hfE : OwnNd B (l.set i (chgN x o)) (.slice (some ⟨g, 0, none⟩) l.length c) (w6.setCells (w.heap.size + 1) 0 (cellsU ⟨true, true, x⟩)) := OwnC.own HL6.out (by rw [setCells_heap]; exact Nat.le_refl _) fun q hq => World.heap_setCells_other w6 _ _ _ (OwnC.lt HL6.out q hq).2 (by cases hq; exact fun e => hneU e.symm)
      have bE := below_setCells (B := B) (w.heap.size + 1) (by omega) (cellsU ⟨true, true, x⟩) 0 w6 w HB6.out
      exact bodyPost_ret (v := .tuple #[.slice (some ⟨g, 0, none⟩) l.length c, UV ⟨true, true, x⟩]) (by simp [results, Try.results38, go_sem, y0, y1, y2, y3, y4, y5, y6, y7, y8, y9]) rfl ⟨_, by rw [HD.out], by rw [HD.out]; exact hfE, by exact bE⟩
    | none =>
      have HPl := Lib.hid (tplace_any a c l o.n C (OwnR.isRv nd_len HL0.out) HM.out (by omega))
      rw [hg] at HPl
      have HD := Lib.hid (do_new HM.out HMay.out HNL.out hg)
      have hpl := posN_le l o.n
      obtain ⟨i, hi⟩ : ∃ i, posN l o.n = i := ⟨_, rfl⟩
      rw [hi] at HPl HD hpl
      clear hg hi
      refine (HPl.out).mono ?_
      rintro e w2 ⟨rfl, c2⟩
      have q3 := below_alloc w2 (.cells #[.bool true, .bool false, .int .i64 0, .int .i64 0, .string ⟨#[]⟩, .int .i64 0, .int .i64 0, .string ⟨#[]⟩, .int .i64 0, .int .i64 0] 47)
      have c3 := step_b c2 q3
      have hv3 : Cells (w2.alloc (.cells #[.bool true, .bool false, .int .i64 0, .int .i64 0, .string ⟨#[]⟩, .int .i64 0, .int .i64 0, .string ⟨#[]⟩, .int .i64 0, .int .i64 0] 47)) w2.heap.size (cellsU ⟨true, false, noNod⟩) := cells_new w2 (cellsU ⟨true, false, noNod⟩) 47
      have HO2 := Lib.hid (HO0.out.below c3)
      have HU2 := Lib.hid (HU0.out.below c3)
      have HL2 := Lib.hid (OwnR.below HL0.out c3)
      have HB2 := Lib.hid (HB0.out.trans (c3.mono (by have := HB0.out.size; omega)))
      have HV2 := Lib.hid hv3
      have hs2 := c2.size
      have hs2' := q3.size
      have HLay := Lib.hid (tlay_any B l (newN o) i a c _ HL2.out (by have := HB2.out.size; omega) hpl (by omega))
      obtain ⟨m0, m1, m2, m3, m4, m5, m6⟩ := HO2.out
      have mk := (HO0.out.below c2).2.2.2.1
      clear c2 c3 q3 hv3 HPl
      go_wp2_with fail
      refine (HLay.out).mono ?_
      rintro e w3 ⟨v1, rfl, hl3, c3, r3, hg3⟩
      have hX := mid_get l (newN o) i hpl
      have hXl := mid_len l (newN o) i hpl
      obtain ⟨x, hx⟩ : ∃ x, newN o = x := ⟨_, rfl⟩
      rw [hx] at hl3 HD hX hXl
      obtain ⟨l2, hl2⟩ : ∃ l2, l.take i ++ x :: l.drop i = l2 := ⟨_, rfl⟩
      rw [hl2] at hl3 HD hX hXl
      have HX := Lib.hid hX
      have hown : ∀ q, (Value.slice a l.length c).ownBlock = some q → q < w.heap.size := fun q hq => (HLt.out q hq).2
      have HO3 := Lib.hid (HO2.out.keep (r3.block HO2.out.lt (fun e => by have := hown _ e; omega)))
      have HU3 := Lib.hid (HU2.out.keep r3.1 (r3.block HU2.out.lt (fun e => by have := hown _ e; omega)))
      have HV3 := Lib.hid (HV2.out.keep r3.1 (r3.block HV2.out.lt (fun e => by have := hown _ e; omega)))
      have HB3 := Lib.hid (HB2.out.trans c3)
      have hlt2 := HV2.out.lt
      obtain ⟨g, c', e, hg1, hg2, _⟩ := hl3.row (by intro e; rw [e] at hX; cases hX)
      subst e
      have hgg := hg3 g rfl
      have hneU : w.heap.size + 1 ≠ g := by
        rcases hgg with h | h
        · omega
        · have := hown _ h; omega
      have hneV : w2.heap.size ≠ g := by
        rcases hgg with h | h
        · omega
        · have := hown _ h; omega
      have HL3 := Lib.hid hl3
      have hil : (i : Int) < (l2.length : Int) := by omega
      clear hx hl2 hX hXl hl3 c3 r3 hg3 hown hgg HO2 HU2 HV2 HL2 HB2 HLay m0 m1 m2 m3 m4 m5 m6 mk
      go_wp2_with fail
      obtain ⟨m0, m1, m2, m3, m4, m5, m6⟩ := HO3.out
      obtain ⟨hA1, _⟩ := HL3.out.cellsAt nd_len HX.out
      obtain ⟨n0, n1, n2, n3, n4, n5, n6, n7⟩ := atN_of hA1
      clear hA1
      have hlO := HO3.out.lt
      have hlR := (OwnC.lt HL3.out g rfl).2
      have HCh := Lib.hid (fun w => tchanged_any x o w)
      have hR : ∀ (n : Later w3) b o, b < w3.heap.size → n.w.cell? ⟨b, o, none⟩ = w3.cell? ⟨b, o, none⟩ := fun n b o hb => n.below.cell (p := ⟨b, o, none⟩) hb
      refine wp_region_t 9 (by kernel_rfl) (by kernel_rfl) ?_
      simp only [List.take_succ_cons, List.take_zero, List.drop_succ_cons, List.drop_zero]
      iterate 7 (refine wpL_pure (fun K hK => ?_); go_simp; (try go_ints); refine hK _ ?_; clear hK K)
      refine wpL_pure (fun K hK => ?_)
      go_simp
      apply Exists.intro
      refine ⟨fun m => ?_, hK _ ?_⟩
      · go_at_call 60; exact HCh.out _
      clear hK K
      refine wpL_pure (fun K hK => ?_); go_simp; (try go_ints); refine hK _ ?_; clear hK K
      refine wpL_nil (fun xs nl _ => ?_)
      have HL4 := Lib.hid (OwnR.below HL3.out nl.below)
      have HU4 := Lib.hid (HU3.out.below nl.below)
      have HV4 := Lib.hid (HV3.out.below nl.below)
      have HB4 := Lib.hid (HB3.out.trans (nl.below.mono (by have := HB3.out.size; omega)))
      clear hR m0 m1 m2 m3 m4 m5 m6 n0 n1 n2 n3 n4 n5 n6 n7 HO3 HU3 HL3 HB3 HV3
      generalize nl.w = w4 at HL4 HU4 HV4 HB4 ⊢
      go_wp2_with (refine wpList_store_rec nd_len nd_one rfl rfl 45 _ _ rfl (by kernel_rfl) B g _ _ _ HL4.out i (by omega) (chgN x o) _ rfl rfl rfl ?_)
      intro w5 hl5 c5 s5 r5
      have HL5 := Lib.hid hl5
      have HU5 := Lib.hid (HU4.out.keep (by omega) (r5 _ HU4.out.lt hneU))
      have HV5 := Lib.hid (HV4.out.keep (by omega) (r5 _ HV4.out.lt hneV))
      have HB5 := Lib.hid (HB4.out.trans c5)
      clear hl5 c5 r5 s5 HL4 HU4 HV4 HB4
      go_wp2_with fail
      have hlV := HV5.out.lt
      obtain ⟨u0, u1, u2, u3, u4, u5, u6, u7, u8, u9⟩ := cellU_cells HV5.out
      have hR : ∀ (n : Later w5) b o, b < w5.heap.size → n.w.cell? ⟨b, o, none⟩ = w5.cell? ⟨b, o, none⟩ := fun n b o hb => n.below.cell (p := ⟨b, o, none⟩) hb
      refine wp_region_t 3 (by kernel_rfl) (by kernel_rfl) ?_
      simp only [List.take_succ_cons, List.take_zero, List.drop_succ_cons, List.drop_zero]
      iterate 3 (refine wpL_pure (fun K hK => ?_); go_simp; (try go_ints); refine hK _ ?_; clear hK K)
      refine wpL_nil (fun xs nl _ => ?_)
      have HL6 := Lib.hid (OwnR.below HL5.out nl.below)
      have HU6 := Lib.hid (HU5.out.below nl.below)
      have HB6 := Lib.hid (HB5.out.trans (nl.below.mono (by have := HB5.out.size; omega)))
      clear hR u0 u1 u2 u3 u4 u5 u6 u7 u8 u9 HL5 HU5 HV5 HB5
      generalize nl.w = w6 at HL6 HU6 HB6 ⊢
      obtain ⟨f0, f1, f2, f3, f4, f5, f6, f7, f8, f9⟩ := cellU_frees HU6.out
      obtain ⟨u0, u1, u2, u3, u4, u5, u6, u7, u8, u9⟩ := cellU_cells HU6.out
      go_wp2_with fail
      change bodyPost _ _ _ _ _ (w6.setCells (w.heap.size + 1) 0 (cellsU ⟨true, false, noNod⟩))
      have hUE := HU6.out.setAll (vs := cellsU ⟨true, false, noNod⟩) rfl
      obtain ⟨y0, y1, y2, y3, y4, y5, y6, y7, y8, y9⟩ := cellU_cells hUE
      have hfE : OwnNd B (l2.set i (chgN x o)) (.slice (some ⟨g, 0, none⟩) l2.length c') (w6.setCells (w.heap.size + 1) 0 (cellsU ⟨true, false, noNod⟩)) := OwnC.own HL6.out (by rw [setCells_heap]; exact Nat.le_refl _) fun q hq => World.heap_setCells_other w6 _ _ _ (OwnC.lt HL6.out q hq).2 (by cases hq; exact fun e => hneU e.symm)
      have bE := below_setCells (B := B) (w.heap.size + 1) (by omega) (cellsU ⟨true, false, noNod⟩) 0 w6 w HB6.out
      exact bodyPost_ret (v := .tuple #[.slice (some ⟨g, 0, none⟩) l2.length c', UV ⟨true, false, noNod⟩]) (by simp [results, Try.results38, go_sem, y0, y1, y2, y3, y4, y5, y6, y7, y8, y9]) rfl ⟨_, by rw [HD.out], by rw [HD.out]; exact hfE, by exact bE⟩
end Go.Proofs.Ytnndanpahcdmaaa
