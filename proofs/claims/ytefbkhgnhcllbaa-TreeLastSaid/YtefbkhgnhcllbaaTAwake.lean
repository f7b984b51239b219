/-
  awake() answers true.
-/
import Derived.Test.YtefbkhgnhcllbaaTOpen
import Derived.KernelRfl
namespace Go.Proofs.Ytefbkhgnhcllbaa
open Go.RowKit Go.Lib
def awA : Opn := ⟨1, 0, 1, 128, 0, ⟨#[120]⟩, ⟨#[]⟩⟩
def awB : Opn := ⟨2, 0, 1, 256, 128, ⟨#[120]⟩, ⟨#[]⟩⟩
def awC : Opn := ⟨3, 0, 1, 128, 256, ⟨#[120]⟩, ⟨#[]⟩⟩
def awW : Opn := ⟨4, 0, 2, 385, 0, ⟨#[]⟩, ⟨#[100]⟩⟩
def aw0 : Opn := ⟨0, 0, 0, 385, 0, ⟨#[]⟩, ⟨#[]⟩⟩
def n1 : Nod := ⟨128, 0, ⟨#[120]⟩, 1, 0, ⟨#[]⟩, 0, 0⟩
def n2 : Nod := ⟨256, 128, ⟨#[120]⟩, 2, 0, ⟨#[]⟩, 0, 0⟩
def n3 : Nod := ⟨385, -1, ⟨#[]⟩, 0, 0, ⟨#[100]⟩, 4, 0⟩
def nBad : Nod := ⟨2, 0, ⟨#[]⟩, 0, 0, ⟨#[]⟩, 0, 0⟩
set_option maxRecDepth 100000 in
theorem e_fold : foldN [awB, awA] = [n1, n2] := by kernel_rfl
set_option maxRecDepth 100000 in
theorem e_same : doN [n1, n2] awC = ([n1, n2], noUnd) := by kernel_rfl
set_option maxRecDepth 100000 in
theorem e_more : doN [n1, n2] awW = ([n1, n2, n3], ⟨true, false, noNod⟩) := by kernel_rfl
set_option maxRecDepth 100000 in
theorem e_find : findN [n1, n2] 256 = some n2 := by kernel_rfl
set_option maxRecDepth 100000 in
theorem e_no : findN [n1, n2] 257 = none := by kernel_rfl
set_option maxRecDepth 100000 in
theorem e_findm : findN [n1, n2, n3] 385 = some n3 := by kernel_rfl
set_option maxRecDepth 100000 in
theorem e_above : aboveN [n1, n2] 256 = [128, 0] := by kernel_rfl
set_option maxRecDepth 100000 in
theorem e_back : backN [n1, n2, n3] aw0 ⟨true, false, noNod⟩ = [n1, n2] := by kernel_rfl
set_option maxRecDepth 100000 in
theorem e_chk : chkN [n1, n2] = true := by kernel_rfl
set_option maxRecDepth 100000 in
theorem e_bad : chkN [nBad] = false := by kernel_rfl
set_option maxRecDepth 100000 in
theorem aw_fold (w : World) {a : Option Addr} {c : Nat} (h : IsOp w a c [awB, awA]) :
    Calls Try.prog 25 #[.slice a 2 c] w (NodsPost [n1, n2] w) := by
  have := tfold_any a c [awB, awA] w h (by decide) (by intro o ho; simp only [List.mem_cons, List.not_mem_nil, or_false] at ho; rcases ho with rfl | rfl <;> exact ⟨by decide, by decide⟩) (by decide)
  rw [e_fold] at this
  exact this
set_option maxRecDepth 100000 in
theorem aw_same (w : World) {a : Option Addr} {c : Nat} (h : IsNd w a c [n1, n2]) :
    Calls Try.prog 13 #[.slice a 2 c, OV awC] w (DoPost ([n1, n2], noUnd) w) := by
  have := tdo_any a c [n1, n2] awC w h (by decide) (by decide) (by decide) (by decide) (by decide)
  rw [e_same] at this
  exact this
set_option maxRecDepth 100000 in
theorem aw_more (w : World) {a : Option Addr} {c : Nat} (h : IsNd w a c [n1, n2]) :
    Calls Try.prog 13 #[.slice a 2 c, OV awW] w (DoPost ([n1, n2, n3], ⟨true, false, noNod⟩) w) := by
  have := tdo_any a c [n1, n2] awW w h (by decide) (by decide) (by decide) (by decide) (by decide)
  rw [e_more] at this
  exact this
set_option maxRecDepth 100000 in
theorem aw_find (w : World) {a : Option Addr} {c : Nat} (h : IsNd w a c [n1, n2]) :
    Calls Try.prog 15 #[.slice a 2 c, .int .i64 256] w fun e w' => e = .returned (.tuple #[NV n2, .bool true]) ∧ Below w.heap.size w w' := by
  have := tfind_some (l := [n1, n2]) (i := 256) (x := n2) w h (by decide) e_find (by decide) (by decide)
  exact this
set_option maxRecDepth 100000 in
theorem aw_no (w : World) {a : Option Addr} {c : Nat} (h : IsNd w a c [n1, n2]) :
    Calls Try.prog 15 #[.slice a 2 c, .int .i64 257] w fun e w' => e = .returned (.tuple #[NV noNod, .bool false]) ∧ Below w.heap.size w w' := by
  have := tfind_none (l := [n1, n2]) (i := 257) w h (by decide) e_no (by decide) (by decide)
  exact this
set_option maxRecDepth 100000 in
theorem aw_findm (w : World) {a : Option Addr} {c : Nat} (h : IsNd w a c [n1, n2, n3]) :
    Calls Try.prog 15 #[.slice a 3 c, .int .i64 385] w fun e w' => e = .returned (.tuple #[NV n3, .bool true]) ∧ Below w.heap.size w w' := by
  have := tfind_some (l := [n1, n2, n3]) (i := 385) (x := n3) w h (by decide) e_findm (by decide) (by decide)
  exact this
/-- A list of numbers is answered, all older memory is as it was. -/
def IntsPost (r : List Int) (w : World) (e : Ending) (w' : World) : Prop := ∃ a c, e = .returned (.slice a r.length c) ∧ IsInt w' a c r ∧ Below w.heap.size w w'
set_option maxRecDepth 100000 in
theorem ints_of {r : List Int} {w w' : World} {e : Ending} (h : UpPost r w e w') : IntsPost r w e w' := by
  obtain ⟨v, rfl, ho, hb⟩ := h
  obtain ⟨a, c, rfl, hi⟩ := ho.isR ci_len
  exact ⟨a, c, rfl, hi, hb⟩
set_option maxRecDepth 100000 in
theorem aw_above (w : World) {a : Option Addr} {c : Nat} (h : IsNd w a c [n1, n2]) :
    Calls Try.prog 20 #[.slice a 2 c, .int .i64 256] w (IntsPost [128, 0] w) := by
  have := tabove_any a c [n1, n2] 256 w h (by decide) (by decide) (by decide)
  rw [e_above] at this
  exact this.mono fun e w' h => ints_of h
set_option maxRecDepth 100000 in
theorem aw_back (w : World) {a : Option Addr} {c : Nat} (h : IsNd w a c [n1, n2, n3]) :
    Calls Try.prog 23 #[.slice a 3 c, OV aw0, UV ⟨true, false, noNod⟩] w (NodsPost [n1, n2] w) := by
  have := tback_any a c [n1, n2, n3] aw0 ⟨true, false, noNod⟩ w h (by decide) (by decide) (by decide) (by decide)
  rw [e_back] at this
  exact this
set_option maxRecDepth 100000 in
theorem aw_chk (w : World) {a : Option Addr} {c : Nat} (h : IsNd w a c [n1, n2]) :
    Calls Try.prog 17 #[.slice a 2 c] w fun e w' => e = .returned (.bool true) ∧ Below w.heap.size w w' := by
  have := tchk_any a c [n1, n2] w h (by decide) (by decide)
  rw [e_chk] at this
  exact this
set_option maxRecDepth 100000 in
theorem aw_bad (w : World) {a : Option Addr} {c : Nat} (h : IsNd w a c [nBad]) :
    Calls Try.prog 17 #[.slice a 1 c] w fun e w' => e = .returned (.bool false) ∧ Below w.heap.size w w' := by
  have := tchk_any a c [nBad] w h (by decide) (by decide)
  rw [e_bad] at this
  exact this
set_option maxRecDepth 100000 in
theorem aw_samen (w : World) {a b : Option Addr} {c d : Nat} (ha : IsNd w a c [n1, n2]) (hb : IsNd w b d [n1, n2]) :
    Calls Try.prog 22 #[.slice a 2 c, .slice b 2 d] w fun e w' => e = .returned (.bool true) ∧ Below w.heap.size w w' := by
  have := rnsame_any a b c d [n1, n2] [n1, n2] w ha hb (by decide)
  rw [show sameN [n1, n2] [n1, n2] = true from decide_eq_true rfl] at this
  exact this
set_option maxRecDepth 100000 in
theorem aw_nums (w : World) {a b : Option Addr} {c d : Nat} (ha : IsInt w a c [128, 0]) (hb : IsInt w b d [128, 0]) :
    Calls Try.prog 19 #[.slice a 2 c, .slice b 2 d] w fun e w' => e = .returned (.bool true) ∧ Below w.heap.size w w' := by
  have := rnums_any a b c d [128, 0] [128, 0] w ha hb (by decide)
  rw [show sameI [128, 0] [128, 0] = true from decide_eq_true rfl] at this
  exact this
set_option maxRecDepth 100000 in
theorem move_is (c n p : Int) (w : World) :
    Calls Try.prog 31 #[.int .i64 c, .int .i64 n, .int .i64 p] w fun e w' => e = .returned (OV ⟨c, 0, 1, n, p, ⟨#[120]⟩, ⟨#[]⟩⟩) ∧ Below w.heap.size w w' := by
  go_enter Try.func31, Try.ntmps31
  go_wp2_with fail
  refine bodyPost_ret (v := OV ⟨c, 0, 1, n, p, ⟨#[120]⟩, ⟨#[]⟩⟩) (by simp [results, Try.results31, go_sem]) rfl ⟨rfl, ?_⟩
  exact below_alloc _ _
set_option maxRecDepth 100000 in
theorem isR_new {α : Type} {f : α → List Value} {k : Nat} (hf : ∀ x, (f x).length = k) (W : World) (n : Nat) (hn : W.heap.size = n) (l : List α) (hl : l.length ≤ 1000) (cs : Array Value) (hcs : cs.toList = cellsR f l) (t : TypeId) : IsR f k (W.alloc (.cells cs t)) (some ⟨n, 0, none⟩) l.length l := by
  subst hn
  obtain ⟨a, c, e, h⟩ := (ownR_made hf t W 0 (Nat.zero_le _) l hl cs hcs).isR hf
  simp only [Value.slice.injEq, true_and] at e
  obtain ⟨rfl, rfl⟩ := e
  exact h
set_option maxRecDepth 100000 in
theorem isOp_aw (W : World) (n : Nat) (hn : W.heap.size = n) : IsOp (W.alloc (.cells #[.int .i64 2, .int .i64 0, .int .i64 1, .int .i64 256, .int .i64 128, .string ⟨#[120]⟩, .string ⟨#[]⟩, .int .i64 1, .int .i64 0, .int .i64 1, .int .i64 128, .int .i64 0, .string ⟨#[120]⟩, .string ⟨#[]⟩] 26)) (some ⟨n, 0, none⟩) 2 [awB, awA] :=
  isR_new op_len W n hn [awB, awA] (by decide) _ rfl _
set_option maxRecDepth 100000 in
theorem isInt_aw (W : World) (n : Nat) (hn : W.heap.size = n) : IsInt (W.alloc (.cells #[.int .i64 128, .int .i64 0] 3)) (some ⟨n, 0, none⟩) 2 [128, 0] :=
  isR_new ci_len W n hn [128, 0] (by decide) _ rfl _
set_option maxRecDepth 100000 in
theorem isBad_aw (W : World) (n : Nat) (hn : W.heap.size = n) : IsNd (W.alloc (.cells #[.int .i64 2, .int .i64 0, .string ⟨#[]⟩, .int .i64 0, .int .i64 0, .string ⟨#[]⟩, .int .i64 0, .int .i64 0] 28)) (some ⟨n, 0, none⟩) 1 [nBad] :=
  isR_new nd_len W n hn [nBad] (by decide) _ rfl _
set_option maxRecDepth 100000 in
theorem cells_at (W : World) (n : Nat) (hn : W.heap.size = n) (vs : List Value) (t : TypeId) : Cells (W.alloc (.cells vs.toArray t)) n vs := by
  subst hn
  exact cells_new W vs t
set_option maxRecDepth 100000 in
set_option maxHeartbeats 1600000 in
theorem awake_any (w : World) : Calls Try.prog 10 #[] w fun e w' => e = .returned (.bool true) ∧ Below w.heap.size w w' := by
  go_enter Try.func10, Try.ntmps10
  go_wp2_with fail
  refine (move_is 1 128 0 w).mono ?_
  rintro e w1 ⟨rfl, b1⟩
  go_wp2_with fail
  refine (move_is 2 256 128 _).mono ?_
  rintro e w2 ⟨rfl, c2⟩
  have b2 := step_a b1 c2
  have CA2 := Lib.hid (show Cells w2 w1.heap.size (cellsOp awA) from (cells_new w1 (cellsOp awA) 26).below c2)
  have k0 := fun X => (CA2.out.below (below_alloc w2 X)).cell 0 _ rfl
  have k1 := fun X => (CA2.out.below (below_alloc w2 X)).cell 1 _ rfl
  have k2 := fun X => (CA2.out.below (below_alloc w2 X)).cell 2 _ rfl
  have k3 := fun X => (CA2.out.below (below_alloc w2 X)).cell 3 _ rfl
  have k4 := fun X => (CA2.out.below (below_alloc w2 X)).cell 4 _ rfl
  have k5 := fun X => (CA2.out.below (below_alloc w2 X)).cell 5 _ rfl
  have k6 := fun X => (CA2.out.below (below_alloc w2 X)).cell 6 _ rfl
  clear c2
  go_wp2_with fail
  refine (aw_fold _ (isOp_aw _ _ (by simp))).mono ?_
  rintro e w3 ⟨a, c, rfl, hl, c3⟩
  have b3 := step_a (b2.alloc b2.size _) c3
  have H3 := Lib.hid hl
  clear k0 k1 k2 k3 k4 k5 k6 c3 hl b1 b2 CA2
  go_wp2_with fail
  refine (move_is 3 128 256 _).mono ?_
  rintro e w4 ⟨rfl, c4⟩
  have b4 := step_b b3 c4
  have H4 := Lib.hid (H3.out.below c4)
  clear c4 b3 H3
  go_wp2_with fail
  refine (aw_same _ H4.out).mono ?_
  rintro e w5 ⟨a5, d5, rfl, hs5, c5⟩
  have b5 := step_b b4 c5
  have H5 := Lib.hid (H4.out.below c5)
  have S5 := Lib.hid hs5
  clear c5 b4 H4 hs5
  go_wp2_with fail
  refine (aw_more _ (H5.out.below (below_alloc _ _))).mono ?_
  rintro e w6 ⟨a6, d6, rfl, hs6, c6⟩
  have b6 := step_a b5 c6
  have C5 := Lib.hid (show Cells w6 w5.heap.size (cellsU noUnd) from (cells_new w5 (cellsU noUnd) 30).below c6)
  have H6 := Lib.hid ((H5.out.below (below_alloc _ _)).below c6)
  have S6 := Lib.hid ((S5.out.below (below_alloc _ _)).below c6)
  have M6 := Lib.hid hs6
  clear c6 b5 H5 S5 hs6
  go_wp2_with fail
  refine (aw_find _ (H6.out.below (below_alloc _ _))).mono ?_
  rintro e w7 ⟨rfl, c7⟩
  have b7 := step_a b6 c7
  have C7 := Lib.hid (show Cells w7 w6.heap.size (cellsU ⟨true, false, noNod⟩) from (cells_new w6 (cellsU ⟨true, false, noNod⟩) 30).below c7)
  have D5 := Lib.hid ((C5.out.below (below_alloc _ _)).below c7)
  have H7 := Lib.hid ((H6.out.below (below_alloc _ _)).below c7)
  have S7 := Lib.hid ((S6.out.below (below_alloc _ _)).below c7)
  have M7 := Lib.hid ((M6.out.below (below_alloc _ _)).below c7)
  clear c7 b6 H6 S6 M6 C5
  go_wp2_with fail
  refine (aw_no _ (H7.out.below (below_alloc _ _))).mono ?_
  rintro e w8 ⟨rfl, c8⟩
  have b8 := step_a b7 c8
  have C8 := Lib.hid (show Cells w8 w7.heap.size (cellsNd n2) from (cells_new w7 (cellsNd n2) 28).below c8)
  have E5 := Lib.hid ((D5.out.below (below_alloc _ _)).below c8)
  have E7 := Lib.hid ((C7.out.below (below_alloc _ _)).below c8)
  have H8 := Lib.hid ((H7.out.below (below_alloc _ _)).below c8)
  have S8 := Lib.hid ((S7.out.below (below_alloc _ _)).below c8)
  have M8 := Lib.hid ((M7.out.below (below_alloc _ _)).below c8)
  clear c8 b7 H7 S7 M7 D5 C7
  go_wp2_with fail
  refine (aw_findm _ (M8.out.below (below_alloc _ _))).mono ?_
  rintro e w9 ⟨rfl, c9⟩
  have b9 := step_a b8 c9
  have F5 := Lib.hid ((E5.out.below (below_alloc _ _)).below c9)
  have F7 := Lib.hid ((E7.out.below (below_alloc _ _)).below c9)
  have F8 := Lib.hid ((C8.out.below (below_alloc _ _)).below c9)
  have H9 := Lib.hid ((H8.out.below (below_alloc _ _)).below c9)
  have S9 := Lib.hid ((S8.out.below (below_alloc _ _)).below c9)
  have M9 := Lib.hid ((M8.out.below (below_alloc _ _)).below c9)
  clear c9 b8 H8 S8 M8 E5 E7 C8
  go_wp2_with fail
  refine (aw_above _ (H9.out.below (below_alloc _ _))).mono ?_
  rintro e w10 ⟨a10, d10, rfl, hi10, c10⟩
  have b10 := step_a b9 c10
  have G12 := Lib.hid (show Cells w10 w9.heap.size (cellsNd n3) from (cells_new w9 (cellsNd n3) 28).below c10)
  have G5 := Lib.hid ((F5.out.below (below_alloc _ _)).below c10)
  have G7 := Lib.hid ((F7.out.below (below_alloc _ _)).below c10)
  have G8 := Lib.hid ((F8.out.below (below_alloc _ _)).below c10)
  have H10 := Lib.hid ((H9.out.below (below_alloc _ _)).below c10)
  have S10 := Lib.hid ((S9.out.below (below_alloc _ _)).below c10)
  have M10 := Lib.hid ((M9.out.below (below_alloc _ _)).below c10)
  have I10 := Lib.hid hi10
  clear c10 b9 H9 S9 M9 F5 F7 F8 hi10
  go_wp2_with fail
  refine (aw_nums _ (I10.out.below (below_alloc _ _)) (isInt_aw _ _ rfl)).mono ?_
  rintro e w11 ⟨rfl, c11⟩
  have b11 := step_a b10 c11
  have c11' := (below_alloc w10 (.cells #[.int .i64 128, .int .i64 0] 3)).trans (c11.mono (by simp))
  have K12 := Lib.hid (G12.out.below c11')
  have K5 := Lib.hid (G5.out.below c11')
  have K7 := Lib.hid (G7.out.below c11')
  have K8 := Lib.hid (G8.out.below c11')
  have H11 := Lib.hid (H10.out.below c11')
  have S11 := Lib.hid (S10.out.below c11')
  have M11 := Lib.hid (M10.out.below c11')
  clear c11 c11' b10 H10 S10 M10 G12 G5 G7 G8 I10
  go_wp2_with fail
  refine (aw_samen _ S11.out H11.out).mono ?_
  rintro e w12 ⟨rfl, c12⟩
  have b12 := step_b b11 c12
  have H12 := Lib.hid (H11.out.below c12)
  have M12 := Lib.hid (M11.out.below c12)
  obtain ⟨u0, u1, u2, u3, u4, u5, u6, u7, u8, u9⟩ := cellU_cells (K5.out.below c12)
  obtain ⟨v0, v1, v2, v3, v4, v5, v6, v7, v8, v9⟩ := cellU_cells (K7.out.below c12)
  obtain ⟨x0, x1, x2, x3, x4, x5, x6, x7⟩ := cellN_cells (K8.out.below c12)
  obtain ⟨y0, y1, y2, y3, y4, y5, y6, y7⟩ := cellN_cells (K12.out.below c12)
  dsimp only [noUnd, noNod, n2, n3] at u0 u1 u2 u3 u4 u5 u6 u7 u8 u9 v0 v1 v2 v3 v4 v5 v6 v7 v8 v9 x0 x1 x2 x3 x4 x5 x6 x7 y0 y1 y2 y3 y4 y5 y6 y7
  clear c12 b11 H11 S11 M11 K12 K5 K7 K8
  go_wp2_with fail
  refine (aw_back _ M12.out).mono ?_
  rintro e w13 ⟨a13, d13, rfl, h13, c13⟩
  have b13 := step_b b12 c13
  have H13 := Lib.hid (H12.out.below c13)
  have K13 := Lib.hid h13
  clear c13 b12 H12 M12 h13 u0 u1 u2 u3 u4 u5 u6 u7 u8 u9 v0 v1 v2 v3 v4 v5 v6 v7 v8 v9 x0 x1 x2 x3 x4 x5 x6 x7 y0 y1 y2 y3 y4 y5 y6 y7
  go_wp2_with fail
  refine (aw_samen _ K13.out H13.out).mono ?_
  rintro e w14 ⟨rfl, c14⟩
  have b14 := step_b b13 c14
  have H14 := Lib.hid (H13.out.below c14)
  clear c14 b13 K13 H13
  go_wp2_with fail
  refine (aw_chk _ H14.out).mono ?_
  rintro e w15 ⟨rfl, c15⟩
  have b15 := step_b b14 c15
  clear c15 b14 H14
  go_wp2_with fail
  refine (aw_bad _ (isBad_aw _ _ rfl)).mono ?_
  rintro e w16 ⟨rfl, c16⟩
  have b16 := step_a b15 c16
  clear c16 b15
  go_wp2_with fail
  go_ret
  exact ⟨rfl, b16⟩
end Go.Proofs.Ytefbkhgnhcllbaa
