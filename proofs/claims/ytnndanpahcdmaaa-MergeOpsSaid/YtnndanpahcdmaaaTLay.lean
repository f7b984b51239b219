/-
  The landed package tree: nodes in memory of their own, one laid between, and changed.
-/
import Derived.Test.YtnndanpahcdmaaaTPlace
import Derived.Deep.RegionHeld3
namespace Go.Proofs.Ytnndanpahcdmaaa
open Go.RowKit Go.Lib
theorem overR_all {α : Type} {l m : List α} (h : m.length = l.length) : overR l m 0 = m := by
  unfold overR
  simp only [List.take_zero, List.nil_append, Nat.zero_add]
  rw [List.drop_of_length_le (by omega), List.append_nil]
theorem isR_pos {α : Type} {f : α → List Value} {k : Nat} (hf : ∀ x, (f x).length = k) {w : World} {a : Option Addr} {c : Nat} {l : List α} (h : IsR f k w a c l) : 0 < l.length → ∃ ad, a = some ad ∧ ∀ j u, (cellsR f l)[j]? = some u → w.cell? (ad.add j) = some u := fun hp => by
  cases a with
  | none => have := h.1; have := h.2.1 rfl; omega
  | some ad => exact ⟨ad, rfl, isR_src hf h⟩
set_option maxRecDepth 100000 in
set_option maxHeartbeats 4000000 in
theorem town_any (a : Option Addr) (c : Nat) (l : List Nod) (w : World) (h : IsNd w a c l) (hl : l.length ≤ 100000) :
    Calls Try.prog 37 #[.slice a l.length c] w (NdPost l w) := by
  obtain ⟨ii, hi, hz, hsz, hby⟩ := info_parts infoN
  have hh := Lib.hid h
  have h63 : l.length + 1 ≤ maxLen := by unfold maxLen; omega
  go_enter Try.func37, Try.ntmps37
  go_wp2_with (at_make; refine wpList_make_rec nd_len rfl _ _ 30 rfl 45 ii _ 80 Try.underlying30 hi hz hsz hby noNod rfl _ _ _ _ l.length (l.length + 1) rfl rfl rfl (by omega) (by omega) (by omega) h63 w.heap.size (Nat.le_refl _) ?_)
  intro w1 ho c1 _
  have hS := Lib.hid (isR_pos nd_len (hh.out.below c1))
  have HZ := Lib.hid (show (List.replicate l.length noNod).length = l.length from List.length_replicate)
  go_wp2_with (refine wpList_copy_rec nd_len nd_one rfl _ _ 30 30 rfl 45 Try.underlying30 (by kernel_rfl) w.heap.size _ _ _ _ l ho 0 (by rw [HZ.out]; omega) _ _ _ _ _ _ rfl rfl (by simp) (fun hp => ⟨rfl, hS.out hp⟩) c1.size ?_)
  intro w2 ho2 c2
  rw [overR_all (by rw [HZ.out])] at ho2
  have HO := Lib.hid ho2
  clear ho ho2
  go_wp2_with fail
  go_ret
  exact ⟨_, rfl, HO.out, c1.trans c2⟩
theorem CellsD {w : World} {g : Nat} {vs : List Value} (h : Cells w g vs) : Cells w.drew g vs := ⟨h.lt, h.cell, h.free⟩
theorem BelowD {B : Nat} {w w' : World} (h : Below B w w') : Below B w w'.drew := ⟨h.os, h.tape, h.output, h.size, h.block⟩
/-- A node as an operation leaves it. -/
def chgN (n : Nod) (o : Opn) : Nod := if o.k = 1 then { n with p := o.p, s := o.s, mc := o.c, mr := o.r } else { n with d := o.d, wc := o.c, wr := o.r }
set_option maxRecDepth 100000 in
set_option maxHeartbeats 4000000 in
theorem tchanged_any (n : Nod) (o : Opn) (w : World) :
    Calls Try.prog 60 #[NV n, OV o] w fun e w' => e = .returned (NV (chgN n o)) ∧ Below w.heap.size w w' := by
  obtain ⟨A, hA⟩ : ∃ A, A = w.alloc (.cells #[.int .i64 n.id, .int .i64 n.p, .string n.s, .int .i64 n.mc, .int .i64 n.mr, .string n.d, .int .i64 n.wc, .int .i64 n.wr] 45) := ⟨_, rfl⟩
  obtain ⟨B, hB⟩ : ∃ B, B = A.alloc (.cells #[.int .i64 o.c, .int .i64 o.r, .int .i64 o.k, .int .i64 o.n, .int .i64 o.p, .string o.s, .string o.d] 26) := ⟨_, rfl⟩
  obtain ⟨C, hC⟩ : ∃ C, C = B.alloc (.cells #[.int .i64 0, .int .i64 0, .string ⟨#[]⟩, .int .i64 0, .int .i64 0, .string ⟨#[]⟩, .int .i64 0, .int .i64 0] 45) := ⟨_, rfl⟩
  have sA : A.heap.size = w.heap.size + 1 := by rw [hA]; simp
  have sB : B.heap.size = w.heap.size + 2 := by rw [hB]; simp [sA]
  have sC : C.heap.size = w.heap.size + 3 := by rw [hC]; simp [sB]
  have qA : Below w.heap.size w A := by rw [hA]; exact below_alloc _ _
  have qB : Below A.heap.size A B := by rw [hB]; exact below_alloc _ _
  have qC : Below B.heap.size B C := by rw [hC]; exact below_alloc _ _
  have b0 := step_b (step_b qA qB) qC
  have HN : CellN C w.heap.size n := ((by rw [hA]; exact cells_new w (cellsNd n) 45 : CellN A w.heap.size n).below qB).below qC
  have HO : HasO C (w.heap.size + 1) o := by
    have h1 : HasO B A.heap.size o := by rw [hB]; exact hasO_new A o 26
    rw [sA] at h1
    exact h1.below qC
  have HR : CellN C (w.heap.size + 1 + 1) noNod := by
    have h1 : CellN C B.heap.size noNod := by rw [hC]; exact cells_new B (cellsNd noNod) 45
    rwa [sB] at h1
  obtain ⟨m0, m1, m2, m3, m4, m5, m6⟩ := HO
  obtain ⟨z0, z1, z2, z3, z4, z5, z6, z7⟩ := cellN_cells HN
  obtain ⟨f0, f1, f2, f3, f4, f5, f6, f7⟩ := cellN_frees HN
  obtain ⟨r0, r1, r2, r3, r4, r5, r6, r7⟩ := cellN_cells HR
  obtain ⟨e0, e1, e2, e3, e4, e5, e6, e7⟩ := cellN_frees HR
  have HHN := Lib.hid HN
  have HHR := Lib.hid HR
  have l0 : w.heap.size < C.heap.size := by omega
  have l1 : w.heap.size + 1 < C.heap.size := by omega
  clear HN HR sA sB sC qA qB qC
  go_enter Try.func60, Try.ntmps60
  by_cases hk : o.k = 1
  · have hk1 : (o.k == 1) = true := by rw [beq_iff_eq]; exact hk
    have HK := Lib.hid (show chgN n o = { n with p := o.p, s := o.s, mc := o.c, mr := o.r } by unfold chgN; rw [if_pos hk])
    clear hk
    go_wp2_with fail
    rw [← hA, ← hB, ← hC]
    clear hA hB hC
    have hne1 : ¬ (w.heap.size + 1 = w.heap.size) := by omega
    have hne2 : ¬ (w.heap.size = w.heap.size + 1) := by omega
    have hne3 : w.heap.size ≠ w.heap.size + 1 + 1 := by omega
    go_region_held3 (fun w' => w'.cell? ⟨w.heap.size + 1, 0, none⟩ = some (.int .i64 o.c) ∧ w'.cell? ⟨w.heap.size + 1, 1, none⟩ = some (.int .i64 o.r) ∧ w'.cell? ⟨w.heap.size + 1, 3, none⟩ = some (.int .i64 o.n) ∧ w'.cell? ⟨w.heap.size + 1, 4, none⟩ = some (.int .i64 o.p) ∧ w'.cell? ⟨w.heap.size + 1, 5, none⟩ = some (.string o.s)) (go_keep) (fail)
    have b1 := (BelowD ((((b0.setCell (p := ⟨w.heap.size, 1, none⟩) (Nat.le_refl _) (.int .i64 o.p)).setCell (p := ⟨w.heap.size, 2, none⟩) (Nat.le_refl _) (.string o.s)).setCell (p := ⟨w.heap.size, 3, none⟩) (Nat.le_refl _) (.int .i64 o.c)).setCell (p := ⟨w.heap.size, 4, none⟩) (Nat.le_refl _) (.int .i64 o.r)))
    have HN1 : CellN _ _ { n with p := o.p, s := o.s, mc := o.c, mr := o.r } := CellsD ((((HHN.out.set 1 (by simp [cellsNd]) (.int .i64 o.p)).set 2 (by simp [cellsNd]) (.string o.s)).set 3 (by simp [cellsNd]) (.int .i64 o.c)).set 4 (by simp [cellsNd]) (.int .i64 o.r))
    have HR1 : CellN _ _ noNod := CellsD ((((HHR.out.other hne3 1 (.int .i64 o.p)).other hne3 2 (.string o.s)).other hne3 3 (.int .i64 o.c)).other hne3 4 (.int .i64 o.r))
    generalize ((((C.setCell ⟨w.heap.size, 1, none⟩ (.int .i64 o.p)).setCell ⟨w.heap.size, 2, none⟩ (.string o.s)).setCell ⟨w.heap.size, 3, none⟩ (.int .i64 o.c)).setCell ⟨w.heap.size, 4, none⟩ (.int .i64 o.r)).drew = D at b1 HN1 HR1 ⊢
    clear z0 z1 z2 z3 z4 z5 z6 z7 f0 f1 f2 f3 f4 f5 f6 f7 r0 r1 r2 r3 r4 r5 r6 r7 e0 e1 e2 e3 e4 e5 e6 e7 m0 m1 m2 m3 m4 m5 m6 HHN HHR hne1 hne2
    have HK2 := HK.out
    generalize { n with p := o.p, s := o.s, mc := o.c, mr := o.r } = y at HN1 HK2
    obtain ⟨z0, z1, z2, z3, z4, z5, z6, z7⟩ := cellN_cells HN1
    obtain ⟨f0, f1, f2, f3, f4, f5, f6, f7⟩ := cellN_frees HR1
    obtain ⟨r0, r1, r2, r3, r4, r5, r6, r7⟩ := cellN_cells HR1
    have HE := cellN_set HR1 y
    have hlE : w.heap.size ≤ w.heap.size + 1 + 1 := by omega
    have bE := below_setN b1 hlE y
    have HK3 := Lib.hid HK2
    clear HK2 HK HN1
    go_wp2_with fail
    change bodyPost _ _ _ _ _ (setN D (w.heap.size + 1 + 1) y)
    obtain ⟨y0, y1, y2, y3, y4, y5, y6, y7⟩ := cellN_cells HE
    refine bodyPost_ret (v := NV y) (by simp [results, Try.results60, go_sem, y0, y1, y2, y3, y4, y5, y6, y7]) rfl ⟨by rw [HK3.out], bE⟩
  · have hk1 : (o.k == 1) = false := by rw [beq_eq_false_iff_ne]; exact hk
    have HK := Lib.hid (show chgN n o = { n with d := o.d, wc := o.c, wr := o.r } by unfold chgN; rw [if_neg hk])
    clear hk
    go_wp2_with fail
    rw [← hA, ← hB, ← hC]
    clear hA hB hC
    have hne1 : ¬ (w.heap.size + 1 = w.heap.size) := by omega
    have hne2 : ¬ (w.heap.size = w.heap.size + 1) := by omega
    have hne3 : w.heap.size ≠ w.heap.size + 1 + 1 := by omega
    go_region_held3 (fun w' => w'.cell? ⟨w.heap.size + 1, 0, none⟩ = some (.int .i64 o.c) ∧ w'.cell? ⟨w.heap.size + 1, 1, none⟩ = some (.int .i64 o.r) ∧ w'.cell? ⟨w.heap.size + 1, 6, none⟩ = some (.string o.d)) (go_keep) (fail)
    have b1 := (BelowD (((b0.setCell (p := ⟨w.heap.size, 5, none⟩) (Nat.le_refl _) (.string o.d)).setCell (p := ⟨w.heap.size, 6, none⟩) (Nat.le_refl _) (.int .i64 o.c)).setCell (p := ⟨w.heap.size, 7, none⟩) (Nat.le_refl _) (.int .i64 o.r)))
    have HN1 : CellN _ _ { n with d := o.d, wc := o.c, wr := o.r } := CellsD (((HHN.out.set 5 (by simp [cellsNd]) (.string o.d)).set 6 (by simp [cellsNd]) (.int .i64 o.c)).set 7 (by simp [cellsNd]) (.int .i64 o.r))
    have HR1 : CellN _ _ noNod := CellsD (((HHR.out.other hne3 5 (.string o.d)).other hne3 6 (.int .i64 o.c)).other hne3 7 (.int .i64 o.r))
    generalize (((C.setCell ⟨w.heap.size, 5, none⟩ (.string o.d)).setCell ⟨w.heap.size, 6, none⟩ (.int .i64 o.c)).setCell ⟨w.heap.size, 7, none⟩ (.int .i64 o.r)).drew = D at b1 HN1 HR1 ⊢
    clear z0 z1 z2 z3 z4 z5 z6 z7 f0 f1 f2 f3 f4 f5 f6 f7 r0 r1 r2 r3 r4 r5 r6 r7 e0 e1 e2 e3 e4 e5 e6 e7 m0 m1 m2 m3 m4 m5 m6 HHN HHR hne1 hne2
    have HK2 := HK.out
    generalize { n with d := o.d, wc := o.c, wr := o.r } = y at HN1 HK2
    obtain ⟨z0, z1, z2, z3, z4, z5, z6, z7⟩ := cellN_cells HN1
    obtain ⟨f0, f1, f2, f3, f4, f5, f6, f7⟩ := cellN_frees HR1
    obtain ⟨r0, r1, r2, r3, r4, r5, r6, r7⟩ := cellN_cells HR1
    have HE := cellN_set HR1 y
    have hlE : w.heap.size ≤ w.heap.size + 1 + 1 := by omega
    have bE := below_setN b1 hlE y
    have HK3 := Lib.hid HK2
    clear HK2 HK HN1
    go_wp2_with fail
    change bodyPost _ _ _ _ _ (setN D (w.heap.size + 1 + 1) y)
    obtain ⟨y0, y1, y2, y3, y4, y5, y6, y7⟩ := cellN_cells HE
    refine bodyPost_ret (v := NV y) (by simp [results, Try.results60, go_sem, y0, y1, y2, y3, y4, y5, y6, y7]) rfl ⟨by rw [HK3.out], bE⟩
/-- Nodes of the call's own, changed in place, or in a new row. -/
def LayPost (B : Nat) (l : List Nod) (v : Value) (w : World) (e : Ending) (w' : World) : Prop := ∃ v', e = .returned v' ∧ OwnNd B l v' w' ∧ Below B w w' ∧ Rest w v.ownBlock w' ∧ ∀ g, v'.ownBlock = some g → w.heap.size ≤ g ∨ v.ownBlock = some g
theorem lay_list {α : Type} (l : List α) (n : α) (i : Nat) (hi : i ≤ l.length) : (overR (l ++ [n]) (l.drop i) (i + 1)).set i n = l.take i ++ n :: l.drop i := by
  have hd : i + 1 + (l.drop i).length = l.length + 1 := by rw [List.length_drop]; omega
  have e : overR (l ++ [n]) (l.drop i) (i + 1) = (l ++ [n]).take (i + 1) ++ l.drop i := by
    unfold overR
    rw [hd, List.drop_of_length_le (show (l ++ [n]).length ≤ l.length + 1 by simp), List.append_nil]
  have ht : ((l ++ [n]).take (i + 1)).length = i + 1 := by simp; omega
  rw [e, List.set_append_left _ _ (by omega), List.set_eq_take_append_cons_drop, if_pos (by omega), List.take_take, List.append_assoc, List.drop_of_length_le (by omega), Nat.min_eq_left (by omega), List.take_append_of_le_length hi]
  rfl
set_option maxRecDepth 100000 in
set_option maxHeartbeats 4000000 in
theorem tlay_any (B : Nat) (l : List Nod) (n : Nod) (i : Nat) (a : Option Addr) (c : Nat) (w : World) (h : OwnNd B l (.slice a l.length c) w) (hB : B ≤ w.heap.size) (hi : i ≤ l.length) (hl : l.length ≤ 100000) :
    Calls Try.prog 59 #[.slice a l.length c, .int .i64 i, NV n] w (LayPost B (l.take i ++ n :: l.drop i) (.slice a l.length c) w) := by
  obtain ⟨ii, hii, hz, hsz, hby⟩ := info_parts infoN
  obtain ⟨v, hv⟩ : ∃ v, Value.slice a l.length c = v := ⟨_, rfl⟩
  rw [hv] at h ⊢
  obtain ⟨A, hA⟩ : ∃ A, A = w.alloc (.cells #[.int .i64 n.id, .int .i64 n.p, .string n.s, .int .i64 n.mc, .int .i64 n.mr, .string n.d, .int .i64 n.wc, .int .i64 n.wr] 45) := ⟨_, rfl⟩
  obtain ⟨C, hC⟩ : ∃ C, C = A.alloc (.cells #[.int .i64 n.id, .int .i64 n.p, .string n.s, .int .i64 n.mc, .int .i64 n.mr, .string n.d, .int .i64 n.wc, .int .i64 n.wr] 45) := ⟨_, rfl⟩
  have sA : A.heap.size = w.heap.size + 1 := by rw [hA]; simp
  have sC : C.heap.size = w.heap.size + 2 := by rw [hC]; simp [sA]
  have qA : Below w.heap.size w A := by rw [hA]; exact below_alloc _ _
  have qC : Below A.heap.size A C := by rw [hC]; exact below_alloc _ _
  have b0 := step_b qA qC
  have HN : CellN C w.heap.size n := (by rw [hA]; exact cells_new w (cellsNd n) 45 : CellN A w.heap.size n).below qC
  have HM : AtC (cellsNd n) C A.heap.size 0 := by rw [hC]; exact atC_nod A n 45
  rw [sA] at HM
  have HSrc := Lib.hid (src_one (P := Try.prog) (t := 30) (c := 1) nd_len nd_one Try.underlying30 HM)
  have hO := OwnR.below h b0
  have hlt := h.lt
  have HL := Lib.hid hlt
  have HO := Lib.hid hO
  have HHN := Lib.hid HN
  obtain ⟨z0, z1, z2, z3, z4, z5, z6, z7⟩ := cellN_cells (by rw [hA]; exact cells_new w (cellsNd n) 45 : CellN A w.heap.size n)
  have HSC := Lib.hid sC
  have HB0 := Lib.hid b0
  have h63 := Lib.hid (show l.length + [n].length ≤ maxLen by unfold maxLen; simp only [List.length_singleton]; omega)
  have hby2 := Lib.hid (show (l.length + [n].length) * 80 ≤ 140737488355328 by simp only [List.length_singleton]; omega)
  have hBC := Lib.hid (show B ≤ C.heap.size by omega)
  have HV := Lib.hid hv
  clear hlt HN HM sA sC qA qC hO h b0 hv
  subst hC
  subst hA
  go_enter Try.func59, Try.ntmps59
  go_wp2_with (at_builtin; refine wpList_append_recG cellsNd rfl _ _ 30 rfl B 45 ii _ 80 Try.underlying30 hii hz hsz hby rfl v l [n] rfl HO.out _ rfl HSrc.out h63.out hby2.out hBC.out ?_)
  intro v1 w1 ho1 c1 g1 f1
  obtain ⟨g, c', e1, q1, q2, q3, q4⟩ := ho1.row (by simp)
  rw [List.length_append, List.length_singleton] at e1 q3
  have hgB := (f1 g (by rw [e1]; rfl)).1
  have HG := Lib.hid (show w.heap.size ≤ g ∨ v.ownBlock = some g by
    rcases hgB with h | h
    · exact .inl (by omega)
    · exact .inr h)
  have hsz2 := HSC.out
  have R1 := Rest.of g1
  have hvne : v.ownBlock ≠ some w.heap.size := fun e => by have := (HL.out _ e).2; omega
  have HN1 := Lib.hid (HHN.out.keep g1.size (R1.block (by rw [hsz2]; omega) hvne))
  have R2 := Lib.hid (Rest.trans (Rest.below HB0.out v.ownBlock) R1 (fun g h => .inr h))
  have hne : w.heap.size ≠ g := by
    rcases hgB with h | h
    · omega
    · intro e; subst e; exact hvne h
  subst e1
  have HO1 := Lib.hid ho1
  have hBw := q2
  have hB1 : B ≤ w1.heap.size := by omega
  have hw1 : w.heap.size < w1.heap.size := HN1.out.lt
  have HC := Lib.hid ((HB0.out.mono hB).trans c1)
  clear HO HSrc HHN z0 z1 z2 z3 z4 z5 z6 z7 g1 f1 c1 R1 hvne hgB ho1 HSC hsz2 hBC HB0 h63 hby2
  have hi1 : ((i : Int) + 1).toNat = i + 1 := by omega
  have hi0 : (0 : Int) ≤ (i : Int) + 1 := by omega
  have hi2 : (i : Int) + 1 ≤ (l.length : Int) + 1 := by omega
  have hi3 : (i : Int) ≤ (l.length : Int) + 1 := by omega
  obtain ⟨len, hlen⟩ : ∃ n, l.length = n := ⟨_, rfl⟩
  have HLen := Lib.hid hlen
  rw [hlen] at hi hi2 hi3 hl q3
  have hci : ¬ c' = i := by omega
  have HF := Lib.hid (lay_list l n i (by omega))
  have HD := Lib.hid (show (l.drop i).length = len - i by rw [List.length_drop, hlen])
  have HLA := Lib.hid (show (l ++ [n]).length = len + 1 by simp [hlen])
  have HT := Lib.hid (show ((l ++ [n]).drop i).take (len - i) = l.drop i by
    rw [List.drop_append_of_le_length (by omega), List.take_append_of_le_length (by rw [List.length_drop]; omega), List.take_of_length_le (by rw [List.length_drop]; omega)])
  rw [hlen] at HO1 ⊢
  clear hlen
  by_cases hil : i < len
  · have hci1 : ¬ c' = i + 1 := by omega
    go_wp2_with fail
    refine wp_region_t 7 (by kernel_rfl) (by kernel_rfl) ?_
    simp only [List.take_succ_cons, List.take_zero, List.drop_succ_cons, List.drop_zero]
    iterate 7 (refine wpL_pure (fun K hK => ?_); go_simp; (try go_ints); refine hK _ ?_; clear hK K)
    refine wpL_nil (fun xs n2 _ => ?_)
    have HO2 := HO1.out.below n2.below
    have HN2 := HN1.out.below n2.below
    have b2 := n2.below
    have hs2 := b2.size
    generalize n2.w = w2 at HO2 HN2 b2 hs2 ⊢
    obtain ⟨a2, c2, e2, hr2⟩ := HO2.isR nd_len
    have e3 : a2 = some ⟨g, 0, none⟩ := by simp only [Value.slice.injEq] at e2; exact e2.1.symm
    subst e3
    have hS := isR_src nd_len (isR_take (isR_drop hr2 i) (len - i))
    rw [HT.out] at hS
    simp only [Nat.zero_add] at hS
    have HS := Lib.hid hS
    clear hS
    clear hr2 e2
    go_wp2_with (refine wpList_copy_recG nd_len nd_one rfl _ _ 30 30 rfl 45 Try.underlying30 (by kernel_rfl) B _ _ _ _ (l.drop i) HO2 (i + 1) (by rw [HLA.out, HD.out]; omega) _ _ _ _ _ _ rfl rfl (by rw [HD.out]; exact (Nat.min_eq_right (by omega)).symm) (fun hp => ⟨rfl, _, rfl, HS.out⟩) (by omega) ?_)
    intro w3 ho3 c3 g3
    have HN3 := HN2.keep g3.size ((Rest.of g3).block (by omega) (fun e => hne (Option.some.inj e).symm))
    have R3 := Lib.hid (Rest.trans (Rest.trans R2.out (Rest.below b2 none) (fun _ h => by cases h)) (Rest.of g3) (fun g' e => by cases e; exact HG.out))
    obtain ⟨z0, z1, z2, z3, z4, z5, z6, z7⟩ := cellN_cells HN3
    have HO3 := Lib.hid ho3
    have HC3 := Lib.hid ((HC.out.trans (b2.mono hB1)).trans c3)
    have hs3 := g3.size
    clear ho3 g3 c3 HN3 HN2 HO2 b2
    go_wp2_with (refine wpList_store_rec nd_len nd_one rfl rfl 45 _ _ rfl (by kernel_rfl) B g _ _ _ HO3.out i (by rw [overR_len (by rw [HLA.out, HD.out]; omega), HLA.out]; omega) n _ rfl rfl rfl ?_)
    intro w4 ho4 c4 s4 r4
    rw [HF.out] at ho4
    have R4 := Lib.hid (Rest.trans R3.out (r' := some g) ⟨by omega, fun q hq hne => r4 q hq (fun e => hne (by rw [e]))⟩ (fun g' e => by cases e; exact HG.out))
    have HO4 := Lib.hid ho4
    have HC4 := Lib.hid (HC3.out.trans c4)
    clear ho4 c4 r4 R3 HO3
    go_wp2_with fail
    go_ret
    exact ⟨_, rfl, HO4.out, HC4.out, R4.out, fun g' e => by cases e; exact HG.out⟩
  · obtain rfl : i = len := by omega
    have HD0 := Lib.hid (show l.drop i = [] from List.drop_of_length_le (by have := HLen.out; omega))
    have hmin : ∀ a b : Nat, Nat.min a (i + 1 - (i + 1)) = 0 := fun a b => by simp
    by_cases hci1 : c' = i + 1
    · subst hci1
      go_wp2_with fail
      refine wp_region_t 7 (by kernel_rfl) (by kernel_rfl) ?_
      simp only [List.take_succ_cons, List.take_zero, List.drop_succ_cons, List.drop_zero]
      iterate 7 (refine wpL_pure (fun K hK => ?_); go_simp; (try go_ints); refine hK _ ?_; clear hK K)
      refine wpL_nil (fun xs n2 _ => ?_)
      have HO2 := HO1.out.below n2.below
      have HN2 := HN1.out.below n2.below
      have b2 := n2.below
      have hs2 := b2.size
      generalize n2.w = w2 at HO2 HN2 b2 hs2 ⊢
      go_wp2_with (refine wpList_copy_recG nd_len nd_one rfl _ _ 30 30 rfl 45 Try.underlying30 (by kernel_rfl) B _ _ _ _ (l.drop i) HO2 (i + 1) (by rw [HLA.out, HD.out]; omega) _ _ _ _ _ _ rfl rfl (by rw [HD.out]; simp) (fun hp => absurd hp (by rw [HD0.out]; simp)) (by omega) ?_)
      intro w3 ho3 c3 g3
      have HN3 := HN2.keep g3.size ((Rest.of g3).block (by omega) (fun e => hne (Option.some.inj e).symm))
      have R3 := Lib.hid (Rest.trans (Rest.trans R2.out (Rest.below b2 none) (fun _ h => by cases h)) (Rest.of g3) (fun g' e => by cases e; exact HG.out))
      obtain ⟨z0, z1, z2, z3, z4, z5, z6, z7⟩ := cellN_cells HN3
      have HO3 := Lib.hid ho3
      have HC3 := Lib.hid ((HC.out.trans (b2.mono hB1)).trans c3)
      have hs3 := g3.size
      clear ho3 g3 c3 HN3 HN2 HO2 b2
      go_wp2_with (refine wpList_store_rec nd_len nd_one rfl rfl 45 _ _ rfl (by kernel_rfl) B g _ _ _ HO3.out i (by rw [overR_len (by rw [HLA.out, HD.out]; omega), HLA.out]; omega) n _ rfl rfl rfl ?_)
      intro w4 ho4 c4 s4 r4
      rw [HF.out] at ho4
      have R4 := Lib.hid (Rest.trans R3.out (r' := some g) ⟨by omega, fun q hq hne => r4 q hq (fun e => hne (by rw [e]))⟩ (fun g' e => by cases e; exact HG.out))
      have HO4 := Lib.hid ho4
      have HC4 := Lib.hid (HC3.out.trans c4)
      clear ho4 c4 r4 R3 HO3
      go_wp2_with fail
      go_ret
      exact ⟨_, rfl, HO4.out, HC4.out, R4.out, fun g' e => by cases e; exact HG.out⟩
    · skip
      go_wp2_with fail
      refine wp_region_t 7 (by kernel_rfl) (by kernel_rfl) ?_
      simp only [List.take_succ_cons, List.take_zero, List.drop_succ_cons, List.drop_zero]
      iterate 7 (refine wpL_pure (fun K hK => ?_); go_simp; (try go_ints); refine hK _ ?_; clear hK K)
      refine wpL_nil (fun xs n2 _ => ?_)
      have HO2 := HO1.out.below n2.below
      have HN2 := HN1.out.below n2.below
      have b2 := n2.below
      have hs2 := b2.size
      generalize n2.w = w2 at HO2 HN2 b2 hs2 ⊢
      go_wp2_with (refine wpList_copy_recG nd_len nd_one rfl _ _ 30 30 rfl 45 Try.underlying30 (by kernel_rfl) B _ _ _ _ (l.drop i) HO2 (i + 1) (by rw [HLA.out, HD.out]; omega) _ _ _ _ _ _ rfl rfl (by rw [HD.out]; simp) (fun hp => absurd hp (by rw [HD0.out]; simp)) (by omega) ?_)
      intro w3 ho3 c3 g3
      have HN3 := HN2.keep g3.size ((Rest.of g3).block (by omega) (fun e => hne (Option.some.inj e).symm))
      have R3 := Lib.hid (Rest.trans (Rest.trans R2.out (Rest.below b2 none) (fun _ h => by cases h)) (Rest.of g3) (fun g' e => by cases e; exact HG.out))
      obtain ⟨z0, z1, z2, z3, z4, z5, z6, z7⟩ := cellN_cells HN3
      have HO3 := Lib.hid ho3
      have HC3 := Lib.hid ((HC.out.trans (b2.mono hB1)).trans c3)
      have hs3 := g3.size
      clear ho3 g3 c3 HN3 HN2 HO2 b2
      go_wp2_with (refine wpList_store_rec nd_len nd_one rfl rfl 45 _ _ rfl (by kernel_rfl) B g _ _ _ HO3.out i (by rw [overR_len (by rw [HLA.out, HD.out]; omega), HLA.out]; omega) n _ rfl rfl rfl ?_)
      intro w4 ho4 c4 s4 r4
      rw [HF.out] at ho4
      have R4 := Lib.hid (Rest.trans R3.out (r' := some g) ⟨by omega, fun q hq hne => r4 q hq (fun e => hne (by rw [e]))⟩ (fun g' e => by cases e; exact HG.out))
      have HO4 := Lib.hid ho4
      have HC4 := Lib.hid (HC3.out.trans c4)
      clear ho4 c4 r4 R3 HO3
      go_wp2_with fail
      go_ret
      exact ⟨_, rfl, HO4.out, HC4.out, R4.out, fun g' e => by cases e; exact HG.out⟩
end Go.Proofs.Ytnndanpahcdmaaa
