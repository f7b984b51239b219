/-
  The document's Find, Above, loops.
-/
import Derived.Test.YtnndanpahcdmaaaRNod
import Derived.Test.YtnndanpahcdmaaaCells
namespace Go.Proofs.Ytnndanpahcdmaaa
open Go.RowKit Go.Lib
theorem findN_yes {l : List Nod} {i : Int} {x : Nod} (h : findN l i = some x) : chkN l = true ∧ getN l i = some x := by
  unfold findN at h
  by_cases hc : chkN l
  · rw [if_pos hc] at h; exact ⟨hc, h⟩
  · rw [if_neg hc] at h; cases h
/-- A node that stands in memory, and may be written. -/
abbrev CellN (w : World) (g : Nat) (x : Nod) : Prop := Cells w g (cellsNd x)
theorem cellN_cells {w : World} {g : Nat} {x : Nod} (h : CellN w g x) :
    w.cell? ⟨g, 0, none⟩ = some (.int .i64 x.id) ∧ w.cell? ⟨g, 1, none⟩ = some (.int .i64 x.p) ∧ w.cell? ⟨g, 2, none⟩ = some (.string x.s) ∧ w.cell? ⟨g, 3, none⟩ = some (.int .i64 x.mc) ∧
    w.cell? ⟨g, 4, none⟩ = some (.int .i64 x.mr) ∧ w.cell? ⟨g, 5, none⟩ = some (.string x.d) ∧ w.cell? ⟨g, 6, none⟩ = some (.int .i64 x.wc) ∧ w.cell? ⟨g, 7, none⟩ = some (.int .i64 x.wr) :=
  ⟨h.cell 0 _ rfl, h.cell 1 _ rfl, h.cell 2 _ rfl, h.cell 3 _ rfl, h.cell 4 _ rfl, h.cell 5 _ rfl, h.cell 6 _ rfl, h.cell 7 _ rfl⟩
theorem cellN_frees {w : World} {g : Nat} {x : Nod} (h : CellN w g x) :
    w.frozen? ⟨g, 0, none⟩ = false ∧ w.frozen? ⟨g, 1, none⟩ = false ∧ w.frozen? ⟨g, 2, none⟩ = false ∧ w.frozen? ⟨g, 3, none⟩ = false ∧
    w.frozen? ⟨g, 4, none⟩ = false ∧ w.frozen? ⟨g, 5, none⟩ = false ∧ w.frozen? ⟨g, 6, none⟩ = false ∧ w.frozen? ⟨g, 7, none⟩ = false :=
  ⟨h.free 0 (by simp [cellsNd]), h.free 1 (by simp [cellsNd]), h.free 2 (by simp [cellsNd]), h.free 3 (by simp [cellsNd]), h.free 4 (by simp [cellsNd]), h.free 5 (by simp [cellsNd]), h.free 6 (by simp [cellsNd]), h.free 7 (by simp [cellsNd])⟩
/-- A node stored there. -/
def setN (w : World) (g : Nat) (x : Nod) : World :=
  (((((((w.setCell ⟨g, 0, none⟩ (.int .i64 x.id)).setCell ⟨g, 1, none⟩ (.int .i64 x.p)).setCell ⟨g, 2, none⟩ (.string x.s)).setCell ⟨g, 3, none⟩ (.int .i64 x.mc)).setCell ⟨g, 4, none⟩ (.int .i64 x.mr)).setCell ⟨g, 5, none⟩ (.string x.d)).setCell ⟨g, 6, none⟩ (.int .i64 x.wc)).setCell ⟨g, 7, none⟩ (.int .i64 x.wr)
theorem cellN_set {w : World} {g : Nat} {x : Nod} (h : CellN w g x) (y : Nod) : CellN (setN w g y) g y :=
  (((((((h.set 0 (by simp [cellsNd]) (.int .i64 y.id)).set 1 (by simp [cellsNd]) (.int .i64 y.p)).set 2 (by simp [cellsNd]) (.string y.s)).set 3 (by simp [cellsNd]) (.int .i64 y.mc)).set 4 (by simp [cellsNd]) (.int .i64 y.mr)).set 5 (by simp [cellsNd]) (.string y.d)).set 6 (by simp [cellsNd]) (.int .i64 y.wc)).set 7 (by simp [cellsNd]) (.int .i64 y.wr)
theorem below_setN {B g : Nat} {a w : World} (h : Below B a w) (hg : B ≤ g) (x : Nod) : Below B a (setN w g x) :=
  (((((((h.setCell (p := ⟨g, 0, none⟩) hg _).setCell (p := ⟨g, 1, none⟩) hg _).setCell (p := ⟨g, 2, none⟩) hg _).setCell (p := ⟨g, 3, none⟩) hg _).setCell (p := ⟨g, 4, none⟩) hg _).setCell (p := ⟨g, 5, none⟩) hg _).setCell (p := ⟨g, 6, none⟩) hg _).setCell (p := ⟨g, 7, none⟩) hg _
theorem heap_setN (w : World) (g : Nat) (x : Nod) (k : Nat) (h : k ≠ g) : (setN w g x).heap[k]? = w.heap[k]? := by
  unfold setN
  rw [Below.heap_setCell _ _ _ _ h, Below.heap_setCell _ _ _ _ h, Below.heap_setCell _ _ _ _ h, Below.heap_setCell _ _ _ _ h, Below.heap_setCell _ _ _ _ h, Below.heap_setCell _ _ _ _ h, Below.heap_setCell _ _ _ _ h, Below.heap_setCell _ _ _ _ h]
set_option maxRecDepth 100000 in
set_option maxHeartbeats 2000000 in
theorem rfind_some {a : Option Addr} {c : Nat} {l : List Nod} {i : Int} {x : Nod} (w : World) (h : IsNd w a c l) (hl : l.length ≤ maxLen) (hg : findN l i = some x) :
    Calls Try.prog 71 #[.slice a l.length c, .int .i64 i] w fun e w' => e = .returned (.tuple #[NV x, .bool true]) ∧ Below w.heap.size w w' := by
  obtain ⟨hc, hg⟩ := findN_yes hg
  have HG := Lib.hid hg
  have HC := Lib.hid hc
  have h1 := Lib.hid (h.below (below_alloc w (.cells #[.int .i64 0, .int .i64 0, .string ⟨#[]⟩, .int .i64 0, .int .i64 0, .string ⟨#[]⟩, .int .i64 0, .int .i64 0] 45)))
  have q0 := below_alloc w (.cells #[.int .i64 0, .int .i64 0, .string ⟨#[]⟩, .int .i64 0, .int .i64 0, .string ⟨#[]⟩, .int .i64 0, .int .i64 0] 45)
  have Z0 := Lib.hid (show CellN _ _ noNod from cells_new w (cellsNd noNod) 45)
  clear hg hc
  go_enter Try.func71, Try.ntmps71
  go_wp2_with fail
  refine (rnchk_any a c l _ h1.out hl).mono ?_
  rintro e w1 ⟨rfl, c1⟩
  rw [HC.out]
  have h2 := Lib.hid (h1.out.below c1)
  have Z1 := Lib.hid (Z0.out.below c1)
  go_wp2_with fail
  refine (rat_some w1 h2.out hl HG.out).mono ?_
  rintro e w2 ⟨k, rfl, hk, rfl⟩
  obtain ⟨g, o, rfl, hlt, hcell⟩ := h2.out.nod hk
  obtain ⟨k0, k1, k2, k3, k4, k5, k6, k7⟩ := hcell k x hk
  have hkl : (k : Int) < (l.length : Int) := by have := (List.getElem?_eq_some_iff.1 hk).1; omega
  have hd : decide ((k : Int) < 0) = false := decide_eq_false (by omega)
  have hd2 : ¬ (k : Int) < 0 := by omega
  obtain ⟨z0, z1, z2, z3, z4, z5, z6, z7⟩ := cellN_cells Z1.out
  obtain ⟨f0, f1, f2, f3, f4, f5, f6, f7⟩ := cellN_frees Z1.out
  clear hk hcell
  go_wp2_with fail
  change bodyPost _ _ _ _ _ (setN w2 w.heap.size x)
  obtain ⟨y0, y1, y2, y3, y4, y5, y6, y7⟩ := cellN_cells (cellN_set Z1.out x)
  refine bodyPost_ret (v := .tuple #[NV x, .bool true]) (by simp [results, Try.results71, go_sem, y0, y1, y2, y3, y4, y5, y6, y7]) rfl ⟨rfl, below_setN (step_b q0 c1) (Nat.le_refl _) x⟩
theorem findN_no {l : List Nod} {i : Int} (h : findN l i = none) : chkN l = false ∨ (chkN l = true ∧ getN l i = none) := by
  unfold findN at h
  by_cases hc : chkN l
  · rw [if_pos hc] at h; exact .inr ⟨hc, h⟩
  · exact .inl (by simpa using hc)
set_option maxRecDepth 100000 in
set_option maxHeartbeats 2000000 in
theorem rfind_none {a : Option Addr} {c : Nat} {l : List Nod} {i : Int} (w : World) (h : IsNd w a c l) (hl : l.length ≤ maxLen) (hg : findN l i = none) :
    Calls Try.prog 71 #[.slice a l.length c, .int .i64 i] w fun e w' => e = .returned (.tuple #[NV noNod, .bool false]) ∧ Below w.heap.size w w' := by
  have HG := Lib.hid (findN_no hg)
  have h1 := Lib.hid (h.below (below_alloc w (.cells #[.int .i64 0, .int .i64 0, .string ⟨#[]⟩, .int .i64 0, .int .i64 0, .string ⟨#[]⟩, .int .i64 0, .int .i64 0] 45)))
  have q0 := below_alloc w (.cells #[.int .i64 0, .int .i64 0, .string ⟨#[]⟩, .int .i64 0, .int .i64 0, .string ⟨#[]⟩, .int .i64 0, .int .i64 0] 45)
  have Z0 := Lib.hid (show CellN _ _ noNod from cells_new w (cellsNd noNod) 45)
  have at_ : ∃ k : Int, ∀ w, IsNd w a c l → Calls Try.prog 80 #[.slice a l.length c, .int .i64 i] w fun e w' => (∃ k : Int, e = .returned (.int .i64 k)) ∧ w' = w := by
    refine ⟨0, fun w h => ?_⟩
    cases hq : getN l i with
    | none => exact (rat_none w h hl hq).mono fun e w' ⟨h1, h2⟩ => ⟨⟨_, h1⟩, h2⟩
    | some x => exact (rat_some w h hl hq).mono fun e w' ⟨k, h1, _, h2⟩ => ⟨⟨_, h1⟩, h2⟩
  clear hg
  go_enter Try.func71, Try.ntmps71
  go_wp2_with fail
  refine (rnchk_any a c l _ h1.out hl).mono ?_
  rintro e w1 ⟨rfl, c1⟩
  have h2 := Lib.hid (h1.out.below c1)
  have Z1 := Lib.hid (Z0.out.below c1)
  rcases HG.out with hc | ⟨hc, hn⟩
  · rw [hc]
    obtain ⟨_, hat⟩ := at_
    have HA := Lib.hid hat
    clear hat
    go_wp2_with fail
    refine (HA.out w1 h2.out).mono ?_
    rintro e w2 ⟨⟨k, rfl⟩, rfl⟩
    obtain ⟨z0, z1, z2, z3, z4, z5, z6, z7⟩ := cellN_cells Z1.out
    obtain ⟨f0, f1, f2, f3, f4, f5, f6, f7⟩ := cellN_frees Z1.out
    go_wp2_with fail
    change bodyPost _ _ _ _ _ (setN w2 w.heap.size noNod)
    obtain ⟨y0, y1, y2, y3, y4, y5, y6, y7⟩ := cellN_cells (cellN_set Z1.out noNod)
    refine bodyPost_ret (v := .tuple #[NV noNod, .bool false]) (by simp [results, Try.results71, go_sem, y0, y1, y2, y3, y4, y5, y6, y7]) rfl ⟨rfl, below_setN (step_b q0 c1) (Nat.le_refl _) noNod⟩
  · rw [hc]
    have HN := Lib.hid hn
    clear hn at_
    go_wp2_with fail
    refine (rat_none w1 h2.out hl HN.out).mono ?_
    rintro e w2 ⟨rfl, rfl⟩
    obtain ⟨z0, z1, z2, z3, z4, z5, z6, z7⟩ := cellN_cells Z1.out
    obtain ⟨f0, f1, f2, f3, f4, f5, f6, f7⟩ := cellN_frees Z1.out
    go_wp2_with fail
    change bodyPost _ _ _ _ _ (setN w2 w.heap.size noNod)
    obtain ⟨y0, y1, y2, y3, y4, y5, y6, y7⟩ := cellN_cells (cellN_set Z1.out noNod)
    refine bodyPost_ret (v := .tuple #[NV noNod, .bool false]) (by simp [results, Try.results71, go_sem, y0, y1, y2, y3, y4, y5, y6, y7]) rfl ⟨rfl, below_setN (step_b q0 c1) (Nat.le_refl _) noNod⟩
/-- Numbers, as records of one cell. -/
def cellI (n : Int) : List Value := [.int .i64 n]
abbrev IsInt (w : World) (a : Option Addr) (c : Nat) (l : List Int) : Prop := IsR cellI 1 w a c l
abbrev OwnInt (B : Nat) (l : List Int) (v : Value) (w : World) : Prop := OwnR cellI 1 B l v w
theorem ci_len (n : Int) : (cellI n).length = 1 := rfl
theorem ci_one (n : Int) : ∀ u ∈ cellI n, u.oneCell' = true := by
  intro u hu
  simp [cellI] at hu
  subst hu; rfl
theorem infoI : (Try.prog.info? 3).map (fun i => (i.zero, i.size, i.bytes)) = some (some (.int .i64 0), 1, 8) := by kernel_rfl
theorem IsR.int {w : World} {a : Option Addr} {c : Nat} {l : List Int} (h : IsInt w a c l) {k : Nat} {x : Int} (hx : l[k]? = some x) : ∃ b o, a = some ⟨b, o, none⟩ ∧ b < w.heap.size ∧ ∀ j y, l[j]? = some y → w.cell? ⟨b, o + j, none⟩ = some (.int .i64 y) := by
  have hne : l ≠ [] := by intro e; subst e; simp at hx
  obtain ⟨b, o, e, hlt, hc⟩ := h.2.2 hne
  exact ⟨b, o, e, hlt, fun j y hj => by have := hc j y hj 0 _ rfl; rwa [Nat.mul_one, Nat.add_zero] at this⟩
def UpPost (l : List Int) (w : World) (e : Ending) (w' : World) : Prop := ∃ v, e = .returned v ∧ OwnInt w.heap.size l v w' ∧ Below w.heap.size w w'
theorem atC_one (w : World) (n : Int) (t : TypeId) : AtC (cellI n) (w.alloc (.cells #[.int .i64 n] t)) w.heap.size 0 := atC_new w #[.int .i64 n] t
set_option maxRecDepth 100000 in
set_option maxHeartbeats 4000000 in
theorem rabove_any (a : Option Addr) (c : Nat) (l : List Nod) (i : Int) (w : World) (h : IsNd w a c l) (hl : l.length ≤ 1000000) :
    Calls Try.prog 82 #[.slice a l.length c, .int .i64 i] w (UpPost (aboveN l i) w) := by
  have hlm : l.length ≤ maxLen := by unfold maxLen; omega
  obtain ⟨ii, hi, hz, hsz, hby⟩ := info_parts infoI
  go_enter Try.func82, Try.ntmps82
  go_wp2_with fail
  refine (rnchk_any a c l _ h hlm).mono ?_
  rintro e w1 ⟨rfl, c1⟩
  cases hc : chkN l with
  | false =>
    have HA := Lib.hid (show aboveN l i = [] by unfold aboveN; rw [hc]; rfl)
    go_wp2_with fail
    go_ret
    exact ⟨_, rfl, by rw [HA.out]; exact ownR_nil _ _ _ _, c1⟩
  | true =>
    have HA := Lib.hid (show aboveN l i = upN l l.length i by unfold aboveN; rw [hc]; rfl)
    clear hc
    go_wp2_with fail
    go_loopw [1, 5, 7] (fun j out u w' => ∃ (k : Nat) (q : Int) (done : List Int), k ≤ l.length ∧ u = .int .i64 k ∧ j = .int .i64 q ∧ OwnInt w.heap.size done out w' ∧ done.length = k ∧ upN l l.length i = done ++ upN l (l.length - k) q ∧ Below w.heap.size w w') (fun _ _ u _ => l.length - (RowKit.intOf u).toNat)
    case atStart => exact ⟨0, i, [], Nat.zero_le _, rfl, rfl, ownR_nil _ _ _ _, rfl, rfl, c1⟩
    case round =>
      obtain ⟨k, q, done, hk, rfl, rfl, hown, hlen, hup, ck⟩ := hrel
      have HO := Lib.hid hown
      have HU := Lib.hid hup
      have hwb := ck.size
      clear hown hup
      have HLn := Lib.hid hlen
      clear hlen
      by_cases hkl : k < l.length
      · have hkl2 : (k : Int) < (l.length : Int) := by omega
        have Hk := Lib.hid (show l.length - k = (l.length - (k + 1)) + 1 by omega)
        cases hg : getN l q with
        | none =>
          have HF := Lib.hid (show upN l l.length i = done by rw [HU.out, Hk.out]; unfold upN; rw [hg]; simp)
          have HG := Lib.hid hg
          clear hg
          go_wp2_with fail
          refine (rat_none wr (h.below ck) hlm HG.out).mono ?_
          rintro e w2 ⟨rfl, rfl⟩
          go_wp2_with fail
          go_ret
          exact ⟨_, rfl, by rw [HA.out, HF.out]; exact HO.out, ck⟩
        | some x =>
          have HG := Lib.hid hg
          have hstep : upN l (l.length - k) q = if x.p = -1 then [] else x.p :: upN l (l.length - (k + 1)) x.p := by rw [Hk.out]; conv => lhs; unfold upN; rw [hg]
          have HS := Lib.hid hstep
          clear hg hstep
          go_wp2_with fail
          refine (rat_some wr (h.below ck) hlm HG.out).mono ?_
          rintro e w2 ⟨n, rfl, hn, rfl⟩
          obtain ⟨g, o, rfl, hlt, hcell⟩ := (h.below ck).nod hn
          obtain ⟨k0, k1, k2, k3, k4, k5, k6, k7⟩ := hcell n x hn
          have hn1 : (n : Int) < (l.length : Int) := by have := (List.getElem?_eq_some_iff.1 hn).1; omega
          have hd : decide ((n : Int) < 0) = false := decide_eq_false (by omega)
          clear hn hcell k0 k2 k3 k4 k5 k6 k7
          by_cases hp : x.p = -1
          · have hp2 : (x.p == -1) = true := by rw [beq_iff_eq]; exact hp
            have HF := Lib.hid (show upN l l.length i = done by rw [HU.out, HS.out, if_pos hp]; simp)
            clear hp
            go_wp2_with fail
            go_ret
            exact ⟨_, rfl, by rw [HA.out, HF.out]; exact HO.out, ck⟩
          · have hp2 : (x.p == -1) = false := by rw [beq_eq_false_iff_ne]; exact hp
            have HF := Lib.hid (show upN l l.length i = (done ++ [x.p]) ++ upN l (l.length - (k + 1)) x.p by rw [HU.out, HS.out, if_neg hp]; simp)
            clear hp
            have q0 := below_alloc w2 (.cells #[.int .i64 x.p] 3)
            have qs := q0.size
            go_wp2_with (at_builtin; refine wpList_append_rec cellI rfl _ _ 98 rfl w.heap.size 3 ii _ 8 Try.underlying98 hi hz hsz hby rfl _ done [x.p] rfl (HO.out.below q0) _ rfl (src_one ci_len ci_one Try.underlying98 (atC_one w2 x.p 3)) (by rw [HLn.out]; unfold maxLen; simp; omega) (by rw [HLn.out]; simp; omega) (by omega) ?_)
            intro v3 w3 ho3 c3
            have b3 := (ck.trans (q0.mono hwb)).trans c3
            go_wp2_with fail
            go_roundw
            case rel => exact ⟨k + 1, x.p, done ++ [x.p], by omega, by go_num, rfl, ho3, by rw [List.length_append, HLn.out]; rfl, HF.out, b3⟩
            case measure => simp [RowKit.intOf]; omega
      · have Hk := Lib.hid (show l.length - k = 0 by omega)
        have HF := Lib.hid (show upN l l.length i = done by rw [HU.out, Hk.out]; simp [upN])
        have hkl2 : ¬ (k : Int) < (l.length : Int) := by omega
        go_wp2_with fail
        go_ret
        exact ⟨_, rfl, by rw [HA.out, HF.out]; exact HO.out, ck⟩
end Go.Proofs.Ytnndanpahcdmaaa
