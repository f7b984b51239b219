/-
  The landed package tree: Do.
-/
import Derived.Test.YtnndanpahcdmaaaTDo
import Derived.Deep.RegionHeld3
namespace Go.Proofs.Ytnndanpahcdmaaa
open Go.RowKit Go.Lib
theorem do_not {l : List Nod} {o : Opn} (h : chkN l = false ∨ mayO o = false) : doN l o = (l, noUnd) := by
  unfold doN
  rcases h with h | h <;> simp [h]
set_option maxRecDepth 100000 in
set_option maxHeartbeats 8000000 in
theorem tdo_own (a : Option Addr) (c : Nat) (l : List Nod) (o : Opn) (w : World) (h : IsNd w a c l) (hl : l.length ≤ 1000) (ho : o.s.size ≤ 1000) (_hd : o.d.size ≤ 1000) (hr : RgNs l) (hro : RgO o) :
    Calls Try.prog 22 #[.slice a l.length c, OV o] w (DoOwnPost w.heap.size (doN l o) w) := by
  obtain ⟨A, hA⟩ : ∃ A, A = w.alloc (.cells #[.int .i64 o.c, .int .i64 o.r, .int .i64 o.k, .int .i64 o.n, .int .i64 o.p, .string o.s, .string o.d] 26) := ⟨_, rfl⟩
  obtain ⟨C, hC⟩ : ∃ C, C = A.alloc (.cells #[.bool false, .bool false, .int .i64 0, .int .i64 0, .string ⟨#[]⟩, .int .i64 0, .int .i64 0, .string ⟨#[]⟩, .int .i64 0, .int .i64 0] 47) := ⟨_, rfl⟩
  have sA : A.heap.size = w.heap.size + 1 := by rw [hA]; simp
  have sC : C.heap.size = w.heap.size + 2 := by rw [hC]; simp [sA]
  have qA : Below w.heap.size w A := by rw [hA]; exact below_alloc _ _
  have qC : Below A.heap.size A C := by rw [hC]; exact below_alloc _ _
  have b0 := step_b qA qC
  have HO0 := Lib.hid ((by rw [hA]; exact hasO_new w o 26 : HasO A w.heap.size o).below qC)
  have hU : Cells C A.heap.size (cellsU noUnd) := by rw [hC]; exact cells_new A (cellsU noUnd) 47
  rw [sA] at hU
  have HU0 := Lib.hid hU
  have HL0 := Lib.hid (h.below b0)
  have HB0 := Lib.hid b0
  have HCk := Lib.hid (tchk_any a c l C HL0.out (by omega) hr)
  have HMay := Lib.hid (fun w => ochk_any o w (by unfold maxLen; omega) hro.2.2.2.1 hro.2.2.2.2)
  rw [hA] at hC
  obtain ⟨m0, m1, m2, m3, m4, m5, m6⟩ := HO0.out
  clear h hU qA qC sA b0 hr hro
  obtain ⟨k1, hk1⟩ : ∃ b, chkN l = b := ⟨_, rfl⟩
  obtain ⟨k2, hk2⟩ : ∃ b, mayO o = b := ⟨_, rfl⟩
  rw [hk1] at HCk
  rw [hk2] at HMay
  have HK1 := Lib.hid hk1
  have HK2 := Lib.hid hk2
  clear hk1 hk2
  go_enter Try.func22, Try.ntmps22
  cases k1 with
  | false =>
    have HD := Lib.hid (do_not (o := o) (.inl HK1.out))
    go_wp2_with fail
    rw [← hC]
    clear hC hA
    refine (HCk.out).mono ?_
    rintro e w1 ⟨rfl, c1⟩
    have HL1 := Lib.hid (HL0.out.below c1)
    have HU1 := Lib.hid (HU0.out.below c1)
    have HB1 := Lib.hid (step_b HB0.out c1)
    clear m0 m1 m2 m3 m4 m5 m6 c1
    go_wp2_with fail
    refine (town_any a c l _ HL1.out (by omega)).mono ?_
    rintro e w2 ⟨v, rfl, hown, c2⟩
    have HU2 := Lib.hid (HU1.out.below c2)
    have HB2 := Lib.hid (step_b HB1.out c2)
    have HN := Lib.hid hown
    have hlt := HU1.out.lt
    clear hown c2
    obtain ⟨u0, u1, u2, u3, u4, u5, u6, u7, u8, u9⟩ := cellU_cells HU2.out
    obtain ⟨f0, f1, f2, f3, f4, f5, f6, f7, f8, f9⟩ := cellU_frees HU2.out
    go_wp2_with fail
    change bodyPost _ _ _ _ _ (w2.setCells (w.heap.size + 1) 0 (cellsU noUnd))
    have hUE := HU2.out.setAll (vs := cellsU noUnd) rfl
    obtain ⟨y0, y1, y2, y3, y4, y5, y6, y7, y8, y9⟩ := cellU_cells hUE
    have bE := below_setCells (B := w.heap.size) (w.heap.size + 1) (by omega) (cellsU noUnd) 0 w2 w HB2.out
    have hfE : OwnNd w1.heap.size l v (w2.setCells (w.heap.size + 1) 0 (cellsU noUnd)) := OwnC.own HN.out (by rw [setCells_heap]; exact Nat.le_refl _) fun g hg => World.heap_setCells_other w2 _ _ _ (OwnC.lt HN.out g hg).2 (by have := (OwnC.lt HN.out g hg).1; omega)
    obtain ⟨a4, c4, e4, _⟩ := hfE.isR nd_len
    exact bodyPost_ret (v := .tuple #[.slice a4 l.length c4, UV noUnd]) (by simp [results, Try.results22, go_sem, y0, y1, y2, y3, y4, y5, y6, y7, y8, y9, e4]) rfl ⟨_, by rw [HD.out], by rw [HD.out, ← e4]; exact OwnR.mono hfE HB1.out.size, bE⟩
  | true =>
    go_wp2_with fail
    rw [← hC]
    clear hC hA
    refine (HCk.out).mono ?_
    rintro e w1 ⟨rfl, c1⟩
    have HL1 := Lib.hid (HL0.out.below c1)
    have HU1 := Lib.hid (HU0.out.below c1)
    have HO1 := Lib.hid (HO0.out.below c1)
    have HB1 := Lib.hid (step_b HB0.out c1)
    clear m0 m1 m2 m3 m4 m5 m6 c1
    obtain ⟨m0, m1, m2, m3, m4, m5, m6⟩ := HO1.out
    cases k2 with
    | false =>
      have HD := Lib.hid (do_not (l := l) (.inr HK2.out))
      go_wp2_with fail
      refine (HMay.out _).mono ?_
      rintro e w3 ⟨rfl, c3⟩
      have HL3 := Lib.hid (HL1.out.below c3)
      have HU3 := Lib.hid (HU1.out.below c3)
      have HB3 := Lib.hid (step_b HB1.out c3)
      clear c3 m0 m1 m2 m3 m4 m5 m6
      go_wp2_with fail
      refine (town_any a c l _ HL3.out (by omega)).mono ?_
      rintro e w2 ⟨v, rfl, hown, c2⟩
      have HU2 := Lib.hid (HU3.out.below c2)
      have HB2 := Lib.hid (step_b HB3.out c2)
      have HN := Lib.hid hown
      have hlt := HU3.out.lt
      clear hown c2
      obtain ⟨u0, u1, u2, u3, u4, u5, u6, u7, u8, u9⟩ := cellU_cells HU2.out
      obtain ⟨f0, f1, f2, f3, f4, f5, f6, f7, f8, f9⟩ := cellU_frees HU2.out
      go_wp2_with fail
      change bodyPost _ _ _ _ _ (w2.setCells (w.heap.size + 1) 0 (cellsU noUnd))
      have hUE := HU2.out.setAll (vs := cellsU noUnd) rfl
      obtain ⟨y0, y1, y2, y3, y4, y5, y6, y7, y8, y9⟩ := cellU_cells hUE
      have bE := below_setCells (B := w.heap.size) (w.heap.size + 1) (by omega) (cellsU noUnd) 0 w2 w HB2.out
      have hfE : OwnNd w3.heap.size l v (w2.setCells (w.heap.size + 1) 0 (cellsU noUnd)) := OwnC.own HN.out (by rw [setCells_heap]; exact Nat.le_refl _) fun g hg => World.heap_setCells_other w2 _ _ _ (OwnC.lt HN.out g hg).2 (by have := (OwnC.lt HN.out g hg).1; omega)
      obtain ⟨a4, c4, e4, _⟩ := hfE.isR nd_len
      exact bodyPost_ret (v := .tuple #[.slice a4 l.length c4, UV noUnd]) (by simp [results, Try.results22, go_sem, y0, y1, y2, y3, y4, y5, y6, y7, y8, y9, e4]) rfl ⟨_, by rw [HD.out], by rw [HD.out, ← e4]; exact OwnR.mono hfE HB3.out.size, bE⟩
    | true =>
      go_wp2_with fail
      refine (HMay.out _).mono ?_
      rintro e w3 ⟨rfl, c3⟩
      have HL3 := Lib.hid (HL1.out.below c3)
      have HU3 := Lib.hid (HU1.out.below c3)
      have HO3 := Lib.hid (HO1.out.below c3)
      have HB3 := Lib.hid (step_b HB1.out c3)
      have hs3 := c3.size
      have hs1 := HB1.out.size
      have hlO := HO3.out.lt
      clear c3 m0 m1 m2 m3 m4 m5 m6
      obtain ⟨m0, m1, m2, m3, m4, m5, m6⟩ := HO3.out
      go_wp2_with fail
      have HM := Lib.hid (chkN_iff.1 HK1.out)
      have HS := Lib.hid (fun (w4 : World) (h : Below w3.heap.size w3 w4) => HO3.out.below h)
      have HOwn := Lib.hid (fun (w4 : World) (h : Below w3.heap.size w3 w4) => town_any a c l w4 (HL3.out.below h) (by omega))
      have HDo := Lib.hid (fun (a4 : Option Addr) (c4 : Nat) (w4 : World) (h : OwnNd w3.heap.size l (.slice a4 l.length c4) w4) (hb : Below w3.heap.size w3 w4) => tdoin_any w3.heap.size a4 c4 l o w4 h hb.size HM.out HK2.out (by omega))
      obtain ⟨⟨rl, ru⟩, hrr⟩ : ∃ r, doN l o = r := ⟨_, rfl⟩
      rw [hrr] at HDo
      have HRR := Lib.hid hrr
      clear hrr
      have hdr : Below w3.heap.size w3 w3.drew := (Below.refl _ _).drew
      have HO3d := HS.out _ hdr
      have hneO : w.heap.size ≠ w.heap.size + 1 := by omega
      unfold HasO at HO3d
      go_region_held3 (fun w' => w'.cell? ⟨w.heap.size, 0, none⟩ = some (.int .i64 o.c) ∧ w'.cell? ⟨w.heap.size, 1, none⟩ = some (.int .i64 o.r) ∧ w'.cell? ⟨w.heap.size, 2, none⟩ = some (.int .i64 o.k) ∧ w'.cell? ⟨w.heap.size, 3, none⟩ = some (.int .i64 o.n) ∧ w'.cell? ⟨w.heap.size, 4, none⟩ = some (.int .i64 o.p) ∧ w'.cell? ⟨w.heap.size, 5, none⟩ = some (.string o.s) ∧ w'.cell? ⟨w.heap.size, 6, none⟩ = some (.string o.d)) (first | with_reducible exact HO3d | with_reducible exact HO4 | with_reducible exact HO5 | exact (HasO.keep HO5 (World.heap_setCells_other w5 (w.heap.size + 1) 0 (cellsU ru) hlO5 hneO)))
        (first | (go_at_call 37; refine (HOwn.out _ hdr).mono ?_; rintro e w4 ⟨v4, rfl, hown, c4⟩; have b4 := step_b hdr c4; have HO4 := HS.out _ b4; unfold HasO at HO4; obtain ⟨a4, k4, rfl, _⟩ := OwnR.isR nd_len hown) | (go_at_call 38; refine (HDo.out _ _ _ (OwnR.mono hown (by simp)) b4).mono ?_; rintro e w5 ⟨v5, rfl, hl5, c5⟩; have b5 := b4.trans c5; have HO5 := HS.out _ b5; have hlO5 := HO5.lt; unfold HasO at HO5; have HU5 := Lib.hid (HU3.out.below b5); have HL5 := Lib.hid hl5; obtain ⟨u0, u1, u2, u3, u4, u5, u6, u7, u8, u9⟩ := cellU_cells HU5.out; obtain ⟨f0, f1, f2, f3, f4, f5, f6, f7, f8, f9⟩ := cellU_frees HU5.out; obtain ⟨a5, k5, rfl, _⟩ := OwnR.isR nd_len hl5))
      clear m0 m1 m2 m3 m4 m5 m6
      change Exit.then _ _ Exit.normal _ (w5.setCells (w.heap.size + 1) 0 (cellsU ru))
      have hUE := HU5.out.setAll (vs := cellsU ru) rfl
      obtain ⟨y0, y1, y2, y3, y4, y5, y6, y7, y8, y9⟩ := cellU_cells hUE
      have bE := below_setCells (B := w.heap.size) (w.heap.size + 1) (by omega) (cellsU ru) 0 w5 w (step_b HB3.out b5)
      have hfE : OwnNd w3.heap.size rl (.slice a5 rl.length k5) (w5.setCells (w.heap.size + 1) 0 (cellsU ru)) := OwnC.own HL5.out (by rw [setCells_heap]; exact Nat.le_refl _) fun g hg => World.heap_setCells_other w5 _ _ _ (OwnC.lt HL5.out g hg).2 (by have := (OwnC.lt HL5.out g hg).1; have := HU3.out.lt; omega)
      have hi4 := OwnR.mono (B' := w.heap.size) hfE HB3.out.size
      generalize w5.setCells (w.heap.size + 1) 0 (cellsU ru) = w6 at hi4 bE y0 y1 y2 y3 y4 y5 y6 y7 y8 y9 ⊢
      go_wp2_with fail
      exact bodyPost_ret (v := .tuple #[.slice a5 rl.length k5, UV ru]) (by simp [results, Try.results22, go_sem, y0, y1, y2, y3, y4, y5, y6, y7, y8, y9]) rfl ⟨_, by rw [HRR.out], by rw [HRR.out]; exact hi4, bE⟩
theorem tdo_any (a : Option Addr) (c : Nat) (l : List Nod) (o : Opn) (w : World) (h : IsNd w a c l) (hl : l.length ≤ 1000) (ho : o.s.size ≤ 1000) (hd : o.d.size ≤ 1000) (hr : RgNs l) (hro : RgO o) :
    Calls Try.prog 22 #[.slice a l.length c, OV o] w (DoPost (doN l o) w) := (tdo_own a c l o w h hl ho hd hr hro).mono fun e w' ⟨v, he, hv, hb⟩ => by
  obtain ⟨a', c', rfl, hi⟩ := OwnR.isR nd_len hv
  exact ⟨a', c', he, hi, hb⟩
end Go.Proofs.Ytnndanpahcdmaaa
