/-
  TreeBack: what is done, and taken back, leaves nodes as they were.
-/
import Derived.Test.YtefbkhgnhcllbaaTAwake
namespace Go.Proofs.Ytefbkhgnhcllbaa
open Go.RowKit Go.Lib
set_option maxRecDepth 100000 in
theorem nfew_is {a : Option Addr} {c : Nat} {l : List Nod} {n : Int} {b : Bool} (hb : fewN l n = b) (w : World) (h : IsNd w a c l) (hl : l.length ≤ maxLen) :
    Calls Try.prog 11 #[.slice a l.length c, .int .i64 n] w fun e w' => e = .returned (.bool b) ∧ w' = w := hb ▸ rnfew_any a c l n w h hl
set_option maxRecDepth 100000 in
theorem ofew_is {a : Option Addr} {c : Nat} {l : List Opn} {n : Int} {b : Bool} (hb : fewOp l n = b) (w : World) (h : IsOp w a c l) (hl : l.length ≤ maxLen) :
    Calls Try.prog 12 #[.slice a l.length c, .int .i64 n] w fun e w' => e = .returned (.bool b) ∧ w' = w := hb ▸ ofew_any a c l n w h hl
set_option maxRecDepth 100000 in
theorem ofew_one {o : Opn} {n : Int} {b : Bool} (hb : fewOp [o] n = b) (W : World) (g : Nat) (hg : W.heap.size = g) :
    Calls Try.prog 12 #[.slice (some ⟨g, 0, none⟩) 1 1, .int .i64 n] (W.alloc (.cells (cellsOp o).toArray 26)) fun e w' => e = .returned (.bool b) ∧ w' = W.alloc (.cells (cellsOp o).toArray 26) :=
  ofew_is hb _ (isR_new op_len W g hg [o] (by simp) _ rfl _) (by unfold maxLen; simp)
set_option maxRecDepth 100000 in
theorem nsame_is {a b : Option Addr} {c d : Nat} {l m : List Nod} (e : l = m) (w : World) (ha : IsNd w a c l) (hb : IsNd w b d m) (hl : l.length ≤ 1000000) :
    Calls Try.prog 22 #[.slice a l.length c, .slice b m.length d] w fun e w' => e = .returned (.bool true) ∧ Below w.heap.size w w' := by
  have := rnsame_any a b c d l m w ha hb hl
  rw [show sameN l m = true from decide_eq_true e] at this
  exact this
set_option maxRecDepth 100000 in
theorem fewN_of {l : List Nod} {n : Int} (h : fewN l n = true) : (∀ x ∈ l, x.s.size ≤ 1000 ∧ x.d.size ≤ 1000) ∧ (l.length : Int) ≤ n := by
  unfold fewN at h
  rw [Bool.and_eq_true, List.all_eq_true] at h
  exact ⟨fun o ho => by simpa [smallN] using h.1 o ho, of_decide_eq_true h.2⟩
set_option maxRecDepth 100000 in
set_option maxHeartbeats 8000000 in
theorem tback_walk (a : Option Addr) (cap : Nat) (l : List Nod) (o : Opn) (w : World) (hl : IsNd w a cap l ∧ l.length ≤ maxLen ∧ (∀ x ∈ l, InN x)) (_ho : InO o) :
    Calls Try.prog 4 #[.slice a l.length cap, OV o] w fun e w' => e = .returned (.bool true) ∧ Below w.heap.size w w' := by
  obtain ⟨hi, hlm, hin⟩ := hl
  have GN := Lib.hid (show RgNs l from fun x hx => (hin x hx).1)
  clear hin
  have GO := Lib.hid (show RgO o from _ho.1)
  have HLm := Lib.hid hlm
  have HI := Lib.hid (hi.below (below_alloc w (.cells (cellsOp o).toArray 26)))
  have HO := Lib.hid (cells_new w (cellsOp o) 26)
  clear hi hlm _ho
  obtain ⟨fb, hfb⟩ : ∃ x, fewN l 100 = x := ⟨_, rfl⟩
  obtain ⟨gb, hgb⟩ : ∃ x, fewOp [o] 1 = x := ⟨_, rfl⟩
  have HF := Lib.hid hfb
  have HG := Lib.hid hgb
  clear hfb hgb
  go_enter Try.func4, Try.ntmps4
  go_wp2_with fail
  refine (awake_any _).mono ?_
  rintro e w1 ⟨rfl, c1⟩
  have b1 := step_a (Below.refl _ _) c1
  have HI1 := Lib.hid (HI.out.below c1)
  have HO1 := Lib.hid (HO.out.below c1)
  clear c1 HI HO
  go_wp2_with fail
  refine (nfew_is HF.out _ HI1.out HLm.out).mono ?_
  rintro e w2 ⟨rfl, rfl⟩
  obtain ⟨m0, m1, m2, m3, m4, m5, m6⟩ := atOp_of HO1.out.atC
  rw [Nat.zero_add] at m1 m2 m3 m4 m5 m6
  cases fb with
  | false =>
    go_wp2_with fail
    go_ret
    exact ⟨rfl, b1⟩
  | true =>
    have HL := Lib.hid (show l.length ≤ 100 by have := (fewN_of HF.out).2; omega)
    go_wp2_with fail
    refine (ofew_one HG.out _ _ rfl).mono ?_
    rintro e w3 ⟨rfl, rfl⟩
    have b3 := b1.alloc b1.size (.cells (cellsOp o).toArray 26)
    have HI3 := Lib.hid (HI1.out.below (below_alloc w2 (.cells (cellsOp o).toArray 26)))
    have HO3 := Lib.hid (HO1.out.below (below_alloc w2 (.cells (cellsOp o).toArray 26)))
    clear m0 m1 m2 m3 m4 m5 m6 HI1 HO1 b1
    generalize w2.alloc (.cells (cellsOp o).toArray 26) = w3 at *
    obtain ⟨m0, m1, m2, m3, m4, m5, m6⟩ := atOp_of HO3.out.atC
    rw [Nat.zero_add] at m1 m2 m3 m4 m5 m6
    cases gb with
    | false =>
      go_wp2_with fail
      go_ret
      exact ⟨rfl, b3⟩
    | true =>
      have hso := (fewOp_of HG.out).1 o (by simp)
      have HB := Lib.hid (back_do l o)
      have HC := Lib.hid (doN_chk l o)
      have HN := Lib.hid (fun h => do_none (l := l) (o := o) h)
      have HDo := Lib.hid (tdo_any a cap l o w3 HI3.out (by have := HL.out; omega) hso.1 hso.2 GN.out GO.out)
      have GR := Lib.hid (doN_rng GN.out GO.out)
      have HLen := Lib.hid (show (doN l o).1.length ≤ 101 by have := doN_len l o; have := HL.out; omega)
      clear hso
      generalize doN l o = r at HB HC HN HDo HLen GR
      obtain ⟨l2, u⟩ := r
      go_wp2_with fail
      refine HDo.out.mono ?_
      rintro e w4 ⟨a2, d2, rfl, h2, c4⟩
      have b4 := step_b b3 c4
      have HI4 := Lib.hid (HI3.out.below c4)
      have HO4 := Lib.hid (HO3.out.below c4)
      have HR4 := Lib.hid h2
      clear c4 b3 HI3 HO3 h2 HDo m0 m1 m2 m3 m4 m5 m6
      have m0 := fun X => (HO4.out.below (below_alloc w4 X)).cell 0 _ rfl
      have m1 := fun X => (HO4.out.below (below_alloc w4 X)).cell 1 _ rfl
      have m2 := fun X => (HO4.out.below (below_alloc w4 X)).cell 2 _ rfl
      have m3 := fun X => (HO4.out.below (below_alloc w4 X)).cell 3 _ rfl
      have m4 := fun X => (HO4.out.below (below_alloc w4 X)).cell 4 _ rfl
      have m5 := fun X => (HO4.out.below (below_alloc w4 X)).cell 5 _ rfl
      have m6 := fun X => (HO4.out.below (below_alloc w4 X)).cell 6 _ rfl
      go_wp2_with fail
      refine (tback_any a2 d2 l2 o u _ (HR4.out.below (below_alloc _ _)) (by have := HLen.out; omega) GR.out.1 GO.out GR.out.2).mono ?_
      rintro e w5 ⟨a5, d5, rfl, h5, c5⟩
      have b5 := step_a b4 c5
      have HI5 := Lib.hid ((HI4.out.below (below_alloc _ _)).below c5)
      have HR5 := Lib.hid ((HR4.out.below (below_alloc _ _)).below c5)
      have HU5 := Lib.hid ((cells_new w4 (cellsU u) 30).below c5)
      have HK5 := Lib.hid h5
      clear c5 b4 HI4 HR4 HO4 h5 m0 m1 m2 m3 m4 m5 m6
      have hbl : (backN l2 o u).length ≤ 1000000 := by rw [HB.out]; have := HL.out; omega
      go_wp2_with fail
      refine (nsame_is HB.out _ HK5.out HI5.out hbl).mono ?_
      rintro e w6 ⟨rfl, c6⟩
      have b6 := step_b b5 c6
      have HI6 := Lib.hid (HI5.out.below c6)
      have HR6 := Lib.hid (HR5.out.below c6)
      obtain ⟨did, had, was⟩ := u
      cases did with
      | true =>
        obtain ⟨u0, u1, u2, u3, u4, u5, u6, u7, u8, u9⟩ := cellU_cells (HU5.out.below c6)
        clear c6 b5 HI5 HR5 HU5 HK5 hbl HB
        go_wp2_with fail
        refine (tchk_any _ _ l2 _ HR6.out (by have := HLen.out; omega) (by first | exact GN.out | exact GR.out.1)).mono ?_
        rintro e w7 ⟨rfl, c7⟩
        have b7 := step_b b6 c7
        have HI7 := Lib.hid (HI6.out.below c7)
        clear c7 b6 HI6 HR6 u0 u1 u2 u3 u4 u5 u6 u7 u8 u9
        go_wp2_with fail
        refine (tchk_any _ _ l _ HI7.out (by have := HL.out; omega) (by first | exact GN.out | exact GR.out.1)).mono ?_
        rintro e w8 ⟨rfl, c8⟩
        have b8 := step_b b7 c8
        have hc : chkN l2 = chkN l := HC.out
        rw [hc]
        clear c8 b7 HI7
        go_wp2_with fail
        go_ret
        exact ⟨rfl, b8⟩
      | false =>
        have hn := HN.out rfl
        simp only [Prod.mk.injEq] at hn
        obtain ⟨rfl, hu⟩ := hn
        rw [hu] at HU5
        obtain ⟨u0, u1, u2, u3, u4, u5, u6, u7, u8, u9⟩ := cellU_cells (HU5.out.below c6)
        dsimp only [noUnd, noNod] at u0 u1 u2 u3 u4 u5 u6 u7 u8 u9
        have HU6 := Lib.hid (HU5.out.below c6)
        clear c6 b5 HI5 HR5 HU5 HK5 hbl HB
        go_wp2_with fail
        refine (nsame_is rfl _ HR6.out HI6.out (by have := HL.out; omega)).mono ?_
        rintro e w7 ⟨rfl, c7⟩
        have b7 := step_b b6 c7
        have HI7 := Lib.hid (HI6.out.below c7)
        have HR7 := Lib.hid (HR6.out.below c7)
        clear u0 u1 u2 u3 u4 u5 u6 u7 u8 u9
        obtain ⟨u0, u1, u2, u3, u4, u5, u6, u7, u8, u9⟩ := cellU_cells (HU6.out.below c7)
        dsimp only [noUnd, noNod] at u0 u1 u2 u3 u4 u5 u6 u7 u8 u9
        clear c7 b6 HI6 HR6 HU6
        go_wp2_with fail
        refine (tchk_any _ _ l2 _ HR7.out (by have := HLen.out; omega) (by first | exact GN.out | exact GR.out.1)).mono ?_
        rintro e w8 ⟨rfl, c8⟩
        have b8 := step_b b7 c8
        have HI8 := Lib.hid (HI7.out.below c8)
        clear c8 b7 HI7 HR7 u0 u1 u2 u3 u4 u5 u6 u7 u8 u9
        go_wp2_with fail
        refine (tchk_any _ _ l2 _ HI8.out (by have := HLen.out; omega) (by first | exact GN.out | exact GR.out.1)).mono ?_
        rintro e w9 ⟨rfl, c9⟩
        have b9 := step_b b8 c9
        clear c9 b8 HI8
        go_wp2_with fail
        go_ret
        exact ⟨rfl, b9⟩
end Go.Proofs.Ytefbkhgnhcllbaa
