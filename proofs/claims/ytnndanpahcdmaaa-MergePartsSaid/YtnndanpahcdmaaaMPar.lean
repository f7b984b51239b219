/-
  MergeParts: operations that come in two parts make what they make at once.
-/
import Derived.Test.YtnndanpahcdmaaaMLaw2
import Derived.Deep.RegionHeld3
import Derived.Deep.DeepCutAuto
namespace Go.Proofs.Ytnndanpahcdmaaa
open Go.RowKit Go.Lib
theorem wrong_take {l : List Opn} {k : Nat} {o : Opn} (h : l[k]? = some o) : wrongN (l.take (k + 1)) = wrongN (l.take k) + if mayO o then 0 else 1 := by
  rw [List.take_add_one, h]
  exact wrongN_snoc _ o
theorem wrong_le (l : List Opn) : wrongN l ≤ l.length := List.length_filter_le _ _
set_option maxRecDepth 100000 in
set_option maxHeartbeats 8000000 in
theorem mparts_walk (a : Option Addr) (ca : Nat) (l : List Opn) (b : Option Addr) (cb : Nat) (r : List Opn) (w : World) (hl : IsOp w a ca l ∧ l.length ≤ maxLen ∧ (∀ x ∈ l, InO x)) (hr : IsOp w b cb r ∧ r.length ≤ maxLen ∧ (∀ x ∈ r, InO x)) :
    Calls Try.prog 6 #[.slice a l.length ca, .slice b r.length cb] w fun e w' => e = .returned (.bool true) ∧ Below w.heap.size w w' := by
  obtain ⟨hi, hlm, hin⟩ := hl
  obtain ⟨hj, hrm, hjn⟩ := hr
  have GOs := Lib.hid (show RgOs l from fun x hx => (hin x hx).1)
  have GRs := Lib.hid (show RgOs r from fun x hx => (hjn x hx).1)
  obtain ⟨iO, hiO, hzO, hszO, hbyO⟩ := info_parts infoOp
  have HLm := Lib.hid hlm
  have HRm := Lib.hid hrm
  have HI := Lib.hid hi
  have HJ := Lib.hid hj
  clear hi hlm hin hj hrm hjn
  obtain ⟨fa, hfa⟩ : ∃ x, fewOp l 60 = x := ⟨_, rfl⟩
  obtain ⟨fb, hfb⟩ : ∃ x, fewOp r 60 = x := ⟨_, rfl⟩
  have HFa := Lib.hid hfa
  have HFb := Lib.hid hfb
  clear hfa hfb
  go_enter Try.func6, Try.ntmps6
  go_wp2_with fail
  refine (awake_any _).mono ?_
  rintro e w1 ⟨rfl, b1⟩
  have HI1 := Lib.hid (HI.out.below b1)
  have HJ1 := Lib.hid (HJ.out.below b1)
  clear HI HJ
  go_wp2_with fail
  refine (ofew_is HFa.out _ HI1.out HLm.out).mono ?_
  rintro e w2 ⟨rfl, rfl⟩
  cases fa with
  | false =>
    go_wp2_with fail
    go_ret
    exact ⟨rfl, b1⟩
  | true =>
    go_wp2_with fail
    refine (ofew_is HFb.out _ HJ1.out HRm.out).mono ?_
    rintro e w3 ⟨rfl, rfl⟩
    cases fb with
    | false =>
      go_wp2_with fail
      go_ret
      exact ⟨rfl, b1⟩
    | true =>
      have hll : l.length ≤ 60 := by have := (fewOp_of HFa.out).2; omega
      have hrl : r.length ≤ 60 := by have := (fewOp_of HFb.out).2; omega
      have HSl := Lib.hid (small_of HFa.out)
      have HSr := Lib.hid (small_of HFb.out)
      have HOk := Lib.hid (sort_ok (by omega) HSl.out GOs.out)
      have hsl := sort_len l
      have HSum := Lib.hid (all_more (a := l) (b := r) (by omega) hsl)
      have HOk2 := Lib.hid (sort_ok (l := l ++ r) (by rw [List.length_append]; omega) (fun x hx => (List.mem_append.1 hx).elim (HSl.out x) (HSr.out x)) (fun x hx => (List.mem_append.1 hx).elim (GOs.out x) (GRs.out x)))
      have hwl := wrong_le r
      go_wp2_with fail
      refine (of_is _ HI1.out (by omega) HSl.out GOs.out).mono ?_
      rintro e w4 ⟨a4, n4, c4, b4, m4, d4, rfl, h4, k4⟩
      have q4 := below_alloc w4 (.cells #[.slice a4 n4 c4, .slice b4 m4 d4] 32)
      have H4 := Lib.hid (h4.below q4)
      have B4 := Lib.hid ((step_b b1 k4).trans (q4.mono (Nat.le_trans b1.size k4.size)))
      have k5 := k4.trans (q4.mono k4.size)
      have HI4 := Lib.hid (HI1.out.below k5)
      have HJ4 := Lib.hid (HJ1.out.below k5)
      clear k4 h4 q4 k5 HI1 HJ1
      go_wp2_with fail
      refine (all_is _ H4.out HOk.out HJ4.out (by omega) HSr.out GRs.out).mono ?_
      rw [HSum.out]
      rintro e w5 ⟨a5, n5, c5, b5, m5, d5, rfl, h5, k5⟩
      simp only [] at h5
      obtain ⟨S, hS⟩ : ∃ S, sortO (l ++ r) = S := ⟨_, rfl⟩
      have HSe := Lib.hid hS
      rw [hS] at h5 HOk2
      clear HSum hS
      have q5 := below_alloc w5 (.cells #[.slice a5 n5 c5, .slice b5 m5 d5] 32)
      obtain ⟨W, hW⟩ : ∃ W, W = w5.alloc (.cells #[.slice a5 n5 c5, .slice b5 m5 d5] 32) := ⟨_, rfl⟩
      have hG : Cells W w5.heap.size [.slice a5 n5 c5, .slice b5 m5 d5] := by rw [hW]; exact cells_new w5 [.slice a5 n5 c5, .slice b5 m5 d5] 32
      have hL : LgAt W a5 n5 c5 b5 m5 d5 S := by rw [hW]; exact h5.below q5
      have hBW : Below w.heap.size w W := by rw [hW]; exact (step_b B4.out k5).trans (q5.mono (Nat.le_trans B4.out.size k5.size))
      have hIW : IsOp W a ca l := by rw [hW]; exact IsR.below (IsR.below HI4.out k5) q5
      have hJW : IsOp W b cb r := by rw [hW]; exact IsR.below (IsR.below HJ4.out k5) q5
      have HG := Lib.hid hG
      have HL := Lib.hid hL
      have HBW := Lib.hid hBW
      have HIW := Lib.hid hIW
      have HJW := Lib.hid hJW
      clear hG hL hBW hIW hJW h5 q5 k5 B4 H4 HI4 HJ4
      go_upto_region 6 with fail
      rw [← hW]
      clear hW
      go_cut [9, 10] (fun s9 s10 wx => ∃ (gn : Nat) (a3 : Option Addr) (n3 c3 : Nat) (b3 : Option Addr) (m3 d3 : Nat), s9 = .pointer (some ⟨gn, 0, none⟩) ∧ s10 = .int .i64 0 ∧ Cells wx gn [.slice a3 n3 c3, .slice b3 m3 d3] ∧ LgAt wx a3 n3 c3 b3 m3 d3 S ∧ Below W.heap.size W wx)
      case first =>
        have HT := Lib.hid (fun (w' : World) (hb : Below W.heap.size W w') => (show w'.cell? ⟨w5.heap.size, 0, none⟩ = some (.slice a5 n5 c5) ∧ w'.cell? ⟨w5.heap.size, 1, none⟩ = some (.slice b5 m5 d5) from ⟨(HG.out.below hb).cell 0 _ rfl, (HG.out.below hb).cell 1 _ rfl⟩))
        have hdr : Below W.heap.size W W.drew := (Below.refl _ _).drew
        have hdra : ∀ X, Below W.heap.size W (W.alloc X).drew := fun X => (below_alloc W X).drew
        have hdrk : Cells (W.alloc (.cells #[.slice none 0 0, .slice none 0 0] 32)).drew W.heap.size [.slice none 0 0, .slice none 0 0] := by
          have q := cells_new W [.slice none 0 0, .slice none 0 0] 32
          exact ⟨q.lt, q.cell, q.free⟩
        have hfS := HOk2.out.few
        have HSame := Lib.hid (show (((allL S S).1, ((allL S S).2 : Int)) : List Opn × Int) = (S, 0) by rw [all_same HOk2.out.lg S (fun o ho => ho)]; rfl)
        have HOps := Lib.hid (fun (w' : World) (hb : Below W.heap.size W w') => ops_is w' (HL.out.below hb) (by omega))
        have HAll := Lib.hid (fun (w' : World) (hb : Below W.heap.size W w') (la : Option Addr) (lc : Nat) (hi : IsOp w' la lc S) => HSame.out ▸ all_isF w' (HL.out.below hb) HOk2.out hi (by omega) HOk2.out.small HOk2.out.rng)
        obtain ⟨nS, hnS⟩ : ∃ nS, S.length = nS := ⟨_, rfl⟩
        rw [hnS] at HAll
        have hops2 : ∀ (w' : World), Below W.heap.size W w' → Calls Try.prog 19 #[LW a5 n5 c5 b5 m5 d5] w' fun e w2 => ∃ x y, e = .returned (.slice x nS y) ∧ IsOp w2 x y S ∧ Below w'.heap.size w' w2 := fun w' hb => by
          refine (HOps.out w' hb).mono ?_
          rintro e w2 ⟨x, y, rfl, hi, hbb⟩
          exact ⟨x, y, by rw [hnS], hi, hbb⟩
        have HOps2 := Lib.hid hops2
        clear hops2
        clear hnS hfS HOps
        go_region_held3 (fun w' => w'.cell? ⟨w5.heap.size, 0, none⟩ = some (.slice a5 n5 c5) ∧ w'.cell? ⟨w5.heap.size, 1, none⟩ = some (.slice b5 m5 d5))
          (first | with_reducible exact HT.out _ hdr | with_reducible exact HT.out _ (hdra _) | with_reducible exact HT.out _ bm | with_reducible exact HT.out _ (Below.alloc bm bm.size _) | with_reducible exact HT.out _ ba | with_reducible exact HT.out _ (Below.alloc ba ba.size _) | with_reducible exact HT.out _ (Below.setCell (p := ⟨_, 1, none⟩) (Below.setCell (p := ⟨_, 0, none⟩) ba (Nat.le_refl _) _) (Nat.le_refl _) _) | with_reducible exact HT.out _ (Below.setCell (p := ⟨_, 1, none⟩) (Below.setCell (p := ⟨_, 0, none⟩) ba bm.size _) bm.size _))
          (first | (go_at_call 19; refine (HOps2.out W.drew hdr).mono ?_; rintro e wm ⟨xo, yo, rfl, hio, cm⟩; have bm : Below W.heap.size W wm := hdr.trans cm) | (go_at_call 19; refine (HOps2.out _ (hdra _)).mono ?_; rintro e wm ⟨xo, yo, rfl, hio, cm⟩; have bm : Below W.heap.size W wm := (hdra _).trans (cm.mono (hdra _).size); have Km := hdrk.below cm) | (go_at_call 11; refine (HAll.out wm bm xo yo hio).mono ?_; rintro e wa ⟨a3, n3, c3, b3, m3, d3, rfl, hl3, fa3, fb3, cca⟩; have ba : Below W.heap.size W wa := bm.trans (cca.mono bm.size); have Ka := Km.below cca; have r0 := Ka.cell 0 _ rfl; have r1 := Ka.cell 1 _ rfl; have f0 := Ka.free 0 (by simp); have f1 := Ka.free 1 (by simp); have hltK := Ka.lt) | (go_at_call 11; refine (HAll.out wm bm xo yo hio).mono ?_; rintro e wa ⟨a3, n3, c3, b3, m3, d3, rfl, hl3, fa3, fb3, cca⟩; have ba : Below W.heap.size W wa := bm.trans (cca.mono bm.size)) | (go_at_call 11; refine (HAll.out _ (bm.alloc bm.size (.cells #[.slice none 0 0, .slice none 0 0] 32)) xo yo (IsR.below hio (below_alloc _ _))).mono ?_; rintro e wa ⟨a3, n3, c3, b3, m3, d3, rfl, hl3, fa3, fb3, cca⟩; have ba : Below W.heap.size W wa := (bm.alloc bm.size (.cells #[.slice none 0 0, .slice none 0 0] 32)).trans (cca.mono (bm.alloc bm.size (.cells #[.slice none 0 0, .slice none 0 0] 32)).size); have Ka := (cells_new wm [.slice none 0 0, .slice none 0 0] 32).below cca; have r0 := Ka.cell 0 _ rfl; have r1 := Ka.cell 1 _ rfl; have f0 := Ka.free 0 (by simp); have f1 := Ka.free 1 (by simp); have hltK := Ka.lt))
        · have q6 := below_alloc wa (.cells #[.slice a3 n3 c3, .slice b3 m3 d3] 32)
          go_wp2_with fail
          go_meet
          exact ⟨wa.heap.size, a3, n3, c3, b3, m3, d3, rfl, rfl, cells_new wa [.slice a3 n3 c3, .slice b3 m3 d3] 32, hl3.below q6, ba.trans (q6.mono ba.size)⟩
        · have hwm : wm.heap.size < (wm.alloc (.cells #[.slice none 0 0, .slice none 0 0] 32)).heap.size := by simp
          have hbs := bm.size
          go_wp2_with fail
          go_meet
          exact ⟨wm.heap.size, a3, n3, c3, b3, m3, d3, rfl, rfl, (Ka.set 0 (by simp) _).set 1 (by simp) _, hl3.store _ _ _ (fresh_ne fa3 hwm) (fresh_ne fb3 hwm), (ba.setCell (p := ⟨wm.heap.size, 0, none⟩) hbs _).setCell (p := ⟨wm.heap.size, 1, none⟩) hbs _⟩
        · have hwm : W.heap.size < wm.heap.size := by have := cm.size; simp at this; omega
          go_wp2_with fail
          go_meet
          exact ⟨W.heap.size, a3, n3, c3, b3, m3, d3, rfl, rfl, (Ka.set 0 (by simp) _).set 1 (by simp) _, hl3.store _ _ _ (fresh_ne fa3 hwm) (fresh_ne fb3 hwm), (ba.setCell (p := ⟨W.heap.size, 0, none⟩) (Nat.le_refl _) _).setCell (p := ⟨W.heap.size, 1, none⟩) (Nat.le_refl _) _⟩
      case rest =>
        obtain ⟨gn, a3, n3, c3, b3, m3, d3, rfl, rfl, hN, hL3, hB⟩ := hcut
        have HN := Lib.hid hN
        have HL3 := Lib.hid hL3
        have HBc := Lib.hid hB
        have BWc := Lib.hid (step_b HBW.out hB)
        have HJc := Lib.hid (IsR.below HJW.out hB)
        have HIc := Lib.hid (IsR.below HIW.out hB)
        have HGc := Lib.hid (HG.out.below hB)
        have HLc := Lib.hid (HL.out.below hB)
        clear hN hL3 hB HG HL HBW HIW HJW
        go_wp2_with fail
        go_loopw [11, 12] (fun x11 x12 w' => ∃ k : Nat, k ≤ r.length ∧ x12 = .int .i64 k ∧ x11 = .int .i64 (wrongN (r.take k)) ∧ Below wc.heap.size wc w') (fun _ x12 _ => r.length - (RowKit.intOf x12).toNat)
        case atStart => exact ⟨0, Nat.zero_le _, rfl, rfl, Below.refl _ _⟩
        case round =>
          obtain ⟨k, hk, rfl, rfl, ck⟩ := hrel
          have hwk : wrongN (r.take k) ≤ 60 := Nat.le_trans (wrong_le _) (by rw [List.length_take]; omega)
          by_cases hks : k < r.length
          · obtain ⟨y, hy⟩ : ∃ y, r[k]? = some y := ⟨_, List.getElem?_eq_getElem hks⟩
            have hks2 : (k : Int) < (r.length : Int) := by omega
            have hwt := wrong_take hy
            have hmem := List.mem_of_getElem? hy
            have HCk := Lib.hid (fun w => ochk_any y w (by have := (HSr.out y hmem).1; unfold maxLen; omega) (GRs.out y hmem).2.2.2.1 (GRs.out y hmem).2.2.2.2)
            obtain ⟨g, off, rfl, hg, hc⟩ := (IsR.below HJc.out ck).opn hy
            obtain ⟨m0, m1, m2, m3, m4', m5', m6⟩ := hc k y hy
            obtain ⟨may, hmay⟩ : ∃ z, mayO y = z := ⟨_, rfl⟩
            rw [hmay] at HCk hwt
            have HWt := Lib.hid hwt
            obtain ⟨nw, hnw⟩ : ∃ nw, wrongN (r.take k) = nw := ⟨_, rfl⟩
            rw [hnw] at HWt hwk ⊢
            clear hc hy hmay hwt hmem hnw
            cases may with
            | false =>
              go_wp2_with fail
              refine (HCk.out _).mono ?_
              rintro e w7 ⟨rfl, c7⟩
              have b7 := step_b ck c7
              go_wp2_with fail
              go_roundw
              case rel => exact ⟨k + 1, by omega, by go_num, by rw [HWt.out, if_neg (by simp)]; go_num, b7⟩
              case measure => simp [RowKit.intOf]; omega
            | true =>
              go_wp2_with fail
              refine (HCk.out _).mono ?_
              rintro e w7 ⟨rfl, c7⟩
              have b7 := step_b ck c7
              go_wp2_with fail
              go_roundw
              case rel => exact ⟨k + 1, by omega, by go_num, by rw [HWt.out]; simp, b7⟩
              case measure => simp [RowKit.intOf]; omega
          · obtain rfl : k = r.length := by omega
            have hks2 : ¬ (r.length : Int) < (r.length : Int) := by omega
            rw [List.take_length]
            obtain ⟨nw, hnw⟩ : ∃ nw, wrongN r = nw := ⟨_, rfl⟩
            rw [hnw]
            have hS3 := HOk2.out.few
            have Nr := Lib.hid (HN.out.below ck)
            have L3r := Lib.hid (HL3.out.below ck)
            have Gr := Lib.hid (HGc.out.below ck)
            have Lr := Lib.hid (HLc.out.below ck)
            have Ir := Lib.hid (IsR.below HIc.out ck)
            have Jr := Lib.hid (IsR.below HJc.out ck)
            have Br := Lib.hid (step_b BWc.out ck)
            have Oklr := Lib.hid (fun (a : Option Addr) (c : Nat) (w : World) (h : IsOp w a c (l ++ r)) => of_is w h)
            have HSlr := Lib.hid (fun x (hx : x ∈ l ++ r) => (List.mem_append.1 hx).elim (HSl.out x) (HSr.out x))
            have GSlr := Lib.hid (fun x (hx : x ∈ l ++ r) => (List.mem_append.1 hx).elim (GOs.out x) (GRs.out x))
            have hlrl : (l ++ r).length ≤ 120 := by rw [List.length_append]; omega
            have hSe := HSe.out
            obtain ⟨lr, hlr⟩ : ∃ lr, l ++ r = lr := ⟨_, rfl⟩
            have HLr := Lib.hid hlr
            rw [hlr] at Oklr HSlr GSlr hlrl hSe
            have HSe2 := Lib.hid hSe
            clear hlr hSe
            have HT := Lib.hid (fun (w' : World) (hb : Below wr.heap.size wr w') => (show (w'.cell? ⟨w5.heap.size, 0, none⟩ = some (.slice a5 n5 c5) ∧ w'.cell? ⟨w5.heap.size, 1, none⟩ = some (.slice b5 m5 d5)) ∧ w'.cell? ⟨gn, 0, none⟩ = some (.slice a3 n3 c3) ∧ w'.cell? ⟨gn, 1, none⟩ = some (.slice b3 m3 d3) from ⟨⟨(Gr.out.below hb).cell 0 _ rfl, (Gr.out.below hb).cell 1 _ rfl⟩, (Nr.out.below hb).cell 0 _ rfl, (Nr.out.below hb).cell 1 _ rfl⟩))
            have hdr : Below wr.heap.size wr wr.drew := (Below.refl _ _).drew
            have hda : Below wr.heap.size wr (wr.alloc (.cells #[] 26)).drew := (below_alloc wr _).drew
            have hE0 : OwnOp wr.heap.size [] (.slice (some ⟨wr.heap.size, 0, none⟩) 0 0) (wr.alloc (.cells #[] 26)).drew := OwnR.below (ownR_empty cellsOp 7 26 wr wr.heap.size (Nat.le_refl _)) (Below.refl _ _).drew
            clear ck HN HL3 HGc HLc HIc HJc BWc HBc hwk
            go_upto_region 13 with fail
            go_region_held3 (fun w' => (w'.cell? ⟨w5.heap.size, 0, none⟩ = some (.slice a5 n5 c5) ∧ w'.cell? ⟨w5.heap.size, 1, none⟩ = some (.slice b5 m5 d5)) ∧ w'.cell? ⟨gn, 0, none⟩ = some (.slice a3 n3 c3) ∧ w'.cell? ⟨gn, 1, none⟩ = some (.slice b3 m3 d3))
              (first | with_reducible exact HT.out _ hdr | with_reducible exact HT.out _ hda | with_reducible exact HT.out _ g8 | with_reducible exact HT.out _ g7 | with_reducible exact HT.out _ g6 | with_reducible exact HT.out _ g5 | with_reducible exact HT.out _ g4 | with_reducible exact HT.out _ g3 | with_reducible exact HT.out _ g2 | with_reducible exact HT.out _ g1)
              (first | (go_at_call 21; refine (of_is wa6 hi6 (by omega) HOk2.out.small HOk2.out.rng).mono ?_; rintro e wa7 ⟨a7, n7, c7, b7, m7, d7, rfl, h7, k7⟩; have g7 : Below wr.heap.size wr wa7 := g6.trans (k7.mono g6.size)) | (go_at_call 21; refine (Oklr.out _ _ wa2 hi2 (by omega) HSlr.out GSlr.out).mono ?_; rintro e wa3 ⟨a8, n8, c8, b8, m8, d8, rfl, h8, k8⟩; have g3 : Below wr.heap.size wr wa3 := g2.trans (k8.mono g2.size)) | (go_at_call 19; refine (ops_is wa5 (Lr.out.below g5) (by omega)).mono ?_; rintro e wa6 ⟨x6, y6, rfl, hi6, k6⟩; have g6 : Below wr.heap.size wr wa6 := g5.trans (k6.mono g5.size)) | (go_at_call 15; refine (lsame_is (sort_lg HOk2.out.lg) wa7 h7 (Lr.out.below g7) (by have := sort_len S; omega)).mono ?_; rintro e wa8 ⟨rfl, k9⟩; have g8 : Below wr.heap.size wr wa8 := g7.trans (k9.mono g7.size)) | (go_at_call 15; refine (lsame_is rfl wa4 (L3r.out.below g4) (Lr.out.below g4) (by omega)).mono ?_; rintro e wa5 ⟨rfl, k9⟩; have g5 : Below wr.heap.size wr wa5 := g4.trans (k9.mono g4.size)) | (go_at_call 15; refine (lsame_is HSe2.out wa3 h8 (Lr.out.below g3) (by have := sort_len lr; omega)).mono ?_; rintro e wa4 ⟨rfl, k9⟩; have g4 : Below wr.heap.size wr wa4 := g3.trans (k9.mono g3.size)) | (refine step_append_recW cellsOp (by rfl) _ _ 22 (by rfl) wr.heap.size 26 iO _ 72 Try.underlying22 hiO hzO hszO hbyO rfl _ l r (by rfl) ho1 _ (by rfl) (src_rec op_len op_one Try.underlying22 (IsR.below Jr.out g1)) (by unfold maxLen; omega) (by omega) g1.size ?_; intro v2 wa2 ho2 cb2; have g2 : Below wr.heap.size wr wa2 := g1.trans cb2; rw [HLr.out] at ho2; obtain ⟨x2, y2, rfl, hi2⟩ := OwnR.isR op_len ho2) | (refine step_append_recW cellsOp (by rfl) _ _ 22 (by rfl) wr.heap.size 26 iO _ 72 Try.underlying22 hiO hzO hszO hbyO rfl _ [] l (by rfl) hE0 _ (by rfl) (src_rec op_len op_one Try.underlying22 (IsR.below Ir.out hda)) (by unfold maxLen; simp; omega) (by simp; omega) hda.size ?_; intro v1 wa1 ho1 cb1; have g1 : Below wr.heap.size wr wa1 := hda.trans cb1; rw [List.nil_append] at ho1))
            have b9 := step_b Br.out g8
            go_wp2_with fail
            go_ret
            exact ⟨rfl, b9⟩
end Go.Proofs.Ytnndanpahcdmaaa
