/-
  TreeForest: of the nodes that any operations make none is above itself, and what is above one ends.
-/
import Derived.Test.YtefbkhgnhcllbaaTBackLaw
namespace Go.Proofs.Ytefbkhgnhcllbaa
open Go.RowKit Go.Lib
set_option maxRecDepth 100000 in
theorem foldN_len (l : List Opn) : (foldN l).length ≤ l.length := Nat.le_trans (doAll_len _) (sort_len l)
set_option maxRecDepth 100000 in
theorem tfind_is {a : Option Addr} {c : Nat} {l : List Nod} {i : Int} {r : Option Nod} (w : World) (h : IsNd w a c l) (hl : l.length ≤ 1000) (hg : findN l i = r) (hr : RgNs l) (hi : I64 i) :
    Calls Try.prog 15 #[.slice a l.length c, .int .i64 i] w fun e w' => e = .returned (.tuple #[NV (r.getD noNod), .bool r.isSome]) ∧ Below w.heap.size w w' := by
  cases r with
  | none => exact tfind_none w h hl hg hr hi
  | some x => exact tfind_some w h hl hg hr hi
set_option maxRecDepth 100000 in
theorem findN_tree {t : List Nod} (h : Tree t) (i : Int) : findN t i = getN t i := by
  unfold findN
  rw [if_pos (chkN_iff.2 h.1)]
set_option maxRecDepth 100000 in
theorem aboveN_len (l : List Nod) (i : Int) : (aboveN l i).length ≤ l.length := by
  unfold aboveN
  split
  · exact upN_len _ _ _
  · exact Nat.zero_le _
set_option maxRecDepth 100000 in
/-- How what is above a node ends. -/
theorem forest_end {t : List Nod} (h : Tree t) {x : Nod} (hx : x ∈ t) {z : Int} (hz : (aboveN t x.id).getLast? = some z) :
    (∃ y, findN t z = some y ∧ y.p = -1) ∨ (findN t z = none ∧ dirB z = true) := by
  obtain ⟨h1, h2⟩ := (forest h hx).2.2 z hz
  rw [findN_tree h]
  cases hg : getN t z with
  | none => exact .inr ⟨rfl, h2 hg⟩
  | some y => exact .inl ⟨y, rfl, h1 y hg⟩
set_option maxRecDepth 100000 in
set_option maxHeartbeats 8000000 in
theorem tforest_walk (a : Option Addr) (cap : Nat) (l : List Opn) (w : World) (hl : IsOp w a cap l ∧ l.length ≤ maxLen ∧ (∀ x ∈ l, InO x)) :
    Calls Try.prog 6 #[.slice a l.length cap] w fun e w' => e = .returned (.bool true) ∧ Below w.heap.size w w' := by
  obtain ⟨hi, hlm, hin⟩ := hl
  have GOs := Lib.hid (show RgOs l from fun x hx => (hin x hx).1)
  clear hin
  have HLm := Lib.hid hlm
  have HI := Lib.hid hi
  clear hi hlm
  obtain ⟨fb, hfb⟩ : ∃ x, fewOp l 100 = x := ⟨_, rfl⟩
  have HF := Lib.hid hfb
  clear hfb
  go_enter Try.func6, Try.ntmps6
  go_wp2_with fail
  refine (awake_any _).mono ?_
  rintro e w1 ⟨rfl, b1⟩
  have HI1 := Lib.hid (HI.out.below b1)
  clear HI
  go_wp2_with fail
  refine (ofew_is HF.out _ HI1.out HLm.out).mono ?_
  rintro e w2 ⟨rfl, rfl⟩
  cases fb with
  | false =>
    go_wp2_with fail
    go_ret
    exact ⟨rfl, b1⟩
  | true =>
    have HFold := Lib.hid (tfold_any a cap l w2 HI1.out (by have := (fewOp_of HF.out).2; omega) (fewOp_of HF.out).1 GOs.out)
    have GN := Lib.hid (foldN_rng GOs.out)
    have HT := Lib.hid (tree_fold l)
    have HTl := Lib.hid (show (foldN l).length ≤ 100 by have := foldN_len l; have := (fewOp_of HF.out).2; omega)
    generalize foldN l = t at HFold HT HTl GN
    go_wp2_with fail
    refine HFold.out.mono ?_
    rintro e w3 ⟨a2, d2, rfl, h2, c3⟩
    have b3 := step_b b1 c3
    have HR3 := Lib.hid h2
    have htl := HTl.out
    clear c3 b1 HI1 h2 HFold
    go_wp2_with fail
    go_loopw [5] (fun u w' => ∃ i : Nat, i ≤ t.length ∧ u = .int .i64 i ∧ Below w3.heap.size w3 w') (fun u _ => t.length - (RowKit.intOf u).toNat)
    case atStart => exact ⟨0, Nat.zero_le _, rfl, Below.refl _ _⟩
    case round =>
      obtain ⟨i, hit, rfl, ck⟩ := hrel
      have HRr := Lib.hid (HR3.out.below ck)
      by_cases hil : i < t.length
      · obtain ⟨x, hx⟩ : ∃ x, t[i]? = some x := ⟨t[i], List.getElem?_eq_getElem hil⟩
        obtain ⟨g, off, rfl, hlt, hc⟩ := HRr.out.nod hx
        have k0 := (hc i x hx).1
        have hil2 : (i : Int) < (t.length : Int) := by omega
        have hfo := forest HT.out (List.mem_of_getElem? hx)
        have HNo := Lib.hid hfo.1
        have HNil := Lib.hid hfo.2.1
        have HEnd := Lib.hid (fun z hz => forest_end HT.out (List.mem_of_getElem? hx) (z := z) hz)
        have HAb := Lib.hid (fun w h => tabove_any (some ⟨g, off, none⟩) d2 t x.id w h (by have := HTl.out; omega) GN.out (GN.out x (List.mem_of_getElem? hx)).1)
        have GA := Lib.hid (aboveN_rng GN.out x.id)
        have HAl := Lib.hid (aboveN_len t x.id)
        have Hx := Lib.hid hx
        clear hfo hx hc
        generalize aboveN t x.id = ab at HNo HNil HEnd HAb HAl GA
        go_wp2_with fail
        refine (HAb.out _ HRr.out).mono ?_
        rintro e w4 ⟨v, rfl, hown, c4⟩
        obtain ⟨a4, d4, rfl, hR4⟩ := hown.isR ci_len
        have ck4 := ck.trans (c4.mono ck.size)
        have HI4 := Lib.hid hR4
        clear hown hR4 c4 ck HRr HAb k0
        obtain ⟨m, hm⟩ : ∃ m, ab.length = m := ⟨_, rfl⟩
        rw [hm]
        have HM := Lib.hid hm
        have hmb : m ≤ 100 := by have := HAl.out; omega
        clear hm
        go_wp2_with fail
        go_loopw [7] (fun u w' => ∃ k : Nat, k ≤ m ∧ u = .int .i64 k ∧ Below w4.heap.size w4 w') (fun u _ => m - (RowKit.intOf u).toNat)
        case atStart => exact ⟨0, Nat.zero_le _, rfl, Below.refl _ _⟩
        case round =>
          obtain ⟨k, hkm, rfl, cq⟩ := hrel
          have ck5 := ck4.trans (cq.mono ck4.size)
          have HI5 := Lib.hid (HI4.out.below cq)
          obtain ⟨g', off', he, hlt', hc⟩ := (HR3.out.below ck5).nod Hx.out
          simp only [Option.some.injEq, Addr.mk.injEq, and_true] at he
          obtain ⟨rfl, rfl⟩ := he
          obtain ⟨k0, k1, _⟩ := hc i x Hx.out
          clear hc
          by_cases hkl : k < m
          · obtain ⟨y, hy⟩ : ∃ y, ab[k]? = some y := ⟨ab[k]'(by rw [HM.out]; exact hkl), List.getElem?_eq_getElem (by rw [HM.out]; exact hkl)⟩
            obtain ⟨g4, off4, rfl, hlt4, hc4⟩ := HI5.out.int hy
            have j0 := hc4 k y hy
            have hkl2 : (k : Int) < (m : Int) := by omega
            have hne := int_ne (show y ≠ x.id from fun e => HNo.out (e ▸ List.mem_of_getElem? hy))
            clear hy hc4
            go_wp2_with fail
            refine wp_region_later (by kernel_rfl) (by kernel_rfl) (fun hL => ?_)
            repeat (go_big_quiet_step (fail))
            intro w5 hw
            have cq5 := cq.trans ((later_out hw).mono cq.size)
            clear hw hL
            go_wp2_with fail
            go_roundw
            case rel => exact ⟨k + 1, by omega, by go_num, cq5⟩
            case measure => simp [RowKit.intOf]; omega
          · have hkl2 : ¬ (k : Int) < (m : Int) := by omega
            clear cq hkm
            cases m with
            | zero =>
              have hp : x.p = -1 := HNil.out (List.eq_nil_of_length_eq_zero HM.out)
              rw [hp] at k1
              go_wp2_with fail
              go_roundw
              case rel => exact ⟨i + 1, by omega, by go_num, ck5⟩
              case measure => simp [RowKit.intOf]; omega
            | succ q =>
              obtain ⟨z, hz⟩ : ∃ z, ab[q]? = some z := ⟨ab[q]'(by rw [HM.out]; omega), List.getElem?_eq_getElem (by rw [HM.out]; omega)⟩
              obtain ⟨g4, off4, rfl, hlt4, hc4⟩ := HI5.out.int hz
              have j0 := hc4 q z hz
              have hq2 : (q : Int) < ((q : Int) + 1) := by omega
              have Hz := Lib.hid hz
              have hen := HEnd.out z (by rw [List.getLast?_eq_getElem?, HM.out]; exact hz)
              clear hz hc4
              rcases hen with ⟨y, hf, hp⟩ | ⟨hf, hd⟩
              · have Hf := Lib.hid hf
                have Hp := Lib.hid hp
                clear hf hp
                go_wp2_with fail
                refine (tfind_is _ (HR3.out.below ck5) (by have := HTl.out; omega) Hf.out GN.out (GA.out z (List.mem_of_getElem? Hz.out))).mono ?_
                rintro e w6 ⟨rfl, c6⟩
                have ck6 := ck5.trans (c6.mono ck5.size)
                have hp := Hp.out
                go_wp2_with fail
                go_roundw
                case rel => exact ⟨i + 1, by omega, by go_num, ck6.alloc ck6.size _⟩
                case measure => simp [RowKit.intOf]; omega
              · have Hf := Lib.hid hf
                have Hd := Lib.hid hd
                have hzb : -9223372036854775808 ≤ z ∧ z ≤ 9223372036854775807 := by
                  unfold dirB at hd
                  have := of_decide_eq_true hd
                  omega
                have Hb := Lib.hid hzb
                clear hf hd hzb
                go_wp2_with fail
                refine (tfind_is _ (HR3.out.below ck5) (by have := HTl.out; omega) Hf.out GN.out (GA.out z (List.mem_of_getElem? Hz.out))).mono ?_
                rintro e w6 ⟨rfl, c6⟩
                have ck6 := ck5.trans (c6.mono ck5.size)
                have j0 := fun X => ((HI5.out.below c6).below (below_alloc w6 X)).int Hz.out
                have j1 : ∀ X, (w6.alloc X).cell? ⟨g4, off4 + q, none⟩ = some (.int .i64 z) := fun X => by
                  obtain ⟨b', o', e', _, hc'⟩ := j0 X
                  simp only [Option.some.injEq, Addr.mk.injEq, and_true] at e'
                  obtain ⟨rfl, rfl⟩ := e'
                  exact hc' q z Hz.out
                clear j0
                go_wp2_with fail
                refine (dir_is Hd.out Hb.out.1 Hb.out.2 _).mono ?_
                rintro e w7 ⟨rfl, c7⟩
                have ck7 := ck6.trans ((below_alloc w6 _).mono ck6.size) |>.trans (c7.mono (Nat.le_trans ck6.size (below_alloc w6 _).size))
                go_wp2_with fail
                go_roundw
                case rel => exact ⟨i + 1, by omega, by go_num, ck7⟩
                case measure => simp [RowKit.intOf]; omega
      · have hie : i = t.length := by omega
        have hil2 : ¬ (i : Int) < (t.length : Int) := by omega
        clear hit
        have hc : chkN t = true := chkN_iff.2 HT.out.1
        have HC := Lib.hid hc
        clear hc
        subst hie
        go_wp2_with fail
        refine (tchk_any _ _ t _ HRr.out (by have := HTl.out; omega) GN.out).mono ?_
        rintro e w4 ⟨rfl, c4⟩
        have b4 := step_b b3 (ck.trans (c4.mono ck.size))
        rw [HC.out]
        go_wp2_with fail
        go_ret
        exact ⟨rfl, b4⟩
end Go.Proofs.Ytefbkhgnhcllbaa
