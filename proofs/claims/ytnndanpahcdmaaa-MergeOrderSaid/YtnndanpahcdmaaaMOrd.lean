/-
  MergeOrder: it does not matter in which order operations come, nor how often.
-/
import Derived.Test.YtnndanpahcdmaaaPkO
namespace Go.Proofs.Ytnndanpahcdmaaa
open Go.RowKit Go.Lib
def turnAt (l : List Opn) (p i : Nat) : List Opn := (l[p]?).toList ++ (l[i]?).toList
/-- The operations as they are turned, so many of them. -/
def turnO (l : List Opn) (f i : Nat) : List Opn := (List.range i).flatMap fun j => turnAt l ((j + f) % l.length) j
theorem turn_succ (l : List Opn) (f i : Nat) : turnO l f (i + 1) = turnO l f i ++ turnAt l ((i + f) % l.length) i := by
  unfold turnO
  rw [List.range_succ, List.flatMap_append, List.flatMap_singleton]
theorem turn_mem {l : List Opn} {f i : Nat} {x : Opn} (h : x ∈ turnO l f i) : x ∈ l := by
  unfold turnO at h
  obtain ⟨j, _, hj⟩ := List.mem_flatMap.1 h
  unfold turnAt at hj
  rcases List.mem_append.1 hj with h | h
  · exact List.mem_of_getElem? (Option.mem_toList.1 h)
  · exact List.mem_of_getElem? (Option.mem_toList.1 h)
theorem turn_len (l : List Opn) (f : Nat) : ∀ i, (turnO l f i).length ≤ 2 * i
  | 0 => by simp [turnO]
  | i + 1 => by
    rw [turn_succ, List.length_append]
    have h1 := turn_len l f i
    have h2 : (turnAt l ((i + f) % l.length) i).length ≤ 2 := by
      unfold turnAt
      cases l[(i + f) % l.length]? <;> cases l[i]? <;> simp
    omega
theorem turn_all {l : List Opn} {f : Nat} {x : Opn} (hx : x ∈ l) : x ∈ turnO l f l.length := by
  obtain ⟨m, hml, rfl⟩ := List.mem_iff_getElem.1 hx
  unfold turnO
  refine List.mem_flatMap.2 ⟨m, List.mem_range.2 hml, ?_⟩
  unfold turnAt
  exact List.mem_append.2 (.inr (by rw [List.getElem?_eq_getElem hml]; simp))
theorem op_cells {w w' : World} {g off c : Nat} {l : List Opn} {k : Nat} {z : Opn} (h : IsOp w (some ⟨g, off, none⟩) c l) (hz : l[k]? = some z) (hb : Below w.heap.size w w') : AtOp w' g (off + k * 7) z := by
  obtain ⟨b, o, e, _, hc⟩ := (IsR.below h hb).opn hz
  cases e
  exact hc k z hz
theorem turn_same {l : List Opn} (h : OneTo l l.length) (f : Nat) : sortO (turnO l f l.length) = sortO l := by
  have h1 := oneTo_all h
  exact sortO_same (fun x hx y hy he => h1 x (turn_mem hx) y (turn_mem hy) he) h1 (fun x _ => ⟨fun hx => turn_mem hx, fun hx => turn_all hx⟩)
theorem turn_place {n m f : Nat} (hm : m < n) : ((m + n - f % n) % n + f) % n = m := by
  have hn : 0 < n := by omega
  have hr := Nat.mod_lt f hn
  rw [Nat.add_mod, Nat.mod_mod, ← Nat.add_mod]
  have e := Nat.div_add_mod f n
  have : m + n - f % n + f = m + n * (1 + f / n) := by rw [Nat.mul_add, Nat.mul_one]; omega
  rw [this, Nat.add_mul_mod_self_left, Nat.mod_eq_of_lt hm]
/-- The first part in which two operations differ. -/
theorem first_diff {x y : Opn} (h : x ≠ y) :
    (x.c == y.c) = false ∨ ((x.c == y.c) = true ∧ (x.r == y.r) = false) ∨ ((x.c == y.c) = true ∧ (x.r == y.r) = true ∧ (x.k == y.k) = false) ∨
    ((x.c == y.c) = true ∧ (x.r == y.r) = true ∧ (x.k == y.k) = true ∧ (x.n == y.n) = false) ∨
    ((x.c == y.c) = true ∧ (x.r == y.r) = true ∧ (x.k == y.k) = true ∧ (x.n == y.n) = true ∧ (x.p == y.p) = false) ∨
    ((x.c == y.c) = true ∧ (x.r == y.r) = true ∧ (x.k == y.k) = true ∧ (x.n == y.n) = true ∧ (x.p == y.p) = true ∧ (x.s.toList == y.s.toList) = false) ∨
    ((x.c == y.c) = true ∧ (x.r == y.r) = true ∧ (x.k == y.k) = true ∧ (x.n == y.n) = true ∧ (x.p == y.p) = true ∧ (x.s.toList == y.s.toList) = true ∧ (x.d.toList == y.d.toList) = false) := by
  obtain ⟨c, r, k, n, p, s, d⟩ := x
  obtain ⟨c2, r2, k2, n2, p2, s2, d2⟩ := y
  by_cases e1 : c = c2
  · subst e1
    by_cases e2 : r = r2
    · subst e2
      by_cases e3 : k = k2
      · subst e3
        by_cases e4 : n = n2
        · subst e4
          by_cases e5 : p = p2
          · subst e5
            by_cases e6 : s = s2
            · subst e6
              have e7 : d ≠ d2 := fun e => h (by rw [e])
              simp [bytes_ne e7]
            · simp [bytes_ne e6]
          · simp [int_ne e5]
        · simp [int_ne e4]
      · simp [int_ne e3]
    · simp [int_ne e2]
  · simp [int_ne e1]
theorem u8_wf {n : Int} (h : (Lit.int .u8 n).wf = true) : ∃ k : Nat, n = k ∧ k ≤ 255 := by
  simp only [Lit.wf, Bool.and_eq_true, decide_eq_true_eq] at h
  have h1 : 0 ≤ n ∧ n ≤ 255 := h
  exact ⟨n.toNat, by omega, by omega⟩
set_option maxRecDepth 100000 in
set_option maxHeartbeats 8000000 in
theorem morder_walk (a : Option Addr) (cap : Nat) (l : List Opn) (fr : Int) (w : World) (hl : IsOp w a cap l ∧ l.length ≤ maxLen ∧ (∀ x ∈ l, InO x)) (hfr : (Lit.int .u8 fr).wf = true) :
    Calls Try.prog 5 #[.slice a l.length cap, .int .u8 fr] w fun e w' => e = .returned (.bool true) ∧ Below w.heap.size w w' := by
  obtain ⟨hi, hlm, hin⟩ := hl
  have GOs := Lib.hid (show RgOs l from fun x hx => (hin x hx).1)
  clear hin
  obtain ⟨f, rfl, hf8⟩ := u8_wf hfr
  obtain ⟨iO, hiO, hzO, hszO, hbyO⟩ := info_parts infoOp
  have HLm := Lib.hid hlm
  have HI := Lib.hid hi
  clear hi hlm hfr
  obtain ⟨fb, hfb⟩ : ∃ x, fewOp l 60 = x := ⟨_, rfl⟩
  have HF := Lib.hid hfb
  clear hfb
  go_enter Try.func5, Try.ntmps5
  go_wp2_with fail
  refine (awake_any _).mono ?_
  rintro e w1 ⟨rfl, b1⟩
  have HI1 := Lib.hid (HI.out.below b1)
  clear HI
  go_wp2_with fail
  refine (ofew_is HF.out _ HI1.out HLm.out).mono ?_
  rintro e w2 ⟨rfl, rfl⟩
  cases fb with
  | false =>
    go_wp2_with fail
    go_ret
    exact ⟨rfl, b1⟩
  | true =>
    have hll : l.length ≤ 60 := by have := (fewOp_of HF.out).2; omega
    have HSm := Lib.hid (fewOp_of HF.out).1
    go_wp2_with fail
    go_loopw [6, 7] (fun out u w' => ∃ i : Nat, i ≤ l.length ∧ u = .int .i64 i ∧ OwnOp w2.heap.size (turnO l f i) out w' ∧ OneTo l i ∧ Below w2.heap.size w2 w') (fun _ u _ => l.length - (RowKit.intOf u).toNat)
    case atStart => exact ⟨0, Nat.zero_le _, rfl, ownR_nil _ _ _ _, fun j k x y hj => absurd hj (Nat.not_lt_zero _), Below.refl _ _⟩
    case round =>
      obtain ⟨i, hil, rfl, hown, hone, ck⟩ := hrel
      have HOwn := Lib.hid hown
      have HOne := Lib.hid hone
      clear hown hone
      by_cases hi : i < l.length
      · obtain ⟨z, hz⟩ : ∃ z, l[i]? = some z := ⟨l[i], List.getElem?_eq_getElem hi⟩
        obtain ⟨x, hx⟩ : ∃ x, l[(i + f) % l.length]? = some x := ⟨l[(i + f) % l.length]'(Nat.mod_lt _ (by omega)), List.getElem?_eq_getElem (Nat.mod_lt _ (by omega))⟩
        have hi2 : (i : Int) < (l.length : Int) := by omega
        have HT := Lib.hid (turn_succ l f i)
        have HTl := Lib.hid (turn_len l f i)
        have Hz := Lib.hid hz
        have Hx := Lib.hid hx
        clear hz hx
        generalize turnO l f i = tu at HOwn HT HTl
        go_wp2_with fail
        go_loopw [8] (fun u w' => ∃ k : Nat, k ≤ i ∧ u = .int .i64 k ∧ (∀ j y, j < k → l[j]? = some y → eqA y z → y = z) ∧ Below wr.heap.size wr w') (fun u _ => i - (RowKit.intOf u).toNat)
        case atStart => exact ⟨0, Nat.zero_le _, rfl, fun j y hj => absurd hj (Nat.not_lt_zero _), Below.refl _ _⟩
        case round =>
          obtain ⟨k, hk, rfl, ha, cq⟩ := hrel
          have Ha := Lib.hid ha
          clear ha
          have ckq := ck.trans (cq.mono ck.size)
          obtain ⟨g, off, rfl, hlt, hc⟩ := (HI1.out.below ckq).opn Hz.out
          by_cases hki : k < i
          · obtain ⟨y, hy⟩ : ∃ y, l[k]? = some y := ⟨l[k], List.getElem?_eq_getElem (by omega)⟩
            obtain ⟨m0, m1, m2, m3, m4, m5, m6⟩ := hc i z Hz.out
            obtain ⟨n0, n1, n2, n3, n4, n5, n6⟩ := hc k y hy
            have hki2 : (k : Int) < (i : Int) := by omega
            have hkl2 : (k : Int) < (l.length : Int) := by omega
            have Hy := Lib.hid hy
            clear hy hc
            by_cases hyz : y = z
            · subst hyz
              go_wp2_with fail
              refine wp_region_later (by kernel_rfl) (by kernel_rfl) (fun hL => ?_)
              repeat (go_big_quiet_step (fail))
              intro w5 hw
              have cq5 := cq.trans ((later_out hw).mono cq.size)
              clear hw hL
              go_wp2_with fail
              go_roundw
              case rel => exact ⟨k + 1, by omega, by go_num, fun j v hj hv he => by
                by_cases e : j = k
                · subst e; rw [Hy.out] at hv; cases hv; rfl
                · exact Ha.out j v (by omega) hv he, cq5⟩
              case measure => simp [RowKit.intOf]; omega
            · rcases first_diff hyz with f1 | ⟨f1, f2⟩ | hrest
              · have Hne := Lib.hid (show ¬ eqA y z from fun e => by rw [e.1] at f1; simp at f1)
                clear hyz
                go_wp2_with fail
                refine wp_region_later (by kernel_rfl) (by kernel_rfl) (fun hL => ?_)
                repeat (go_big_quiet_step (fail))
                intro w5 hw
                have cq5 := cq.trans ((later_out hw).mono cq.size)
                clear hw hL
                go_wp2_with fail
                go_roundw
                case rel => exact ⟨k + 1, by omega, by go_num, fun j v hj hv he => by
                  by_cases e : j = k
                  · subst e; rw [Hy.out] at hv; cases hv; exact absurd he Hne.out
                  · exact Ha.out j v (by omega) hv he, cq5⟩
                case measure => simp [RowKit.intOf]; omega
              · have Hne := Lib.hid (show ¬ eqA y z from fun e => by rw [e.2] at f2; simp at f2)
                clear hyz
                go_wp2_with fail
                refine wp_region_later (by kernel_rfl) (by kernel_rfl) (fun hL => ?_)
                repeat (go_big_quiet_step (fail))
                intro w5 hw
                have cq5 := cq.trans ((later_out hw).mono cq.size)
                clear hw hL
                go_wp2_with fail
                go_roundw
                case rel => exact ⟨k + 1, by omega, by go_num, fun j v hj hv he => by
                  by_cases e : j = k
                  · subst e; rw [Hy.out] at hv; cases hv; exact absurd he Hne.out
                  · exact Ha.out j v (by omega) hv he, cq5⟩
                case measure => simp [RowKit.intOf]; omega
              · clear hyz
                rcases hrest with ⟨f1, f2, f3⟩ | ⟨f1, f2, f3, f4⟩ | ⟨f1, f2, f3, f4, f5⟩ | ⟨f1, f2, f3, f4, f5, f6⟩ | ⟨f1, f2, f3, f4, f5, f6, f7⟩
                all_goals
                  go_wp2_with fail
                  refine wp_region_later (by kernel_rfl) (by kernel_rfl) (fun hL => ?_)
                  repeat (go_big_quiet_step (fail))
                  intro w5 hw
                  have cq5 := step_b b1 (ck.trans ((cq.trans ((later_out hw).mono cq.size)).mono ck.size))
                  clear hw hL
                  go_wp2_with fail
                  trace_state
                  go_ret
                  exact ⟨rfl, cq5⟩
          · obtain rfl : k = i := by omega
            have HOne2 := Lib.hid (oneTo_succ HOne.out Hz.out (fun j y hj hy he => Ha.out j y hj hy he))
            have hki2 : ¬ (k : Int) < (k : Int) := by omega
            obtain ⟨p, hp⟩ : ∃ p, (k + f) % l.length = p := ⟨_, rfl⟩
            have hpl : p < l.length := by rw [← hp]; exact Nat.mod_lt _ (by omega)
            have hpl2 : (p : Int) < (l.length : Int) := by omega
            have hrem : ((k : Int) + (f : Int)) % (l.length : Int) = (p : Int) := by rw [← hp]; norm_cast
            have HTp := Lib.hid (show turnO l f (k + 1) = tu ++ [x, z] by rw [HT.out]; unfold turnAt; rw [Hx.out, Hz.out]; rfl)
            have Hxp := Lib.hid (show l[p]? = some x by rw [← hp]; exact Hx.out)
            obtain ⟨n0, n1, n2, n3, n4, n5, n6⟩ := hc _ x Hxp.out
            have HOr := Lib.hid (HOwn.out.below cq)
            have htl : tu.length ≤ 120 := by have := HTl.out; omega
            have qx := below_alloc wr (.cells #[.int .i64 x.c, .int .i64 x.r, .int .i64 x.k, .int .i64 x.n, .int .i64 x.p, .string x.s, .string x.d] 26)
            obtain ⟨WX, hWX⟩ : ∃ WX, WX = wr.alloc (.cells #[.int .i64 x.c, .int .i64 x.r, .int .i64 x.k, .int .i64 x.n, .int .i64 x.p, .string x.s, .string x.d] 26) := ⟨_, rfl⟩
            have hBx : HasO WX wr.heap.size x := by rw [hWX]; exact hasO_new wr x 26
            have hOX : OwnOp w2.heap.size tu u6 WX := by rw [hWX]; exact HOr.out.below qx
            have hbX : Below w2.heap.size w2 WX := by rw [hWX]; exact ckq.trans (qx.mono ckq.size)
            have HBx := Lib.hid hBx
            have HOX := Lib.hid hOX
            have HbX := Lib.hid hbX
            have hsX : w2.heap.size ≤ WX.heap.size := hbX.size
            clear hc Ha HOne hp Hx HT hki hk HOwn HOr qx hBx hOX hbX
            go_upto_region 14 with fail
            rw [← hWX]
            clear hWX
            refine wp_region_t 7 (by kernel_rfl) (by kernel_rfl) ?_
            simp only [List.take_succ_cons, List.take_zero, List.drop_succ_cons, List.drop_zero]
            refine wpL_pure (fun K hK => ?_); go_simp; (try go_ints); refine hK _ ?_; clear hK K
            refine wpL_use (OV x) (fun xs m _ => ?_) (fun K hK => ?_)
            · obtain ⟨k0, k1, k2, k3, k4, k5, k6⟩ := HBx.out.below m.below
              go_simp
            go_simp; (try go_ints); refine hK _ ?_; clear hK K
            refine wpL_pure (fun K hK => ?_); go_simp; (try go_ints); refine hK _ ?_; clear hK K
            refine wpL_pure (fun K hK => ?_); go_simp; (try go_ints); refine hK _ ?_; clear hK K
            refine wpL_pure (fun K hK => ?_); go_simp; (try go_ints); refine hK _ ?_; clear hK K
            refine wpL_use (OV z) (fun xs m _ => ?_) (fun K hK => ?_)
            · obtain ⟨k0, k1, k2, k3, k4, k5, k6⟩ := op_cells HI1.out Hz.out (HbX.out.trans (m.below.mono hsX))
              go_simp
            go_simp; (try go_ints); refine hK _ ?_; clear hK K
            refine wpL_make (OwnOp WX.heap.size [x, z]) (fun v w w' h hk => h.stay v w w' hk) (fun xs m _ => ?_) (fun K hK => ?_)
            · unfold relOp; go_simp; simp only [relUpon]
              exact ⟨ownR_made op_len _ m.w _ m.below.size [x, z] (by simp) _ rfl, below_alloc _ _, new_own _ _ _ _⟩
            go_simp; (try go_ints); refine hK _ ?_; clear hK K
            refine wpL_nil (fun xs m hf => ?_)
            have h1 := hf _ List.mem_cons_self
            change OwnOp _ _ (xs 6) _ at h1
            obtain ⟨a5, c5, e5, i5⟩ := OwnR.isR op_len h1
            rw [e5]
            have HI5 := Lib.hid i5
            have HO5 := Lib.hid (HOX.out.below m.below)
            have HB5 := Lib.hid (HbX.out.trans (m.below.mono hsX))
            have hs5 := HB5.out.size
            clear hf h1 e5 i5
            generalize m.w = w5 at HI5 HO5 HB5 hs5 ⊢
            clear m xs
            go_wp2_with (at_builtin; refine wpList_append_rec cellsOp rfl _ _ 22 rfl w2.heap.size 26 iO _ 72 Try.underlying22 hiO hzO hszO hbyO rfl _ tu [x, z] rfl HO5.out _ rfl (src_rec op_len op_one Try.underlying22 HI5.out) (by unfold maxLen; simp; omega) (by simp; omega) (by omega) ?_)
            intro v7 w7 ho7 c7
            have ck7 := HB5.out.trans c7
            go_wp2_with fail
            go_roundw
            case rel => exact ⟨k + 1, by omega, by go_num, by rw [HTp.out]; exact ho7, HOne2.out, ck7⟩
            case measure => simp [RowKit.intOf]; omega
      · obtain rfl : i = l.length := by omega
        have hi2 : ¬ (l.length : Int) < (l.length : Int) := by omega
        obtain ⟨a9, c9, rfl, hR9⟩ := HOwn.out.isR op_len
        have htl := turn_len l f l.length
        have HS := Lib.hid (turn_same HOne.out f)
        have GT := Lib.hid (show RgOs (turnO l f l.length) from fun x hx => GOs.out x (turn_mem hx))
        have HMem := Lib.hid (fun x (hx : x ∈ turnO l f l.length) => HSm.out x (turn_mem hx))
        have HR9 := Lib.hid hR9
        have HIr := Lib.hid (HI1.out.below ck)
        clear HOwn hR9 HOne
        generalize turnO l f l.length = tu at htl HS HMem HR9 GT ⊢
        have br := step_b b1 ck
        go_wp2_with fail
        refine (of_is _ HR9.out (by omega) HMem.out GT.out).mono ?_
        rintro e w8 ⟨a8, n8, c8, q8, m8, d8, rfl, h8, k8⟩
        have b8 := step_b br k8
        have HI8 := Lib.hid (HIr.out.below k8)
        have H8 := Lib.hid h8
        clear k8 h8 HIr HR9 br
        go_wp2_with fail
        refine (of_is _ HI8.out (by omega) HSm.out GOs.out).mono ?_
        rintro e w9 ⟨a10, n10, c10, q10, m10, d10, rfl, h10, k10⟩
        have b10 := step_b b8 k10
        have H9 := Lib.hid (H8.out.below k10)
        have H10 := Lib.hid h10
        clear k10 h10 H8 HI8 b8
        go_wp2_with fail
        refine (lsame_is HS.out _ H9.out H10.out (by have := sort_len tu; omega)).mono ?_
        rintro e w11 ⟨rfl, c11⟩
        have b11 := step_b b10 c11
        go_wp2_with fail
        go_ret
        exact ⟨rfl, b11⟩
end Go.Proofs.Ytnndanpahcdmaaa
