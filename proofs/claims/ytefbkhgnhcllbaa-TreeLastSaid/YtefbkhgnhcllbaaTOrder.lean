/-
  TreeOrder: the nodes that operations make do not hang on their order, nor on those that may not be, or come twice.
-/
import Derived.Test.YtefbkhgnhcllbaaTTells
namespace Go.Proofs.Ytefbkhgnhcllbaa
open Go.RowKit Go.Lib
def turnAt (l : List Opn) (k : Nat) : List Opn := match l[k]? with
  | some x => if mayO x then [x, x] else []
  | none => []
/-- The operations as they are turned, so many of them. -/
def turnO (l : List Opn) (f i : Nat) : List Opn := (List.range i).flatMap fun j => turnAt l ((j + f) % l.length)
set_option maxRecDepth 100000 in
theorem turn_succ (l : List Opn) (f i : Nat) : turnO l f (i + 1) = turnO l f i ++ turnAt l ((i + f) % l.length) := by
  unfold turnO
  rw [List.range_succ, List.flatMap_append, List.flatMap_singleton]
set_option maxRecDepth 100000 in
theorem turnAt_mem {l : List Opn} {k : Nat} {x : Opn} (h : x ∈ turnAt l k) : x ∈ l ∧ mayO x = true := by
  unfold turnAt at h
  cases hk : l[k]? with
  | none => rw [hk] at h; cases h
  | some y =>
    rw [hk] at h
    cases hm : mayO y with
    | false => simp [hm] at h
    | true =>
      simp [hm] at h
      subst h
      exact ⟨List.mem_of_getElem? hk, hm⟩
set_option maxRecDepth 100000 in
theorem turn_mem {l : List Opn} {f i : Nat} {x : Opn} (h : x ∈ turnO l f i) : x ∈ l ∧ mayO x = true := by
  unfold turnO at h
  obtain ⟨j, _, hj⟩ := List.mem_flatMap.1 h
  exact turnAt_mem hj
set_option maxRecDepth 100000 in
theorem turn_len (l : List Opn) (f : Nat) : ∀ i, (turnO l f i).length ≤ 2 * i
  | 0 => by simp [turnO]
  | i + 1 => by
    rw [turn_succ, List.length_append]
    have h1 := turn_len l f i
    have h2 : (turnAt l ((i + f) % l.length)).length ≤ 2 := by
      unfold turnAt
      split
      · split <;> simp
      · simp
    omega
set_option maxRecDepth 100000 in
theorem turn_place {n m f : Nat} (hm : m < n) : ((m + n - f % n) % n + f) % n = m := by
  have hn : 0 < n := by omega
  have hr := Nat.mod_lt f hn
  rw [Nat.add_mod, Nat.mod_mod, ← Nat.add_mod]
  have e := Nat.div_add_mod f n
  have : m + n - f % n + f = m + n * (1 + f / n) := by rw [Nat.mul_add, Nat.mul_one]; omega
  rw [this, Nat.add_mul_mod_self_left, Nat.mod_eq_of_lt hm]
set_option maxRecDepth 100000 in
theorem turn_all {l : List Opn} {f : Nat} {x : Opn} (hx : x ∈ l) (hm : mayO x = true) : x ∈ turnO l f l.length := by
  obtain ⟨m, hml, rfl⟩ := List.mem_iff_getElem.1 hx
  unfold turnO
  refine List.mem_flatMap.2 ⟨(m + l.length - f % l.length) % l.length, List.mem_range.2 (Nat.mod_lt _ (by omega)), ?_⟩
  show _ ∈ turnAt l _
  rw [turn_place hml]
  unfold turnAt
  rw [List.getElem?_eq_getElem hml]
  simp [hm]
/-- No two of the first so many are unlike and of one At. -/
def OneTo (l : List Opn) (i : Nat) : Prop := ∀ j k x y, j < i → k < i → l[j]? = some x → l[k]? = some y → eqA x y → x = y
set_option maxRecDepth 100000 in
theorem oneTo_succ {l : List Opn} {i : Nat} {z : Opn} (h : OneTo l i) (hz : l[i]? = some z) (hn : ∀ k x, k < i → l[k]? = some x → eqA x z → x = z) : OneTo l (i + 1) := by
  intro j k x y hj hk hx hy he
  by_cases ej : j = i
  · subst ej
    rw [hz] at hx; cases hx
    by_cases ek : k = j
    · subst ek; rw [hz] at hy; cases hy; rfl
    · exact (hn k y (by omega) hy ⟨he.1.symm, he.2.symm⟩).symm
  · by_cases ek : k = i
    · subst ek
      rw [hz] at hy; cases hy
      exact hn j x (by omega) hx he
    · exact h j k x y (by omega) (by omega) hx hy he
set_option maxRecDepth 100000 in
theorem oneTo_all {l : List Opn} (h : OneTo l l.length) : OneA l := by
  intro x hx y hy he
  obtain ⟨j, hj, rfl⟩ := List.mem_iff_getElem.1 hx
  obtain ⟨k, hk, rfl⟩ := List.mem_iff_getElem.1 hy
  exact h j k _ _ hj hk (List.getElem?_eq_getElem hj) (List.getElem?_eq_getElem hk) he
set_option maxRecDepth 100000 in
theorem turn_same {l : List Opn} (h : OneTo l l.length) (f : Nat) : foldN (turnO l f l.length) = foldN l := by
  have h1 := oneTo_all h
  unfold foldN
  rw [sortO_same (fun x hx y hy he => h1 x (turn_mem hx).1 y (turn_mem hy).1 he) h1 (fun x hm => ⟨fun hx => (turn_mem hx).1, fun hx => turn_all hx hm⟩)]
set_option maxRecDepth 100000 in
/-- The first part in which two operations differ. -/
theorem first_diff {x y : Opn} (h : x ≠ y) :
    (x.c == y.c) = false ∨ ((x.c == y.c) = true ∧ (x.r == y.r) = false) ∨ ((x.c == y.c) = true ∧ (x.r == y.r) = true ∧ (x.k == y.k) = false) ∨
    ((x.c == y.c) = true ∧ (x.r == y.r) = true ∧ (x.k == y.k) = true ∧ (x.n == y.n) = false) ∨
    ((x.c == y.c) = true ∧ (x.r == y.r) = true ∧ (x.k == y.k) = true ∧ (x.n == y.n) = true ∧ (x.p == y.p) = false) ∨
    ((x.c == y.c) = true ∧ (x.r == y.r) = true ∧ (x.k == y.k) = true ∧ (x.n == y.n) = true ∧ (x.p == y.p) = true ∧ (x.s.toList == y.s.toList) = false) ∨
    ((x.c == y.c) = true ∧ (x.r == y.r) = true ∧ (x.k == y.k) = true ∧ (x.n == y.n) = true ∧ (x.p == y.p) = true ∧ (x.s.toList == y.s.toList) = true ∧ (x.d.toList == y.d.toList) = false) := by
  obtain ⟨c, r, k, n, p, s, d⟩ := x
  obtain ⟨c2, r2, k2, n2, p2, s2, d2⟩ := y
  by_cases e1 : c = c2
  · subst e1
    by_cases e2 : r = r2
    · subst e2
      by_cases e3 : k = k2
      · subst e3
        by_cases e4 : n = n2
        · subst e4
          by_cases e5 : p = p2
          · subst e5
            by_cases e6 : s = s2
            · subst e6
              have e7 : d ≠ d2 := fun e => h (by rw [e])
              simp [bytes_ne e7]
            · simp [bytes_ne e6]
          · simp [int_ne e5]
        · simp [int_ne e4]
      · simp [int_ne e3]
    · simp [int_ne e2]
  · simp [int_ne e1]
set_option maxRecDepth 100000 in
theorem u8_wf {n : Int} (h : (Lit.int .u8 n).wf = true) : ∃ k : Nat, n = k ∧ k ≤ 255 := by
  simp only [Lit.wf, Bool.and_eq_true, decide_eq_true_eq] at h
  have h1 : 0 ≤ n ∧ n ≤ 255 := h
  exact ⟨n.toNat, by omega, by omega⟩
set_option maxRecDepth 100000 in
set_option maxHeartbeats 8000000 in
theorem torder_walk (a : Option Addr) (cap : Nat) (l : List Opn) (fr : Int) (w : World) (hl : IsOp w a cap l ∧ l.length ≤ maxLen ∧ (∀ x ∈ l, InO x)) (hfr : (Lit.int .u8 fr).wf = true) :
    Calls Try.prog 7 #[.slice a l.length cap, .int .u8 fr] w fun e w' => e = .returned (.bool true) ∧ Below w.heap.size w w' := by
  obtain ⟨hi, hlm, hin⟩ := hl
  have GOs := Lib.hid (show RgOs l from fun x hx => (hin x hx).1)
  clear hin
  obtain ⟨f, rfl, hf8⟩ := u8_wf hfr
  obtain ⟨iO, hiO, hzO, hszO, hbyO⟩ := info_parts infoOp
  have HLm := Lib.hid hlm
  have HI := Lib.hid hi
  clear hi hlm hfr
  obtain ⟨fb, hfb⟩ : ∃ x, fewOp l 100 = x := ⟨_, rfl⟩
  have HF := Lib.hid hfb
  clear hfb
  go_enter Try.func7, Try.ntmps7
  go_wp2_with fail
  refine (awake_any _).mono ?_
  rintro e w1 ⟨rfl, b1⟩
  have HI1 := Lib.hid (HI.out.below b1)
  clear HI
  go_wp2_with fail
  refine (ofew_is HF.out _ HI1.out HLm.out).mono ?_
  rintro e w2 ⟨rfl, rfl⟩
  cases fb with
  | false =>
    go_wp2_with fail
    go_ret
    exact ⟨rfl, b1⟩
  | true =>
    have hll : l.length ≤ 100 := by have := (fewOp_of HF.out).2; omega
    have HSm := Lib.hid (fewOp_of HF.out).1
    go_wp2_with fail
    go_loopw [6, 7] (fun out u w' => ∃ i : Nat, i ≤ l.length ∧ u = .int .i64 i ∧ OwnOp w2.heap.size (turnO l f i) out w' ∧ OneTo l i ∧ Below w2.heap.size w2 w') (fun _ u _ => l.length - (RowKit.intOf u).toNat)
    case atStart => exact ⟨0, Nat.zero_le _, rfl, ownR_nil _ _ _ _, fun j k x y hj => absurd hj (Nat.not_lt_zero _), Below.refl _ _⟩
    case round =>
      obtain ⟨i, hil, rfl, hown, hone, ck⟩ := hrel
      have HOwn := Lib.hid hown
      have HOne := Lib.hid hone
      clear hown hone
      by_cases hi : i < l.length
      · obtain ⟨z, hz⟩ : ∃ z, l[i]? = some z := ⟨l[i], List.getElem?_eq_getElem hi⟩
        obtain ⟨x, hx⟩ : ∃ x, l[(i + f) % l.length]? = some x := ⟨l[(i + f) % l.length]'(Nat.mod_lt _ (by omega)), List.getElem?_eq_getElem (Nat.mod_lt _ (by omega))⟩
        have hi2 : (i : Int) < (l.length : Int) := by omega
        have HT := Lib.hid (turn_succ l f i)
        have HTl := Lib.hid (turn_len l f i)
        have Hz := Lib.hid hz
        have Hx := Lib.hid hx
        clear hz hx
        generalize turnO l f i = tu at HOwn HT HTl
        go_wp2_with fail
        go_loopw [8] (fun u w' => ∃ k : Nat, k ≤ i ∧ u = .int .i64 k ∧ (∀ j y, j < k → l[j]? = some y → eqA y z → y = z) ∧ Below wr.heap.size wr w') (fun u _ => i - (RowKit.intOf u).toNat)
        case atStart => exact ⟨0, Nat.zero_le _, rfl, fun j y hj => absurd hj (Nat.not_lt_zero _), Below.refl _ _⟩
        case round =>
          obtain ⟨k, hk, rfl, ha, cq⟩ := hrel
          have Ha := Lib.hid ha
          clear ha
          have ckq := ck.trans (cq.mono ck.size)
          obtain ⟨g, off, rfl, hlt, hc⟩ := (HI1.out.below ckq).opn Hz.out
          by_cases hki : k < i
          · obtain ⟨y, hy⟩ : ∃ y, l[k]? = some y := ⟨l[k], List.getElem?_eq_getElem (by omega)⟩
            obtain ⟨m0, m1, m2, m3, m4, m5, m6⟩ := hc i z Hz.out
            obtain ⟨n0, n1, n2, n3, n4, n5, n6⟩ := hc k y hy
            have hki2 : (k : Int) < (i : Int) := by omega
            have hkl2 : (k : Int) < (l.length : Int) := by omega
            have Hy := Lib.hid hy
            clear hy hc
            by_cases hyz : y = z
            · subst hyz
              go_wp2_with fail
              refine wp_region_later (by kernel_rfl) (by kernel_rfl) (fun hL => ?_)
              repeat (go_big_quiet_step (fail))
              intro w5 hw
              have cq5 := cq.trans ((later_out hw).mono cq.size)
              clear hw hL
              go_wp2_with fail
              go_roundw
              case rel => exact ⟨k + 1, by omega, by go_num, fun j v hj hv he => by
                by_cases e : j = k
                · subst e; rw [Hy.out] at hv; cases hv; rfl
                · exact Ha.out j v (by omega) hv he, cq5⟩
              case measure => simp [RowKit.intOf]; omega
            · rcases first_diff hyz with f1 | ⟨f1, f2⟩ | hrest
              · have Hne := Lib.hid (show ¬ eqA y z from fun e => by rw [e.1] at f1; simp at f1)
                clear hyz
                go_wp2_with fail
                refine wp_region_later (by kernel_rfl) (by kernel_rfl) (fun hL => ?_)
                repeat (go_big_quiet_step (fail))
                intro w5 hw
                have cq5 := cq.trans ((later_out hw).mono cq.size)
                clear hw hL
                go_wp2_with fail
                go_roundw
                case rel => exact ⟨k + 1, by omega, by go_num, fun j v hj hv he => by
                  by_cases e : j = k
                  · subst e; rw [Hy.out] at hv; cases hv; exact absurd he Hne.out
                  · exact Ha.out j v (by omega) hv he, cq5⟩
                case measure => simp [RowKit.intOf]; omega
              · have Hne := Lib.hid (show ¬ eqA y z from fun e => by rw [e.2] at f2; simp at f2)
                clear hyz
                go_wp2_with fail
                refine wp_region_later (by kernel_rfl) (by kernel_rfl) (fun hL => ?_)
                repeat (go_big_quiet_step (fail))
                intro w5 hw
                have cq5 := cq.trans ((later_out hw).mono cq.size)
                clear hw hL
                go_wp2_with fail
                go_roundw
                case rel => exact ⟨k + 1, by omega, by go_num, fun j v hj hv he => by
                  by_cases e : j = k
                  · subst e; rw [Hy.out] at hv; cases hv; exact absurd he Hne.out
                  · exact Ha.out j v (by omega) hv he, cq5⟩
                case measure => simp [RowKit.intOf]; omega
              · clear hyz
                rcases hrest with ⟨f1, f2, f3⟩ | ⟨f1, f2, f3, f4⟩ | ⟨f1, f2, f3, f4, f5⟩ | ⟨f1, f2, f3, f4, f5, f6⟩ | ⟨f1, f2, f3, f4, f5, f6, f7⟩
                all_goals
                  go_wp2_with fail
                  refine wp_region_later (by kernel_rfl) (by kernel_rfl) (fun hL => ?_)
                  repeat (go_big_quiet_step (fail))
                  intro w5 hw
                  have cq5 := step_b b1 (ck.trans ((cq.trans ((later_out hw).mono cq.size)).mono ck.size))
                  clear hw hL
                  go_wp2_with fail
                  trace_state
                  go_ret
                  exact ⟨rfl, cq5⟩
          · obtain rfl : k = i := by omega
            have HOne2 := Lib.hid (oneTo_succ HOne.out Hz.out (fun j y hj hy he => Ha.out j y hj hy he))
            have hki2 : ¬ (k : Int) < (k : Int) := by omega
            obtain ⟨p, hp⟩ : ∃ p, (k + f) % l.length = p := ⟨_, rfl⟩
            have hpl : p < l.length := by rw [← hp]; exact Nat.mod_lt _ (by omega)
            have hpl2 : (p : Int) < (l.length : Int) := by omega
            have hrem : ((k : Int) + (f : Int)) % (l.length : Int) = (p : Int) := by rw [← hp]; norm_cast
            have HTp := Lib.hid (show turnO l f (k + 1) = tu ++ turnAt l p by rw [HT.out, hp])
            have Hxp := Lib.hid (show l[p]? = some x by rw [← hp]; exact Hx.out)
            obtain ⟨n0, n1, n2, n3, n4, n5, n6⟩ := hc _ x Hxp.out
            obtain ⟨may, hmay⟩ : ∃ b, mayO x = b := ⟨_, rfl⟩
            have HTa := Lib.hid (show turnAt l p = if may then [x, x] else [] by unfold turnAt; rw [Hxp.out, ← hmay])
            have HCk := Lib.hid (fun w => ochk_any x w (by have := (HSm.out x (List.mem_of_getElem? Hxp.out)).1; unfold maxLen; omega) (GOs.out x (List.mem_of_getElem? Hxp.out)).2.2.2.1 (GOs.out x (List.mem_of_getElem? Hxp.out)).2.2.2.2)
            rw [hmay] at HCk
            have HOr := Lib.hid (HOwn.out.below cq)
            have htl : tu.length ≤ 200 := by have := HTl.out; omega
            clear hc Ha HOne hp Hx HT hmay hki hk HOwn
            go_wp2_with fail
            refine (HCk.out _).mono ?_
            rintro e w5 ⟨rfl, c5⟩
            have hAll := below_alloc wr (.cells (cellsOp x).toArray 26)
            have c6 := hAll.trans (c5.mono (by simp))
            have ck6 := ckq.trans (c6.mono ckq.size)
            have HO6 := Lib.hid (HOr.out.below c6)
            cases may with
            | false =>
              go_wp2_with fail
              go_roundw
              case rel => exact ⟨k + 1, by omega, by go_num, by rw [HTp.out, HTa.out, if_neg (by simp), List.append_nil]; exact HO6.out, HOne2.out, ck6⟩
              case measure => simp [RowKit.intOf]; omega
            | true =>
              obtain ⟨m0, m1, m2, m3, m4, m5, m6⟩ := atOp_of ((cells_new wr (cellsOp x) 26).below c5).atC
              rw [Nat.zero_add] at m1 m2 m3 m4 m5 m6
              clear n0 n1 n2 n3 n4 n5 n6 c5 hAll
              have q0 := below_alloc w5 (.cells #[.int .i64 x.c, .int .i64 x.r, .int .i64 x.k, .int .i64 x.n, .int .i64 x.p, .string x.s, .string x.d, .int .i64 x.c, .int .i64 x.r, .int .i64 x.k, .int .i64 x.n, .int .i64 x.p, .string x.s, .string x.d] 26)
              have hR : IsOp (w5.alloc (.cells #[.int .i64 x.c, .int .i64 x.r, .int .i64 x.k, .int .i64 x.n, .int .i64 x.p, .string x.s, .string x.d, .int .i64 x.c, .int .i64 x.r, .int .i64 x.k, .int .i64 x.n, .int .i64 x.p, .string x.s, .string x.d] 26)) (some ⟨w5.heap.size, 0, none⟩) 2 [x, x] := isR_new op_len w5 _ rfl [x, x] (by simp) _ rfl _
              have hw2 := ck6.size
              have qs := q0.size
              go_wp2_with (at_builtin; refine wpList_append_rec cellsOp rfl _ _ 31 rfl w2.heap.size 26 iO _ 72 Try.underlying31 hiO hzO hszO hbyO rfl _ tu [x, x] rfl (HO6.out.below q0) _ rfl (src_rec op_len op_one Try.underlying31 hR) (by unfold maxLen; simp; omega) (by simp; omega) (by omega) ?_)
              intro v7 w7 ho7 c7
              have ck7 := (ck6.trans (q0.mono hw2)).trans c7
              go_wp2_with fail
              go_roundw
              case rel => exact ⟨k + 1, by omega, by go_num, by rw [HTp.out, HTa.out]; first | (rw [if_pos trivial]; exact ho7) | (rw [if_pos rfl]; exact ho7), HOne2.out, ck7⟩
              case measure => simp [RowKit.intOf]; omega
      · obtain rfl : i = l.length := by omega
        have hi2 : ¬ (l.length : Int) < (l.length : Int) := by omega
        obtain ⟨a9, c9, rfl, hR9⟩ := HOwn.out.isR op_len
        have htl := turn_len l f l.length
        have HS := Lib.hid (turn_same HOne.out f)
        have GT := Lib.hid (show RgOs (turnO l f l.length) from fun x hx => GOs.out x (turn_mem hx).1)
        have HMem := Lib.hid (fun x (hx : x ∈ turnO l f l.length) => HSm.out x (turn_mem hx).1)
        have HR9 := Lib.hid hR9
        have HIr := Lib.hid (HI1.out.below ck)
        clear HOwn hR9 HOne
        generalize turnO l f l.length = tu at htl HS HMem HR9 GT ⊢
        have hfo : (foldN tu).length ≤ 1000000 := by have := foldN_len tu; omega
        have br := step_b b1 ck
        go_wp2_with fail
        refine (tfold_any _ _ tu _ HR9.out (by omega) HMem.out GT.out).mono ?_
        rintro e w8 ⟨a8, d8, rfl, h8, c8⟩
        have b8 := step_b br c8
        have HI8 := Lib.hid (HIr.out.below c8)
        have H8 := Lib.hid h8
        clear c8 h8 HIr HR9 br
        go_wp2_with fail
        refine (tfold_any _ _ l _ HI8.out (by omega) HSm.out GOs.out).mono ?_
        rintro e w9 ⟨a10, d10, rfl, h10, c10⟩
        have b10 := step_b b8 c10
        have H9 := Lib.hid (H8.out.below c10)
        have H10 := Lib.hid h10
        clear c10 h10 H8 HI8 b8
        go_wp2_with fail
        refine (nsame_is HS.out _ H9.out H10.out hfo).mono ?_
        rintro e w11 ⟨rfl, c11⟩
        have b11 := step_b b10 c11
        go_wp2_with fail
        go_ret
        exact ⟨rfl, b11⟩
end Go.Proofs.Ytefbkhgnhcllbaa
