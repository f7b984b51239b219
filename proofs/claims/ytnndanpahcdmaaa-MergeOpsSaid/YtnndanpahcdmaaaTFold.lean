/-
  The landed package tree: what operations make.
-/
import Derived.Test.YtnndanpahcdmaaaCmpt
import Derived.Test.YtnndanpahcdmaaaTDo
import Derived.Test.YtnndanpahcdmaaaRFold
namespace Go.Proofs.Ytnndanpahcdmaaa
open Go.RowKit Go.Lib
set_option maxRecDepth 100000 in
theorem tins_zero (p : Option Addr) (c : Nat) (cmp : Value) (w : World) :
    Calls Try.prog 83 #[.slice p 0 c, .int .i64 0, .int .i64 0, cmp] w fun e w' => e = .returned (.tuple #[]) ∧ w' = w := by
  go_enter Try.func83, Try.ntmps83
  go_wp2
  refine wp_loop_rounds 1 ?_
  rw [rounds_succ]
  go_wp2
  go_end0
  exact ⟨rfl, rfl⟩
set_option maxRecDepth 100000 in
theorem tstable_zero (p : Option Addr) (c : Nat) (cmp : Value) (w : World) :
    Calls Try.prog 77 #[.slice p 0 c, .int .i64 0, cmp] w fun e w' => e = .returned (.tuple #[]) ∧ w' = w := by
  go_enter Try.func77, Try.ntmps77
  go_wp2
  refine wp_loop_rounds 1 ?_
  rw [rounds_succ]
  go_wp2_with fail
  refine (tins_zero p c cmp w).mono ?_
  rintro e w1 ⟨rfl, rfl⟩
  go_wp2_with fail
  refine wp_loop_rounds 1 ?_
  rw [rounds_succ]
  go_wp2
  go_end0
  exact ⟨rfl, rfl⟩
def SortPost (B : Nat) (m : List Opn) (v : Value) (w : World) (e : Ending) (w' : World) : Prop := ∃ l, e = .returned (.tuple #[]) ∧ Fst m l ∧ OwnOp B l v w' ∧ Below B w w'
set_option maxRecDepth 100000 in
theorem tsort_any (B : Nat) (m : List Opn) (v : Value) (w : World) (h : OwnOp B m v w) (hm : m.length ≤ 50000) :
    Calls Try.prog 61 #[v, CmpF] w (SortPost B m v w) := by
  by_cases hne : m = []
  · subst hne
    have hF := fst_nil
    obtain ⟨a, c, rfl, _⟩ := h.isR op_len
    have HO := Lib.hid h
    clear h
    go_enter Try.func61, Try.ntmps61
    go_wp2_with fail
    refine (tstable_zero a c CmpF w).mono ?_
    rintro e w1 ⟨rfl, rfl⟩
    go_wp2_with fail
    go_end0
    exact ⟨[], rfl, hF, HO.out, Below.refl _ _⟩
  · obtain ⟨g, c, rfl, _⟩ := h.row hne
    have HC := Lib.hid (tstable_any B g m.length c m w h hm)
    clear h
    go_enter Try.func61, Try.ntmps61
    go_wp2_with fail
    refine (HC.out).mono ?_
    rintro e w1 ⟨l, rfl, hf, hown, c1⟩
    have HF := Lib.hid hf
    have HO := Lib.hid hown
    clear hf hown
    go_wp2_with fail
    go_end0
    exact ⟨l, rfl, HF.out, HO.out, c1⟩
def OpsOwn (B : Nat) (l : List Opn) (w : World) (e : Ending) (w' : World) : Prop := ∃ v, e = .returned v ∧ OwnOp B l v w' ∧ Below B w w'
set_option maxRecDepth 100000 in
set_option maxHeartbeats 4000000 in
theorem tcomp_any (B : Nat) (s : List Opn) (v : Value) (w : World) (h : OwnOp B s v w) (hs : s.length ≤ 50000) :
    Calls Try.prog 63 #[v, EqF] w (OpsOwn B (cmpt s) w) := by
  by_cases hne : s = []
  · subst hne
    obtain ⟨a, c, rfl, _⟩ := h.isR op_len
    have HO := Lib.hid h
    clear h
    go_enter Try.func63, Try.ntmps63
    go_wp2_with fail
    go_ret
    exact ⟨_, rfl, HO.out, Below.refl _ _⟩
  · obtain ⟨g, c, rfl, _⟩ := h.row hne
    exact (tcompact_any B g s.length c s w h (by omega)).mono fun e w' ⟨h1, h2, h3⟩ => ⟨_, h1, h2, h3⟩
set_option maxRecDepth 100000 in
set_option maxHeartbeats 8000000 in
theorem tinorder_any (a : Option Addr) (c : Nat) (l : List Opn) (w : World) (h : IsOp w a c l) (hl : l.length ≤ 1000) (hsm : ∀ o ∈ l, o.s.size ≤ 1000) (hr : RgOs l) :
    Calls Try.prog 39 #[.slice a l.length c] w (OpsOwn w.heap.size (sortO l) w) := by
  obtain ⟨ii, hii, hz, hsz, hby⟩ := info_parts infoOp
  have HI := Lib.hid h
  have HSm := Lib.hid hsm
  have HRg := Lib.hid hr
  clear h hsm hr
  go_enter Try.func39, Try.ntmps39
  go_wp2_with fail
  go_loopw [3, 8] (fun out u w' => ∃ k : Nat, k ≤ l.length ∧ u = .int .i64 k ∧ OwnOp w.heap.size ((l.take k).filter mayO) out w' ∧ Below w.heap.size w w') (fun _ u _ => l.length - (RowKit.intOf u).toNat)
  case atStart => exact ⟨0, Nat.zero_le _, rfl, ownR_nil _ _ _ _, Below.refl _ _⟩
  case round =>
    obtain ⟨k, hk, rfl, hown, ck⟩ := hrel
    obtain ⟨vo, rfl⟩ : ∃ x, x = u3 := ⟨_, rfl⟩
    have HO := Lib.hid hown
    clear hown
    have hsz0 := ck.size
    by_cases hkl : k < l.length
    · obtain ⟨x, hx⟩ : ∃ x, l[k]? = some x := ⟨_, List.getElem?_eq_getElem hkl⟩
      obtain ⟨g, o, rfl, hlt, hc⟩ := (HI.out.below ck).opn hx
      obtain ⟨k0, k1, k2, k3, k4, k5, k6⟩ := hc k x hx
      have hmx := List.mem_of_getElem? hx
      have hro := HRg.out x hmx
      have HCk := Lib.hid (fun w => ochk_any x w (by have := HSm.out x hmx; unfold maxLen; omega) hro.2.2.2.1 hro.2.2.2.2)
      have hft : (l.take (k + 1)).filter mayO = (l.take k).filter mayO ++ [x].filter mayO := by rw [List.take_add_one, hx, List.filter_append]; rfl
      have HFt := Lib.hid hft
      have q1 := below_alloc wr (.cells #[.int .i64 x.c, .int .i64 x.r, .int .i64 x.k, .int .i64 x.n, .int .i64 x.p, .string x.s, .string x.d] 26)
      have HOx := Lib.hid (hasO_new wr x 26)
      have HO1 := Lib.hid (OwnR.below HO.out q1)
      have b1 := step_b ck q1
      obtain ⟨d, hd⟩ : ∃ d, mayO x = d := ⟨_, rfl⟩
      rw [hd] at HCk
      have HDm := Lib.hid hd
      have hkl2 : (k : Int) < (l.length : Int) := by omega
      have HLf := Lib.hid (show ((l.take k).filter mayO).length ≤ k from Nat.le_trans (List.length_filter_le _ _) (by rw [List.length_take]; omega))
      clear hx hc hmx hro hft hd q1
      cases d with
      | true =>
        go_wp2_with fail
        refine (HCk.out _).mono ?_
        rintro e w2 ⟨rfl, c2⟩
        have b2 := step_b b1 c2
        have HO2 := Lib.hid (OwnR.below HO1.out c2)
        obtain ⟨m0, m1, m2, m3, m4, m5, m6⟩ := HOx.out.below c2
        have hF2 := Lib.hid (show (l.take (k + 1)).filter mayO = (l.take k).filter mayO ++ [x] by rw [HFt.out, List.filter_cons, HDm.out]; rfl)
        have q0 := below_alloc w2 (.cells #[.int .i64 x.c, .int .i64 x.r, .int .i64 x.k, .int .i64 x.n, .int .i64 x.p, .string x.s, .string x.d] 26)
        have HSrc := Lib.hid (src_one (P := Try.prog) (t := 22) (c := 1) op_len op_one Try.underlying22 (show AtC (cellsOp x) (w2.alloc (.cells #[.int .i64 x.c, .int .i64 x.r, .int .i64 x.k, .int .i64 x.n, .int .i64 x.p, .string x.s, .string x.d] 26)) w2.heap.size 0 from atC_new w2 _ 26))
        have hs2 := b2.size
        have HB2 := Lib.hid b2
        have HQ0 := Lib.hid q0
        clear c2 b2 q0
        go_wp2_with (at_builtin; refine wpList_append_rec cellsOp rfl _ _ 22 rfl w.heap.size 26 ii _ 72 Try.underlying22 hii hz hsz hby rfl vo ((l.take k).filter mayO) [x] rfl (OwnR.below HO2.out HQ0.out) _ rfl HSrc.out (by have := HLf.out; unfold maxLen; simp only [List.length_singleton]; omega) (by have := HLf.out; simp only [List.length_singleton]; omega) (by have := HQ0.out.size; omega) ?_)
        intro v3 w3 ho3 c3
        rw [← hF2.out] at ho3
        have HO3 := Lib.hid ho3
        have HB3 := Lib.hid ((step_b HB2.out HQ0.out).trans c3)
        clear ho3 c3 m0 m1 m2 m3 m4 m5 m6
        go_wp2_with fail
        go_roundw
        case rel => exact ⟨k + 1, by omega, by go_num, HO3.out, HB3.out⟩
        case measure => simp [RowKit.intOf]; omega
      | false =>
        go_wp2_with fail
        refine (HCk.out _).mono ?_
        rintro e w2 ⟨rfl, c2⟩
        have b2 := step_b b1 c2
        have HO2 := Lib.hid (OwnR.below HO1.out c2)
        have hF2 := Lib.hid (show (l.take (k + 1)).filter mayO = (l.take k).filter mayO by rw [HFt.out, List.filter_cons, HDm.out]; simp)
        clear c2
        go_wp2_with fail
        go_roundw
        case rel => exact ⟨k + 1, by omega, by go_num, by rw [hF2.out]; exact HO2.out, b2⟩
        case measure => simp [RowKit.intOf]; omega
    · obtain rfl : k = l.length := by omega
      rw [List.take_length] at HO
      have HLf := Lib.hid (show (l.filter mayO).length ≤ 1000 from Nat.le_trans (List.length_filter_le _ _) hl)
      have hkl2 : ¬ (l.length : Int) < (l.length : Int) := by omega
      go_wp2_with fail
      refine (tsort_any w.heap.size (l.filter mayO) vo wr HO.out (by have := HLf.out; omega)).mono ?_
      rintro e w2 ⟨s, rfl, hf, hown, c2⟩
      have HE := Lib.hid (cmpt_sort hf)
      have b2 := ck.trans c2
      have HC := Lib.hid (tcomp_any w.heap.size s vo w2 hown (by rw [hf.2.1]; have := HLf.out; omega))
      clear hf hown c2
      go_wp2_with fail
      refine (HC.out).mono ?_
      rintro e w3 ⟨v3, rfl, hown3, c3⟩
      rw [HE.out] at hown3
      have HO3 := Lib.hid hown3
      have b3 := b2.trans c3
      clear hown3 c3 HC
      go_wp2_with fail
      go_ret
      exact ⟨v3, rfl, HO3.out, b3⟩
set_option maxRecDepth 100000 in
set_option maxHeartbeats 8000000 in
theorem tfold_any (a : Option Addr) (c : Nat) (l : List Opn) (w : World) (h : IsOp w a c l) (hl : l.length ≤ 1000) (hsm : ∀ o ∈ l, o.s.size ≤ 1000 ∧ o.d.size ≤ 1000) (hr : RgOs l) :
    Calls Try.prog 25 #[.slice a l.length c] w (NodsPost (foldN l) w) := by
  have HIn := Lib.hid (tinorder_any a c l w h hl (fun o ho => (hsm o ho).1) hr)
  have hsl := sort_len l
  have HMay := Lib.hid (fun o (ho : o ∈ sortO l) => (sortO_may ho).1)
  obtain ⟨R, hR⟩ : ∃ R, foldN l = R := ⟨_, rfl⟩
  rw [hR]
  unfold foldN at hR
  obtain ⟨s, hs⟩ : ∃ s, sortO l = s := ⟨_, rfl⟩
  rw [hs] at HIn hsl HMay hR
  have HRe := Lib.hid hR
  clear h hsm hr hs hR
  go_enter Try.func25, Try.ntmps25
  go_wp2_with fail
  refine (HIn.out).mono ?_
  rintro e w1 ⟨v, rfl, hown, c1⟩
  obtain ⟨av, cv, rfl, hi⟩ := OwnR.isR op_len hown
  have HI := Lib.hid hi
  have C1 := Lib.hid c1
  have hs1 := c1.size
  clear hown hi c1 HIn
  go_wp2_with fail
  go_loopw [3, 9] (fun out u w' => ∃ k : Nat, k ≤ s.length ∧ u = .int .i64 k ∧ OwnNd w1.heap.size (doAll [] (s.take k)) out w' ∧ Below w1.heap.size w1 w') (fun _ u _ => s.length - (RowKit.intOf u).toNat)
  case atStart => exact ⟨0, Nat.zero_le _, rfl, ownR_nil _ _ _ _, Below.refl _ _⟩
  case round =>
    obtain ⟨k, hk, rfl, hown, ck⟩ := hrel
    have HO := Lib.hid hown
    obtain ⟨am, cm, e0, _⟩ := OwnR.isR nd_len hown
    clear hown
    by_cases hkl : k < s.length
    · obtain ⟨x, hx⟩ : ∃ x, s[k]? = some x := ⟨_, List.getElem?_eq_getElem hkl⟩
      obtain ⟨g, o, rfl, hlt, hc⟩ := (HI.out.below ck).opn hx
      obtain ⟨k0, k1, k2, k3, k4, k5, k6⟩ := hc k x hx
      have hmx := HMay.out x (List.mem_of_getElem? hx)
      have q1 := below_alloc wr (.cells #[.int .i64 x.c, .int .i64 x.r, .int .i64 x.k, .int .i64 x.n, .int .i64 x.p, .string x.s, .string x.d] 26)
      have b1 := step_b ck q1
      have hTk := Lib.hid (show doAll [] (s.take (k + 1)) = (doN (doAll [] (s.take k)) x).1 by rw [List.take_add_one, hx]; exact doAll_snoc _ _ _)
      have hT := (tree_all (s.take k) tree_nil).1
      have hTl := doAll_len (s.take k)
      rw [List.length_take] at hTl
      obtain ⟨T, hTe⟩ : ∃ T, doAll [] (s.take k) = T := ⟨_, rfl⟩
      rw [hTe] at HO e0 hTk hT hTl
      subst e0
      have HDo := Lib.hid (tdoin_any w1.heap.size am cm T x _ (OwnR.below HO.out q1) b1.size hT hmx (by omega))
      have hkl2 : (k : Int) < (s.length : Int) := by omega
      clear hx hc hmx q1 hTe hT hTl
      go_wp2_with fail
      refine (HDo.out).mono ?_
      rintro e w2 ⟨v2, rfl, hown2, c2⟩
      rw [← hTk.out] at hown2
      have HO2 := Lib.hid hown2
      have b2 := b1.trans c2
      clear hown2 c2 HDo
      go_wp2_with fail
      go_roundw
      case rel => exact ⟨k + 1, by omega, by go_num, HO2.out, b2⟩
      case measure => simp [RowKit.intOf]; omega
    · obtain rfl : k = s.length := by omega
      rw [List.take_length, HRe.out] at HO e0
      subst e0
      have hkl2 : ¬ (s.length : Int) < (s.length : Int) := by omega
      go_wp2_with fail
      go_ret
      exact ⟨am, cm, rfl, OwnR.isRv nd_len HO.out, C1.out.trans (ck.mono hs1)⟩
end Go.Proofs.Ytnndanpahcdmaaa
