/- Several texts of this seat in one, in build order. -/
import Derived.Test.YtnndanpahcdmaaaPkL
import Derived.Test.YtnndanpahcdmaaaRSameN
import Derived.Test.YtnndanpahcdmaaaPkM
import Derived.Test.YtnndanpahcdmaaaRFold
import Derived.Test.YtnndanpahcdmaaaPkW
import Derived.KernelRfl
import Derived.Deep.RegionHeld3
import Derived.Deep.DeepCutAuto
import Derived.Test.YtnndanpahcdmaaaTOpen
/-
  The document's Same, of operations and of logs that are the same; the landed Ops.
-/
namespace Go.Proofs.Ytnndanpahcdmaaa
open Go.RowKit Go.Lib
theorem set_step {α : Type} (z : α) {s : List α} {k : Nat} {o : α} (h : s[k]? = some o) : (s.take k ++ List.replicate (s.length - k) z).set k o = s.take (k + 1) ++ List.replicate (s.length - (k + 1)) z := by
  have hk := (List.getElem?_eq_some_iff.1 h).1
  obtain ⟨m, hm⟩ : ∃ m, s.length - k = m + 1 := ⟨s.length - k - 1, by omega⟩
  rw [hm, List.replicate_succ, List.set_append_right _ _ (by rw [List.length_take]; omega), List.length_take, Nat.min_eq_left (by omega), Nat.sub_self, List.set_cons_zero, List.take_add_one, h, show s.length - (k + 1) = m by omega]
  simp
set_option maxRecDepth 100000 in
set_option maxHeartbeats 4000000 in
theorem osame_yes (a b : Option Addr) (c d : Nat) (l : List Opn) (w : World) (ha : IsOp w a c l) (hb : IsOp w b d l) (hl : l.length ≤ 1000000) :
    Calls Try.prog 18 #[.slice a l.length c, .slice b l.length d] w fun e w' => e = .returned (.bool true) ∧ Below w.heap.size w w' := by
  have HA := Lib.hid ha
  have HB := Lib.hid hb
  clear ha hb
  go_enter Try.func18, Try.ntmps18
  go_wp2
  go_loopw [5] (fun i w' => ∃ k : Nat, k ≤ l.length ∧ i = .int .i64 k ∧ Below w.heap.size w w') (fun i _ => l.length - (RowKit.intOf i).toNat)
  case atStart => exact ⟨0, Nat.zero_le _, rfl, Below.refl _ _⟩
  case round =>
    obtain ⟨k, hk, rfl, ck⟩ := hrel
    by_cases hkl : k < l.length
    · obtain ⟨x, hx⟩ : ∃ x, l[k]? = some x := ⟨l[k], List.getElem?_eq_getElem hkl⟩
      obtain ⟨g1, o1, rfl, hlt1, hc1⟩ := (IsR.below HA.out ck).opn hx
      obtain ⟨g2, o2, rfl, hlt2, hc2⟩ := (IsR.below HB.out ck).opn hx
      obtain ⟨k0, k1, k2, k3, k4, k5, k6⟩ := hc1 k x hx
      obtain ⟨j0, j1, j2, j3, j4, j5, j6⟩ := hc2 k x hx
      have t1 : (k : Int) < (l.length : Int) := by omega
      clear hx hc1 hc2
      go_wp2
      go_quiet (fail)
      go_wp2
      go_roundw
      case rel => exact ⟨k + 1, by omega, by go_num, below_drewN ck nq⟩
      case measure => simp [RowKit.intOf]; omega
    · have e : k = l.length := by omega
      subst e
      go_wp2
      go_ret
      exact ⟨rfl, ck⟩
set_option maxRecDepth 100000 in
set_option maxHeartbeats 4000000 in
theorem mops_any (a : Option Addr) (c : Nat) (b : Option Addr) (d : Nat) (s : List Opn) (w : World) (h : IsLg w a c b d s) (hl : s.length ≤ 100000) :
    Calls Try.prog 19 #[LV a c b d s] w fun e w' => ∃ v, e = .returned v ∧ OwnOp w.heap.size s v w' ∧ Below w.heap.size w w' := by
  obtain ⟨iO, hiO, hzO, hszO, hbyO⟩ := info_parts infoOp
  have HI := Lib.hid h.1
  obtain ⟨n, hn⟩ : ∃ n, (doAll [] s).length = n := ⟨_, rfl⟩
  change Calls _ _ #[.agg #[.slice a s.length c, .slice b (doAll [] s).length d]] _ _
  rw [hn]
  clear h hn
  have G0 := Lib.hid (cells_new w [.slice a s.length c, .slice b n d] 32)
  have bA := (Below.refl w.heap.size w).alloc (Nat.le_refl _) (.cells #[.slice a s.length c, .slice b n d] 32)
  have hlt0 : w.heap.size < (w.alloc (.cells #[.slice a s.length c, .slice b n d] 32)).heap.size := by simp
  have h63 : s.length ≤ maxLen := by unfold maxLen; omega
  go_enter Try.func19, Try.ntmps19
  go_wp2_with (at_make; refine wpList_make_rec op_len rfl _ _ 22 rfl 26 iO _ 72 Try.underlying22 hiO hzO hszO hbyO ⟨0, 0, 0, 0, 0, emptyB, emptyB⟩ rfl _ _ _ _ s.length s.length rfl rfl rfl (by omega) (by omega) (by omega) h63 (w.heap.size + 1) (by simp) ?_)
  intro w1 ho1 c1 z1
  have HO1 := Lib.hid ho1
  have B1 := Lib.hid c1
  have G1 := Lib.hid (G0.out.belowN (Nat.lt_succ_self _) c1)
  have g0 := G1.out.cell 0 _ rfl
  have glt := G1.out.lt
  have s1 := c1.size
  clear ho1 c1
  go_wp2_with fail
  go_loopw [4, 5, 13] (fun _ _ x13 w' => ∃ k : Nat, k ≤ s.length ∧ x13 = .int .i64 k ∧ OwnOp (w.heap.size + 1) (s.take k ++ List.replicate (s.length - k) ⟨0, 0, 0, 0, 0, emptyB, emptyB⟩) (.slice (some ⟨w.heap.size + 1, 0, none⟩) s.length s.length) w' ∧ Below (w.heap.size + 1) (w.alloc (.cells #[.slice a s.length c, .slice b n d] 32)) w') (fun _ _ x13 _ => s.length - (RowKit.intOf x13).toNat)
  case atStart => exact ⟨0, Nat.zero_le _, rfl, by rw [List.take_zero, List.nil_append, Nat.sub_zero]; exact HO1.out, B1.out⟩
  case round =>
    obtain ⟨k, hk, rfl, ho, ck⟩ := hrel
    have HO := Lib.hid ho
    have ckw := bA.trans (ck.mono (Nat.le_succ _))
    have sr := ck.size
    have hltr := (OwnC.lt ho _ rfl).2
    clear ho
    by_cases hks : k < s.length
    · obtain ⟨o, ho⟩ : ∃ o, s[k]? = some o := ⟨s[k], List.getElem?_eq_getElem hks⟩
      have hee := ents_at ho
      obtain ⟨g, off, rfl, hlt, hc⟩ := (IsR.below HI.out ckw).ent hee
      have hAt := atEn_of (hc k _ hee)
      generalize (doN (doAll [] (s.take k)) o).2 = u at hAt
      obtain ⟨m0, m1, m2, m3, m4, m5, m6, m7, m8, m9, m10, m11, m12, m13, m14, m15, m16⟩ := hAt
      simp only [] at m0 m1 m2 m3 m4 m5 m6 m7 m8 m9 m10 m11 m12 m13 m14 m15 m16
      have hks2 : (k : Int) < (s.length : Int) := by omega
      have qn := below_alloc wr (.cells #[.int .i64 o.c, .int .i64 o.r, .int .i64 o.k, .int .i64 o.n, .int .i64 o.p, .string o.s, .string o.d, .bool u.did, .bool u.had, .int .i64 u.was.id, .int .i64 u.was.p, .string u.was.s, .int .i64 u.was.mc, .int .i64 u.was.mr, .string u.was.d, .int .i64 u.was.wc, .int .i64 u.was.wr] 49)
      have HO2 := Lib.hid (OwnR.below HO.out qn)
      have HSet := Lib.hid (set_step (⟨0, 0, 0, 0, 0, emptyB, emptyB⟩ : Opn) ho)
      have hlen : (s.take k ++ List.replicate (s.length - k) (⟨0, 0, 0, 0, 0, emptyB, emptyB⟩ : Opn)).length = s.length := by simp; omega
      have HLen := Lib.hid hlen
      obtain ⟨lz, hlz⟩ : ∃ lz, s.take k ++ List.replicate (s.length - k) (⟨0, 0, 0, 0, 0, emptyB, emptyB⟩ : Opn) = lz := ⟨_, rfl⟩
      rw [hlz] at HO2 HSet HLen
      have B2 := Lib.hid (ck.trans (qn.mono (by omega)))
      clear hc hee ho hlen qn hlz
      go_wp2_with (refine wpList_store_rec op_len op_one rfl rfl 26 _ _ rfl (by kernel_rfl) (w.heap.size + 1) (w.heap.size + 1) _ _ _ HO2.out k (by rw [HLen.out]; exact hks) o _ rfl rfl rfl ?_)
      intro w4 h4 c4 _ _
      rw [HSet.out] at h4
      have H4 := Lib.hid h4
      have B4 := Lib.hid (B2.out.trans c4)
      clear h4 c4
      go_wp2_with fail
      go_roundw
      case rel => exact ⟨k + 1, by omega, by go_num, H4.out, B4.out⟩
      case measure => simp [RowKit.intOf]; omega
    · obtain rfl : k = s.length := by omega
      have hks2 : ¬ (s.length : Int) < (s.length : Int) := by omega
      have hall := HO.out
      rw [List.take_length, Nat.sub_self, List.replicate_zero, List.append_nil] at hall
      have HA := Lib.hid (OwnR.mono (B' := w.heap.size) hall (Nat.le_succ _))
      clear hall
      go_wp2_with fail
      go_ret
      exact ⟨_, rfl, HA.out, ckw⟩
end Go.Proofs.Ytnndanpahcdmaaa
/-
  The document's Same, of logs that are the same.
-/
namespace Go.Proofs.Ytnndanpahcdmaaa
open Go.RowKit Go.Lib
set_option maxRecDepth 100000 in
set_option maxHeartbeats 4000000 in
theorem lsame_yes (a : Option Addr) (c : Nat) (b : Option Addr) (d : Nat) (a2 : Option Addr) (c2 : Nat) (b2 : Option Addr) (d2 : Nat) (s : List Opn) (w : World) (h : IsLg w a c b d s) (h2 : IsLg w a2 c2 b2 d2 s) (hl : s.length ≤ 100000) :
    Calls Try.prog 15 #[LV a c b d s, LV a2 c2 b2 d2 s] w fun e w' => e = .returned (.bool true) ∧ Below w.heap.size w w' := by
  have HI := Lib.hid h.1
  have HJ := Lib.hid h2.1
  have HNs := Lib.hid (fun (w' : World) (hb : Below w.heap.size w w') => rnsame_any b b2 d d2 (doAll [] s) (doAll [] s) w' (IsR.below h.2 hb) (IsR.below h2.2 hb) (Nat.le_trans (doAll_len s) (by omega)))
  rw [show sameN (doAll [] s) (doAll [] s) = true from decide_eq_true rfl] at HNs
  obtain ⟨n, hn⟩ : ∃ n, (doAll [] s).length = n := ⟨_, rfl⟩
  change Calls _ _ #[.agg #[.slice a s.length c, .slice b (doAll [] s).length d], .agg #[.slice a2 s.length c2, .slice b2 (doAll [] s).length d2]] _ _
  rw [hn] at HNs ⊢
  clear h h2 hn
  obtain ⟨A, hA⟩ : ∃ A, A = (w.alloc (.cells #[.slice a s.length c, .slice b n d] 32)).alloc (.cells #[.slice a2 s.length c2, .slice b2 n d2] 32) := ⟨_, rfl⟩
  have g0 : Cells A w.heap.size [.slice a s.length c, .slice b n d] := by rw [hA]; exact (cells_new w [.slice a s.length c, .slice b n d] 32).below (below_alloc _ _)
  have g1 : Cells A (w.heap.size + 1) [.slice a2 s.length c2, .slice b2 n d2] := by
    rw [hA]
    have q := cells_new (w.alloc (.cells #[.slice a s.length c, .slice b n d] 32)) [.slice a2 s.length c2, .slice b2 n d2] 32
    rw [show (w.alloc (.cells #[.slice a s.length c, .slice b n d] 32)).heap.size = w.heap.size + 1 by simp] at q
    exact q
  have gb : Below w.heap.size w A := by rw [hA]; exact ((Below.refl w.heap.size w).alloc (Nat.le_refl _) _).alloc (by simp) _
  have G0 := Lib.hid g0
  have G1 := Lib.hid g1
  have GB := Lib.hid gb
  clear g0 g1 gb
  go_enter Try.func15, Try.ntmps15
  go_wp2_with fail
  rw [← hA]
  clear hA
  go_loopw [5] (fun i w' => ∃ k : Nat, k ≤ s.length ∧ i = .int .i64 k ∧ Below A.heap.size A w') (fun i _ => s.length - (RowKit.intOf i).toNat)
  case atStart => exact ⟨0, Nat.zero_le _, rfl, Below.refl _ _⟩
  case round =>
    obtain ⟨k, hk, rfl, ck⟩ := hrel
    have BW := Lib.hid (step_b GB.out ck)
    have E0 := Lib.hid (G0.out.below ck)
    have E1 := Lib.hid (G1.out.below ck)
    have x0 := E0.out.cell 0 _ rfl
    have x1 := E0.out.cell 1 _ rfl
    have y0 := E1.out.cell 0 _ rfl
    have y1 := E1.out.cell 1 _ rfl
    by_cases hkl : k < s.length
    · obtain ⟨o, ho⟩ : ∃ o, s[k]? = some o := ⟨s[k], List.getElem?_eq_getElem hkl⟩
      have hee := ents_at ho
      obtain ⟨g, off, rfl, hlt, hc⟩ := (IsR.below HI.out BW.out).ent hee
      obtain ⟨g2, off2, rfl, hlt2, hc2⟩ := (IsR.below HJ.out BW.out).ent hee
      have hAt := atEn_of (hc k _ hee)
      have hAt2 := atEn_of (hc2 k _ hee)
      generalize (doN (doAll [] (s.take k)) o).2 = u at hAt hAt2
      obtain ⟨m0, m1, m2, m3, m4, m5, m6, m7, m8, m9, m10, m11, m12, m13, m14, m15, m16⟩ := hAt
      obtain ⟨n0, n1, n2, n3, n4, n5, n6, n7, n8, n9, n10, n11, n12, n13, n14, n15, n16⟩ := hAt2
      simp only [] at m0 m1 m2 m3 m4 m5 m6 m7 m8 m9 m10 m11 m12 m13 m14 m15 m16 n0 n1 n2 n3 n4 n5 n6 n7 n8 n9 n10 n11 n12 n13 n14 n15 n16
      have hks2 : (k : Int) < (s.length : Int) := by omega
      clear hc hc2 hee ho
      go_wp2
      go_quiet (fail)
      go_wp2
      go_roundw
      case rel => exact ⟨k + 1, by omega, by go_num, below_drewN ck nq⟩
      case measure => simp [RowKit.intOf]; omega
    · obtain rfl : k = s.length := by omega
      have hks2 : ¬ (s.length : Int) < (s.length : Int) := by omega
      go_wp2_with fail
      refine (HNs.out _ BW.out).mono ?_
      rintro e w3 ⟨rfl, c3⟩
      go_wp2_with fail
      go_ret
      exact ⟨rfl, step_b BW.out c3⟩
end Go.Proofs.Ytnndanpahcdmaaa
/-
  awake() answers true.
-/
namespace Go.Proofs.Ytnndanpahcdmaaa
open Go.RowKit Go.Lib
def awA : Opn := ⟨1, 0, 1, 128, 0, ⟨#[120]⟩, ⟨#[]⟩⟩
def awB : Opn := ⟨2, 0, 1, 256, 128, ⟨#[120]⟩, ⟨#[]⟩⟩
def awC : Opn := ⟨3, 0, 1, 128, 256, ⟨#[120]⟩, ⟨#[]⟩⟩
def awD : Opn := ⟨2, 0, 1, 256, 0, ⟨#[120]⟩, ⟨#[]⟩⟩
def aw0 : Opn := ⟨0, 0, 0, 0, 0, ⟨#[]⟩, ⟨#[]⟩⟩
def awS : List Opn := [awA, awB, awC]
def n1 : Nod := ⟨128, 0, ⟨#[120]⟩, 1, 0, ⟨#[]⟩, 0, 0⟩
def n2 : Nod := ⟨256, 128, ⟨#[120]⟩, 2, 0, ⟨#[]⟩, 0, 0⟩
set_option maxRecDepth 100000 in
theorem e_all : allL [] [awC, awB, awA, awA, aw0] = (awS, 1) := by kernel_rfl
set_option maxRecDepth 100000 in
theorem e_add : addL awS awD = (awS, 0) := by kernel_rfl
set_option maxRecDepth 100000 in
theorem e_nodes : doAll [] awS = [n1, n2] := by kernel_rfl
set_option maxRecDepth 100000 in
theorem e_ents : ents awS = [⟨awA, ⟨true, false, noNod⟩⟩, ⟨awB, ⟨true, false, noNod⟩⟩, ⟨awC, noUnd⟩] := by kernel_rfl
set_option maxRecDepth 100000 in
theorem e_has : hasS awS 3 0 = true := by kernel_rfl
set_option maxRecDepth 100000 in
theorem e_hasn : hasS awS 4 0 = false := by kernel_rfl
set_option maxRecDepth 100000 in
theorem e_ok : OkS awS := by
  have := okS_nil.all [awC, awB, awA, awA, aw0] (by intro o ho; simp only [List.mem_cons, List.not_mem_nil, or_false] at ho; rcases ho with rfl | rfl | rfl | rfl | rfl <;> exact ⟨by decide, by decide⟩) (by decide)
  rw [e_all] at this
  exact this
set_option maxRecDepth 100000 in
theorem lv_aw (a : Option Addr) (c : Nat) (b : Option Addr) (d : Nat) : LV a c b d awS = .agg #[.slice a 3 c, .slice b 2 d] := by
  show Value.agg #[.slice a 3 c, .slice b (doAll [] awS).length d] = _
  rw [e_nodes]; rfl
def Fresh (B : Nat) (a : Option Addr) : Prop := ∀ q o, a = some ⟨q, o, none⟩ → B ≤ q
theorem OwnLg.fresh {B : Nat} {s : List Opn} {x : Value} {w : World} (h : OwnLg B s x w) : ∃ a c b d, x = LV a c b d s ∧ IsLg w a c b d s ∧ Fresh B a ∧ Fresh B b := by
  obtain ⟨v, u, rfl, h1, h2⟩ := h
  obtain ⟨a, c, rfl, i1⟩ := OwnR.isR en_len h1
  obtain ⟨b, d, rfl, i2⟩ := OwnR.isR nd_len h2
  rw [ents_len] at h1 ⊢
  exact ⟨a, c, b, d, rfl, ⟨i1, i2⟩, fun q o e => (OwnR.start h1 q o e).1, fun q o e => (OwnR.start h2 q o e).1⟩
set_option maxRecDepth 100000 in
theorem aw_all (w : World) {a : Option Addr} {c : Nat} (h : IsOp w a c [awC, awB, awA, awA, aw0]) :
    Calls Try.prog 11 #[.agg #[.slice none 0 0, .slice none 0 0], .slice a 5 c] w fun e w' => ∃ a c b d, e = .returned (.tuple #[.agg #[.slice a 3 c, .slice b 2 d], .int .i64 1]) ∧ IsLg w' a c b d awS ∧ Below w.heap.size w w' := by
  have := mall_any none 0 none 0 [] a c [awC, awB, awA, awA, aw0] w (isLg_nil w) okS_nil h (by decide) (by intro o ho; simp only [List.mem_cons, List.not_mem_nil, or_false] at ho; rcases ho with rfl | rfl | rfl | rfl | rfl <;> exact ⟨by decide, by decide⟩) (by decide)
  rw [e_all] at this
  refine Calls.mono this ?_
  rintro e w' ⟨x, rfl, hx, hb⟩
  obtain ⟨a, c, b, d, rfl, hl⟩ := OwnLg.isLg hx
  exact ⟨a, c, b, d, by rw [lv_aw]; rfl, hl, hb⟩
set_option maxRecDepth 100000 in
theorem aw_add (w : World) {a b : Option Addr} {c d : Nat} (h : IsLg w a c b d awS) :
    Calls Try.prog 13 #[.agg #[.slice a 3 c, .slice b 2 d], OV awD] w fun e w' => ∃ a c b d, e = .returned (.tuple #[.agg #[.slice a 3 c, .slice b 2 d], .int .i64 0]) ∧ IsLg w' a c b d awS ∧ Fresh w.heap.size a ∧ Fresh w.heap.size b ∧ Below w.heap.size w w' := by
  have := madd_any a c b d awS awD w h e_ok ⟨by decide, by decide⟩ (by decide)
  rw [e_add, lv_aw] at this
  refine Calls.mono this ?_
  rintro e w' ⟨x, rfl, hx, hb⟩
  obtain ⟨a, c, b, d, rfl, hl, f1, f2⟩ := OwnLg.fresh hx
  exact ⟨a, c, b, d, by rw [lv_aw], hl, f1, f2, hb⟩
set_option maxRecDepth 100000 in
theorem aw_same (w : World) {a b a2 b2 : Option Addr} {c d c2 d2 : Nat} (h : IsLg w a c b d awS) (h2 : IsLg w a2 c2 b2 d2 awS) :
    Calls Try.prog 15 #[.agg #[.slice a 3 c, .slice b 2 d], .agg #[.slice a2 3 c2, .slice b2 2 d2]] w fun e w' => e = .returned (.bool true) ∧ Below w.heap.size w w' := by
  have := lsame_yes a c b d a2 c2 b2 d2 awS w h h2 (by decide)
  rw [lv_aw, lv_aw] at this
  exact this
set_option maxRecDepth 100000 in
theorem aw_has (w : World) {a b : Option Addr} {c d : Nat} (h : IsLg w a c b d awS) :
    Calls Try.prog 16 #[.agg #[.slice a 3 c, .slice b 2 d], .agg #[.int .i64 3, .int .i64 0]] w fun e w' => e = .returned (.bool true) ∧ Below w.heap.size w w' := by
  have := mhas_any a c b d awS 3 0 w h (by decide)
  rw [e_has, lv_aw] at this
  exact this
set_option maxRecDepth 100000 in
theorem aw_hasn (w : World) {a b : Option Addr} {c d : Nat} (h : IsLg w a c b d awS) :
    Calls Try.prog 16 #[.agg #[.slice a 3 c, .slice b 2 d], .agg #[.int .i64 4, .int .i64 0]] w fun e w' => e = .returned (.bool false) ∧ Below w.heap.size w w' := by
  have := mhas_any a c b d awS 4 0 w h (by decide)
  rw [e_hasn, lv_aw] at this
  exact this
set_option maxRecDepth 100000 in
theorem aw_ops (w : World) {a b : Option Addr} {c d : Nat} (h : IsLg w a c b d awS) :
    Calls Try.prog 19 #[.agg #[.slice a 3 c, .slice b 2 d]] w fun e w' => (∃ a c, e = .returned (.slice a 3 c)) ∧ Below w.heap.size w w' := by
  have := mops_any a c b d awS w h (by decide)
  rw [lv_aw] at this
  refine Calls.mono this ?_
  rintro e w' ⟨v, rfl, hv, hb⟩
  obtain ⟨a, c, rfl, _⟩ := OwnR.isR op_len hv
  exact ⟨⟨a, c, rfl⟩, hb⟩
set_option maxRecDepth 100000 in
theorem move_is (c n p : Int) (w : World) :
    Calls Try.prog 27 #[.int .i64 c, .int .i64 n, .int .i64 p] w fun e w' => e = .returned (OV ⟨c, 0, 1, n, p, ⟨#[120]⟩, ⟨#[]⟩⟩) ∧ Below w.heap.size w w' := by
  go_enter Try.func27, Try.ntmps27
  go_wp2_with fail
  refine bodyPost_ret (v := OV ⟨c, 0, 1, n, p, ⟨#[120]⟩, ⟨#[]⟩⟩) (by simp [results, Try.results27, go_sem]) rfl ⟨rfl, ?_⟩
  exact below_alloc _ _
set_option maxRecDepth 100000 in
theorem isR_new {α : Type} {f : α → List Value} {k : Nat} (hf : ∀ x, (f x).length = k) (W : World) (n : Nat) (hn : W.heap.size = n) (l : List α) (hl : l.length ≤ 1000) (cs : Array Value) (hcs : cs.toList = cellsR f l) (t : TypeId) : IsR f k (W.alloc (.cells cs t)) (some ⟨n, 0, none⟩) l.length l := by
  subst hn
  obtain ⟨a, c, e, h⟩ := (ownR_made hf t W 0 (Nat.zero_le _) l hl cs hcs).isR hf
  simp only [Value.slice.injEq, true_and] at e
  obtain ⟨rfl, rfl⟩ := e
  exact h
theorem IsLg.store {wa : World} {a : Option Addr} {c : Nat} {b : Option Addr} {d : Nat} {s : List Opn} (h : IsLg wa a c b d s) (gn : Nat) (x y : Value) (h1 : ∀ q o, a = some ⟨q, o, none⟩ → q < wa.heap.size → q ≠ gn) (h2 : ∀ q o, b = some ⟨q, o, none⟩ → q < wa.heap.size → q ≠ gn) : IsLg ((wa.setCell ⟨gn, 0, none⟩ x).setCell ⟨gn, 1, none⟩ y) a c b d s := by
  have hsz : ((wa.setCell ⟨gn, 0, none⟩ x).setCell ⟨gn, 1, none⟩ y).heap.size = wa.heap.size := setCells_heap gn [x, y] 0 wa
  have hot : ∀ k, k < wa.heap.size → k ≠ gn → ((wa.setCell ⟨gn, 0, none⟩ x).setCell ⟨gn, 1, none⟩ y).heap[k]? = wa.heap[k]? := fun k hk hne => World.heap_setCells_other wa gn 0 [x, y] hk hne
  exact ⟨isR_keep h.1 (Nat.le_of_eq hsz.symm) fun _ q o e hl => hot q hl (h1 q o e hl), isR_keep h.2 (Nat.le_of_eq hsz.symm) fun _ q o e hl => hot q hl (h2 q o e hl)⟩
def awCells : Array Value := #[.int .i64 3, .int .i64 0, .int .i64 1, .int .i64 128, .int .i64 256, .string ⟨#[120]⟩, .string ⟨#[]⟩, .int .i64 2, .int .i64 0, .int .i64 1, .int .i64 256, .int .i64 128, .string ⟨#[120]⟩, .string ⟨#[]⟩, .int .i64 1, .int .i64 0, .int .i64 1, .int .i64 128, .int .i64 0, .string ⟨#[120]⟩, .string ⟨#[]⟩, .int .i64 1, .int .i64 0, .int .i64 1, .int .i64 128, .int .i64 0, .string ⟨#[120]⟩, .string ⟨#[]⟩, .int .i64 0, .int .i64 0, .int .i64 0, .int .i64 0, .int .i64 0, .string ⟨#[]⟩, .string ⟨#[]⟩]
set_option maxRecDepth 100000 in
theorem isOp_aw (W : World) (n : Nat) (hn : W.heap.size = n) : IsOp (W.alloc (.cells awCells 26)) (some ⟨n, 0, none⟩) 5 [awC, awB, awA, awA, aw0] :=
  isR_new op_len W n hn [awC, awB, awA, awA, aw0] (by decide) _ rfl _
set_option maxRecDepth 100000 in
set_option maxHeartbeats 4000000 in
theorem awake_any (w : World) : Calls Try.prog 9 #[] w fun e w' => e = .returned (.bool true) ∧ Below w.heap.size w w' := by
  go_enter Try.func9, Try.ntmps9
  go_wp2_with fail
  refine (move_is 3 128 256 w).mono ?_
  rintro e w1 ⟨rfl, b1⟩
  go_wp2_with fail
  refine (move_is 2 256 128 _).mono ?_
  rintro e w2 ⟨rfl, c2⟩
  have b2 := step_b b1 c2
  go_wp2_with fail
  refine (move_is 1 128 0 _).mono ?_
  rintro e w3 ⟨rfl, c3⟩
  have b3 := step_b b2 c3
  go_wp2_with fail
  refine (move_is 1 128 0 _).mono ?_
  rintro e w4 ⟨rfl, c4⟩
  have b4 := step_b b3 c4
  clear b1 c2 b2 c3 b3 c4
  go_wp2_with fail
  refine (aw_all _ (isOp_aw _ _ rfl)).mono ?_
  rintro e w5 ⟨a, c, b, d, rfl, hl, c5⟩
  have q5 := below_alloc w5 (.cells #[.slice a 3 c, .slice b 2 d] 32)
  have b5 := Lib.hid (((b4.alloc b4.size (.cells awCells 26)).trans (c5.mono (Nat.le_trans b4.size (by simp)))))
  have HG0 := Lib.hid (cells_new w5 [.slice a 3 c, .slice b 2 d] 32)
  have HL0 := Lib.hid (hl.below q5)
  obtain ⟨W, hW⟩ : ∃ W, W = w5.alloc (.cells #[.slice a 3 c, .slice b 2 d] 32) := ⟨_, rfl⟩
  have zW : W.heap.size = w5.heap.size + 1 := by rw [hW]; simp
  have hG := HG0.out
  have hL := HL0.out
  have hB := b5.out.trans (q5.mono b5.out.size)
  change Cells (w5.alloc (.cells #[.slice a 3 c, .slice b 2 d] 32)) _ _ at hG
  rw [← hW] at hG hL hB
  have HG := Lib.hid hG
  have HL := Lib.hid hL
  have HB := Lib.hid hB
  have HzW := Lib.hid zW
  clear hG hL hB q5 c5 hl HG0 HL0 b5 b4 zW
  go_upto_region 2 with fail
  rw [← hW]
  clear hW
  go_cut [3, 4] (fun s3 s4 wx => ∃ (gn : Nat) (a3 : Option Addr) (c3 : Nat) (b3 : Option Addr) (d3 : Nat), s3 = .pointer (some ⟨gn, 0, none⟩) ∧ s4 = .int .i64 0 ∧ Cells wx gn [.slice a3 3 c3, .slice b3 2 d3] ∧ Cells wx w5.heap.size [.slice a 3 c, .slice b 2 d] ∧ IsLg wx a c b d awS ∧ IsLg wx a3 c3 b3 d3 awS ∧ Below w.heap.size w wx)
  case first =>
    have HT := Lib.hid (fun (w' : World) (hb : Below W.heap.size W w') => (show w'.cell? ⟨w5.heap.size, 0, none⟩ = some (.slice a 3 c) ∧ w'.cell? ⟨w5.heap.size, 1, none⟩ = some (.slice b 2 d) from ⟨(HG.out.below hb).cell 0 _ rfl, (HG.out.below hb).cell 1 _ rfl⟩))
    have hdr : Below W.heap.size W W.drew := (Below.refl _ _).drew
    have hdra : ∀ X, Below W.heap.size W (W.alloc X).drew := fun X => (below_alloc W X).drew
    have hdrk : Cells (W.alloc (.cells #[.slice none 0 0, .slice none 0 0] 32)).drew W.heap.size [.slice none 0 0, .slice none 0 0] := by
      have q := cells_new W [.slice none 0 0, .slice none 0 0] 32
      exact ⟨q.lt, q.cell, q.free⟩
    go_region_held3 (fun w' => w'.cell? ⟨w5.heap.size, 0, none⟩ = some (.slice a 3 c) ∧ w'.cell? ⟨w5.heap.size, 1, none⟩ = some (.slice b 2 d))
      (first | with_reducible exact HT.out _ hdr | with_reducible exact HT.out _ (hdra _) | with_reducible exact HT.out _ bm | with_reducible exact HT.out _ (Below.alloc bm bm.size _) | with_reducible exact HT.out _ ba | with_reducible exact HT.out _ (Below.alloc ba ba.size _) | with_reducible exact HT.out _ (Below.setCell (p := ⟨_, 1, none⟩) (Below.setCell (p := ⟨_, 0, none⟩) ba (Nat.le_refl _) _) (Nat.le_refl _) _) | with_reducible exact HT.out _ (Below.setCell (p := ⟨_, 1, none⟩) (Below.setCell (p := ⟨_, 0, none⟩) ba bm.size _) bm.size _))
      (first | (go_at_call 27; refine (move_is 2 256 0 W.drew).mono ?_; rintro e wm ⟨rfl, cm⟩; have bm : Below W.heap.size W wm := hdr.trans cm) | (go_at_call 27; refine (move_is 2 256 0 _).mono ?_; rintro e wm ⟨rfl, cm⟩; have bm : Below W.heap.size W wm := (hdra _).trans (cm.mono (hdra _).size); have Km := hdrk.below cm) | (go_at_call 13; refine (aw_add wm (HL.out.below bm)).mono ?_; rintro e wa ⟨a3, c3, b3, d3, rfl, hl3, fa3, fb3, ca⟩; have ba : Below W.heap.size W wa := bm.trans (ca.mono bm.size); have Ka := Km.below ca; have r0 := Ka.cell 0 _ rfl; have r1 := Ka.cell 1 _ rfl; have f0 := Ka.free 0 (by simp); have f1 := Ka.free 1 (by simp); have hltK := Ka.lt) | (go_at_call 13; refine (aw_add wm (HL.out.below bm)).mono ?_; rintro e wa ⟨a3, c3, b3, d3, rfl, hl3, fa3, fb3, ca⟩; have ba : Below W.heap.size W wa := bm.trans (ca.mono bm.size)) | (go_at_call 13; refine (aw_add _ (HL.out.below (bm.alloc bm.size (.cells #[.slice none 0 0, .slice none 0 0] 32)))).mono ?_; rintro e wa ⟨a3, c3, b3, d3, rfl, hl3, fa3, fb3, ca⟩; have ba : Below W.heap.size W wa := (bm.alloc bm.size (.cells #[.slice none 0 0, .slice none 0 0] 32)).trans (ca.mono (bm.alloc bm.size (.cells #[.slice none 0 0, .slice none 0 0] 32)).size); have Ka := (cells_new wm [.slice none 0 0, .slice none 0 0] 32).below ca; have r0 := Ka.cell 0 _ rfl; have r1 := Ka.cell 1 _ rfl; have f0 := Ka.free 0 (by simp); have f1 := Ka.free 1 (by simp); have hltK := Ka.lt))
    · have q6 := below_alloc wa (.cells #[.slice a3 3 c3, .slice b3 2 d3] 32)
      go_wp2_with fail
      go_meet
      exact ⟨wa.heap.size, a3, c3, b3, d3, rfl, rfl, cells_new wa [.slice a3 3 c3, .slice b3 2 d3] 32, (HG.out.below ba).below q6, (HL.out.below ba).below q6, hl3.below q6, (HB.out.trans (ba.mono HB.out.size)).trans (q6.mono (Nat.le_trans HB.out.size ba.size))⟩
    · have hne : wm.heap.size ≠ w5.heap.size := by have := HG.out.lt; have := bm.size; omega
      have hcas := ca.size
      have hbs := bm.size
      go_wp2_with fail
      go_meet
      exact ⟨wm.heap.size, a3, c3, b3, d3, rfl, rfl, (Ka.set 0 (by simp) _).set 1 (by simp) _, ((HG.out.below ba).other hne 0 _).other hne 1 _, (HL.out.below ba).store _ _ _ (fun q o e _ => by have := isR_lt HL.out.1 (by rw [e_ents]; simp) q o e; omega) (fun q o e _ => by have := isR_lt HL.out.2 (by rw [e_nodes]; simp) q o e; omega),
        hl3.store _ _ _ (fun q o e _ => by have := fa3 q o e; rw [World.size_alloc] at this; omega) (fun q o e _ => by have := fb3 q o e; rw [World.size_alloc] at this; omega), ((HB.out.trans (ba.mono HB.out.size)).setCell (p := ⟨wm.heap.size, 0, none⟩) (Nat.le_trans HB.out.size hbs) _).setCell (p := ⟨wm.heap.size, 1, none⟩) (Nat.le_trans HB.out.size hbs) _⟩
    · have hne : W.heap.size ≠ w5.heap.size := by have := HG.out.lt; have := bm.size; omega
      have hzc : W.heap.size + 1 ≤ wm.heap.size := by have := cm.size; simpa using this
      have hcas := ca.size
      have hbs := bm.size
      go_wp2_with fail
      go_meet
      exact ⟨W.heap.size, a3, c3, b3, d3, rfl, rfl, (Ka.set 0 (by simp) _).set 1 (by simp) _, ((HG.out.below ba).other hne 0 _).other hne 1 _, (HL.out.below ba).store _ _ _ (fun q o e _ => by have := isR_lt HL.out.1 (by rw [e_ents]; simp) q o e; omega) (fun q o e _ => by have := isR_lt HL.out.2 (by rw [e_nodes]; simp) q o e; omega),
        hl3.store _ _ _ (fun q o e _ => by have := fa3 q o e; omega) (fun q o e _ => by have := fb3 q o e; omega), ((HB.out.trans (ba.mono HB.out.size)).setCell (p := ⟨W.heap.size, 0, none⟩) HB.out.size _).setCell (p := ⟨W.heap.size, 1, none⟩) HB.out.size _⟩
  case rest =>
    obtain ⟨gn, a3, c3, b3, d3, rfl, rfl, hN, hG, hL, hL3, hB⟩ := hcut
    have hLE := hL.1
    have hLN := hL.2
    rw [e_ents] at hLE
    rw [e_nodes] at hLN
    obtain ⟨q, off, rfl, hq, hce⟩ := hLE.2.2 (by simp)
    obtain ⟨q2, off2, rfl, hq2, hcn⟩ := hLN.2.2 (by simp)
    have u0 := (hce 2 _ rfl) 7 _ rfl
    have u1 := (hce 1 _ rfl) 7 _ rfl
    have u2 := (hcn 1 _ rfl) 1 _ rfl
    dsimp only [noUnd] at u0 u1 u2
    have x0 := hG.cell 0 _ rfl
    have x1 := hG.cell 1 _ rfl
    have y0 := hN.cell 0 _ rfl
    have y1 := hN.cell 1 _ rfl
    have HG2 := Lib.hid hG
    have HL2 := Lib.hid hL
    have HB2 := Lib.hid hB
    have HS := Lib.hid (aw_same _ hL3 hL)
    clear hce hcn hN hG hL hL3 hB hLE hLN
    go_wp2_with fail
    refine (HS.out).mono ?_
    rintro e w6 ⟨rfl, c6⟩
    have G6 := Lib.hid (HG2.out.below c6)
    have L6 := Lib.hid (HL2.out.below c6)
    have B6 := Lib.hid (step_b HB2.out c6)
    clear c6 x0 x1 y0 y1 u0 u1 u2 HG2 HL2 HB2 HS
    have x0 := G6.out.cell 0 _ rfl
    have x1 := G6.out.cell 1 _ rfl
    go_wp2_with fail
    refine (aw_has _ L6.out).mono ?_
    rintro e w7 ⟨rfl, c7⟩
    have G7 := Lib.hid (G6.out.below c7)
    have L7 := Lib.hid (L6.out.below c7)
    have B7 := Lib.hid (step_b B6.out c7)
    clear c7 x0 x1 G6 L6 B6
    have x0 := G7.out.cell 0 _ rfl
    have x1 := G7.out.cell 1 _ rfl
    go_wp2_with fail
    refine (aw_hasn _ L7.out).mono ?_
    rintro e w8 ⟨rfl, c8⟩
    have G8 := Lib.hid (G7.out.below c8)
    have L8 := Lib.hid (L7.out.below c8)
    have B8 := Lib.hid (step_b B7.out c8)
    clear c8 x0 x1 G7 L7 B7
    have x0 := G8.out.cell 0 _ rfl
    have x1 := G8.out.cell 1 _ rfl
    go_wp2_with fail
    refine (aw_ops _ L8.out).mono ?_
    rintro e w9 ⟨⟨a9, c9, rfl⟩, c9b⟩
    have B9 := Lib.hid (step_b B8.out c9b)
    clear c9b x0 x1 G8 L8 B8
    go_wp2_with fail
    go_ret
    exact ⟨rfl, B9.out⟩
end Go.Proofs.Ytnndanpahcdmaaa
/-
  The contracts that the laws' walks meet, with the lengths of a log's slices as letters.
-/
namespace Go.Proofs.Ytnndanpahcdmaaa
open Go.RowKit Go.Lib
set_option maxRecDepth 100000 in
theorem ofew_is {a : Option Addr} {c : Nat} {l : List Opn} {n : Int} {b : Bool} (hb : fewOp l n = b) (w : World) (h : IsOp w a c l) (hl : l.length ≤ maxLen) :
    Calls Try.prog 10 #[.slice a l.length c, .int .i64 n] w fun e w' => e = .returned (.bool b) ∧ w' = w := hb ▸ ofew_any a c l n w h hl
/-- A log at its slices. -/
def LgAt (w : World) (a : Option Addr) (n c : Nat) (b : Option Addr) (m d : Nat) (s : List Opn) : Prop := IsLg w a c b d s ∧ n = s.length ∧ m = (doAll [] s).length
abbrev LW (a : Option Addr) (n c : Nat) (b : Option Addr) (m d : Nat) : Value := .agg #[.slice a n c, .slice b m d]
theorem LgAt.below {w w' : World} {a : Option Addr} {n c : Nat} {b : Option Addr} {m d : Nat} {s : List Opn} (h : LgAt w a n c b m d s) (hb : Below w.heap.size w w') : LgAt w' a n c b m d s := ⟨h.1.below hb, h.2⟩
theorem lgAt_of {w : World} {a : Option Addr} {c : Nat} {b : Option Addr} {d : Nat} {s : List Opn} (h : IsLg w a c b d s) : LgAt w a s.length c b (doAll [] s).length d s := ⟨h, rfl, rfl⟩
def LgP (s : List Opn) (w : World) (e : Ending) (w' : World) : Prop := ∃ a n c b m d, e = .returned (LW a n c b m d) ∧ LgAt w' a n c b m d s ∧ Below w.heap.size w w'
def LgEP (r : List Opn × Int) (w : World) (e : Ending) (w' : World) : Prop := ∃ a n c b m d, e = .returned (.tuple #[LW a n c b m d, .int .i64 r.2]) ∧ LgAt w' a n c b m d r.1 ∧ Below w.heap.size w w'
theorem small_of {l : List Opn} {n : Int} (h : fewOp l n = true) : ∀ x ∈ l, x.s.size ≤ 1000 ∧ x.d.size ≤ 1000 := (fewOp_of h).1
theorem sort_ok {l : List Opn} (h : l.length ≤ 200) (hs : ∀ x ∈ l, x.s.size ≤ 1000 ∧ x.d.size ≤ 1000) (hr : RgOs l) : OkS (sortO l) := by
  have := okS_nil.all l hs hr
  rwa [all_sort h] at this
set_option maxRecDepth 100000 in
theorem of_is {a : Option Addr} {c : Nat} {l : List Opn} (w : World) (h : IsOp w a c l) (hl : l.length ≤ 200) (hs : ∀ x ∈ l, x.s.size ≤ 1000 ∧ x.d.size ≤ 1000) (hr : RgOs l) :
    Calls Try.prog 21 #[.slice a l.length c] w (LgP (sortO l) w) := by
  refine (mof_any a c l w h (by omega) hs hr).mono ?_
  rintro e w' ⟨x, rfl, hx, hb⟩
  rw [all_sort hl] at hx
  obtain ⟨a, c, b, d, rfl, hi⟩ := hx.isLg
  exact ⟨a, _, c, b, _, d, rfl, lgAt_of hi, hb⟩
set_option maxRecDepth 100000 in
theorem all_is {a : Option Addr} {n c : Nat} {b : Option Addr} {m d : Nat} {s : List Opn} {la : Option Addr} {lc : Nat} {l : List Opn} (w : World) (h : LgAt w a n c b m d s) (hs : OkS s) (hl : IsOp w la lc l) (hll : l.length ≤ 1000000) (hsm : ∀ x ∈ l, x.s.size ≤ 1000 ∧ x.d.size ≤ 1000) (hr : RgOs l) :
    Calls Try.prog 11 #[LW a n c b m d, .slice la l.length lc] w (LgEP ((allL s l).1, (allL s l).2) w) := by
  obtain ⟨hi, rfl, rfl⟩ := h
  refine (mall_any a c b d s la lc l w hi hs hl hll hsm hr).mono ?_
  rintro e w' ⟨x, rfl, hx, hb⟩
  obtain ⟨a, c, b, d, rfl, hi⟩ := hx.isLg
  exact ⟨a, _, c, b, _, d, rfl, lgAt_of hi, hb⟩
set_option maxRecDepth 100000 in
theorem add_is {a : Option Addr} {n c : Nat} {b : Option Addr} {m d : Nat} {s : List Opn} {o : Opn} (w : World) (h : LgAt w a n c b m d s) (hs : OkS s) (ho : o.s.size ≤ 1000 ∧ o.d.size ≤ 1000) (hr : RgO o) :
    Calls Try.prog 13 #[LW a n c b m d, OV o] w (LgEP (addL s o) w) := by
  obtain ⟨hi, rfl, rfl⟩ := h
  refine (madd_any a c b d s o w hi hs ho hr).mono ?_
  rintro e w' ⟨x, rfl, hx, hb⟩
  obtain ⟨a, c, b, d, rfl, hi⟩ := hx.isLg
  exact ⟨a, _, c, b, _, d, rfl, lgAt_of hi, hb⟩
set_option maxRecDepth 100000 in
theorem rall_is {a : Option Addr} {n c : Nat} {b : Option Addr} {m d : Nat} {s : List Opn} {la : Option Addr} {lc : Nat} {l : List Opn} (w : World) (h : LgAt w a n c b m d s) (hs : OkS s) (hl : IsOp w la lc l) (hll : l.length ≤ 1000000) (hsm : ∀ x ∈ l, x.s.size ≤ 1000 ∧ x.d.size ≤ 1000) :
    Calls Try.prog 12 #[LW a n c b m d, .slice la l.length lc] w (LgEP ((allL s l).1, (allL s l).2) w) := by
  obtain ⟨hi, rfl, rfl⟩ := h
  refine (rall_any a c b d s la lc l w hi hs.lg hs.few (fun x hx => by have := (hs.small x hx).1; omega) hl hll (fun x hx => by have := (hsm x hx).1; omega)).mono ?_
  rintro e w' ⟨a, c, b, d, rfl, hi, hb⟩
  exact ⟨a, _, c, b, _, d, rfl, lgAt_of hi, hb⟩
set_option maxRecDepth 100000 in
theorem radd_is {a : Option Addr} {n c : Nat} {b : Option Addr} {m d : Nat} {s : List Opn} {o : Opn} (w : World) (h : LgAt w a n c b m d s) (hs : OkS s) (ho : o.s.size ≤ 1000 ∧ o.d.size ≤ 1000) :
    Calls Try.prog 14 #[LW a n c b m d, OV o] w (LgEP (addL s o) w) := by
  obtain ⟨hi, rfl, rfl⟩ := h
  have hf := hs.few
  refine (radd_any a c b d s o w hi (by omega) hs.lg (fun x hx => by have := (hs.small x hx).1; omega) (by have := ho.1; omega)).mono ?_
  rintro e w' ⟨a, c, b, d, rfl, hi, hb, _⟩
  exact ⟨a, _, c, b, _, d, rfl, lgAt_of hi, hb⟩
set_option maxRecDepth 100000 in
theorem lsame_is {a : Option Addr} {n c : Nat} {b : Option Addr} {m d : Nat} {a2 : Option Addr} {n2 c2 : Nat} {b2 : Option Addr} {m2 d2 : Nat} {s t : List Opn} (he : s = t) (w : World) (h : LgAt w a n c b m d s) (h2 : LgAt w a2 n2 c2 b2 m2 d2 t) (hl : s.length ≤ 100000) :
    Calls Try.prog 15 #[LW a n c b m d, LW a2 n2 c2 b2 m2 d2] w fun e w' => e = .returned (.bool true) ∧ Below w.heap.size w w' := by
  subst he
  obtain ⟨hi, rfl, rfl⟩ := h
  obtain ⟨hj, rfl, rfl⟩ := h2
  exact lsame_yes a c b d a2 c2 b2 d2 s w hi hj hl
set_option maxRecDepth 100000 in
theorem has_is {a : Option Addr} {n c : Nat} {b : Option Addr} {m d : Nat} {s : List Opn} {x y : Int} (w : World) (h : LgAt w a n c b m d s) (hl : s.length ≤ 100000) :
    Calls Try.prog 16 #[LW a n c b m d, .agg #[.int .i64 x, .int .i64 y]] w fun e w' => e = .returned (.bool (hasS s x y)) ∧ Below w.heap.size w w' := by
  obtain ⟨hi, rfl, rfl⟩ := h
  exact mhas_any a c b d s x y w hi hl
set_option maxRecDepth 100000 in
theorem rhas_is {a : Option Addr} {n c : Nat} {b : Option Addr} {m d : Nat} {s : List Opn} {x y : Int} (w : World) (h : LgAt w a n c b m d s) (hl : s.length ≤ 100000) :
    Calls Try.prog 17 #[LW a n c b m d, .agg #[.int .i64 x, .int .i64 y]] w fun e w' => e = .returned (.bool (hasS s x y)) ∧ Below w.heap.size w w' := by
  obtain ⟨hi, rfl, rfl⟩ := h
  exact rhas_any a c b d s x y w hi hl
/-- A slice of operations that was made, of so many. -/
def OpsP (s : List Opn) (w : World) (e : Ending) (w' : World) : Prop := ∃ a c, e = .returned (.slice a s.length c) ∧ IsOp w' a c s ∧ Below w.heap.size w w'
set_option maxRecDepth 100000 in
theorem ops_is {a : Option Addr} {n c : Nat} {b : Option Addr} {m d : Nat} {s : List Opn} (w : World) (h : LgAt w a n c b m d s) (hl : s.length ≤ 100000) :
    Calls Try.prog 19 #[LW a n c b m d] w (OpsP s w) := by
  obtain ⟨hi, rfl, rfl⟩ := h
  refine (mops_any a c b d s w hi hl).mono ?_
  rintro e w' ⟨v, rfl, hv, hb⟩
  obtain ⟨a, c, rfl, i⟩ := OwnR.isR op_len hv
  exact ⟨a, c, rfl, i, hb⟩
set_option maxRecDepth 100000 in
theorem rops_is {a : Option Addr} {n c : Nat} {b : Option Addr} {m d : Nat} {s : List Opn} (w : World) (h : LgAt w a n c b m d s) (hl : s.length ≤ 100000) :
    Calls Try.prog 20 #[LW a n c b m d] w (OpsP s w) := by
  obtain ⟨hi, rfl, rfl⟩ := h
  refine (rops_any a c b d s w hi hl).mono ?_
  rintro e w' ⟨v, rfl, hv, hb⟩
  obtain ⟨a, c, rfl, i⟩ := OwnR.isR op_len hv
  exact ⟨a, c, rfl, i, hb⟩
theorem lgAt_nil (w : World) : LgAt w none 0 0 none 0 0 [] := ⟨isLg_nil w, rfl, rfl⟩
/-- No two of the first so many are unlike and of one At. -/
def OneTo (l : List Opn) (i : Nat) : Prop := ∀ j k x y, j < i → k < i → l[j]? = some x → l[k]? = some y → eqA x y → x = y
theorem oneTo_succ {l : List Opn} {i : Nat} {z : Opn} (h : OneTo l i) (hz : l[i]? = some z) (hn : ∀ k x, k < i → l[k]? = some x → eqA x z → x = z) : OneTo l (i + 1) := by
  intro j k x y hj hk hx hy he
  by_cases ej : j = i
  · subst ej
    rw [hz] at hx; cases hx
    by_cases ek : k = j
    · subst ek; rw [hz] at hy; cases hy; rfl
    · exact (hn k y (by omega) hy ⟨he.1.symm, he.2.symm⟩).symm
  · by_cases ek : k = i
    · subst ek
      rw [hz] at hy; cases hy
      exact hn j x (by omega) hx he
    · exact h j k x y (by omega) (by omega) hx hy he
theorem oneTo_all {l : List Opn} (h : OneTo l l.length) : OneA l := by
  intro x hx y hy he
  obtain ⟨j, hj, rfl⟩ := List.mem_iff_getElem.1 hx
  obtain ⟨k, hk, rfl⟩ := List.mem_iff_getElem.1 hy
  exact h j k _ _ hj hk (List.getElem?_eq_getElem hj) (List.getElem?_eq_getElem hk) he
end Go.Proofs.Ytnndanpahcdmaaa
