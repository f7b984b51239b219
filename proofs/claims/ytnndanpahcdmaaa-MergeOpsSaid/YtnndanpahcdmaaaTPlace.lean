/-
  The landed package tree: Check, and where the node of a number stands.
-/
import Derived.Test.YtnndanpahcdmaaaOChk
import Derived.Test.YtnndanpahcdmaaaRDo
import Derived.Test.YtnndanpahcdmaaaPkP
import Derived.Test.YtnndanpahcdmaaaPkR
namespace Go.Proofs.Ytnndanpahcdmaaa
open Go.RowKit Go.Lib
set_option maxRecDepth 100000 in
theorem tisnum_any (n : Int) (hn : I64 n) (w : World) :
    Calls Try.prog 55 #[.int .i64 n] w fun e w' => e = .returned (.bool (isN n)) ∧ Below w.heap.size w w' := by
  have H := Lib.hid (fun w => oof_any n hn.1 hn.2 w)
  obtain ⟨a, ha⟩ : ∃ x, ofC n = x := ⟨_, rfl⟩
  obtain ⟨b, hb⟩ : ∃ x, ofR n = x := ⟨_, rfl⟩
  obtain ⟨f, hf⟩ : ∃ x, ofF n = x := ⟨_, rfl⟩
  obtain ⟨i, hi⟩ : ∃ x, isN n = x := ⟨_, rfl⟩
  rw [ha, hb, hf, hi] at H
  rw [hi]
  clear ha hb hf hi
  go_enter Try.func55, Try.ntmps55
  go_wp2_with fail
  refine (H.out _).mono ?_
  rintro e w1 ⟨rfl, c1⟩
  have b1 := step_b (Below.refl _ _) c1
  go_wp2_with fail
  go_ret
  exact ⟨rfl, b1.alloc b1.size _⟩
set_option maxRecDepth 100000 in
set_option maxHeartbeats 4000000 in
theorem tchk_any (a : Option Addr) (c : Nat) (l : List Nod) (w : World) (h : IsNd w a c l) (hl : l.length ≤ 1000000) (hr : RgNs l) :
    Calls Try.prog 36 #[.slice a l.length c] w fun e w' => e = .returned (.bool (chkN l)) ∧ Below w.heap.size w w' := by
  go_enter Try.func36, Try.ntmps36
  go_wp2
  go_loopw [7] (fun i w' => ∃ k : Nat, k ≤ l.length ∧ i = .int .i64 k ∧ MayN (l.take k) ∧ Below w.heap.size w w') (fun i _ => l.length - (RowKit.intOf i).toNat)
  case atStart => exact ⟨0, Nat.zero_le _, rfl, ⟨fun _ h => (by cases h), List.Pairwise.nil⟩, Below.refl _ _⟩
  case round =>
    obtain ⟨k, hk, rfl, ha, ck⟩ := hrel
    have Ha := Lib.hid ha
    clear ha
    by_cases hkl : k < l.length
    · obtain ⟨x, hx⟩ : ∃ x, l[k]? = some x := ⟨l[k], List.getElem?_eq_getElem hkl⟩
      obtain ⟨g, o, rfl, hlt, hc⟩ := (h.below ck).nod hx
      obtain ⟨k0, k1, k2, k3, k4, k5, k6, k7⟩ := hc k x hx
      have Hx := Lib.hid hx
      have Hc := Lib.hid hc
      have hrx := (hr x (List.mem_of_getElem? hx)).1
      obtain ⟨is, his⟩ : ∃ b, isN x.id = b := ⟨_, rfl⟩
      have Hi := Lib.hid his
      have H2 := Lib.hid (fun w => tisnum_any x.id hrx w)
      rw [his] at H2
      clear hx hc his hrx
      have q1 := below_alloc wr (.cells #[.int .i64 x.id, .int .i64 x.p, .string x.s, .int .i64 x.mc, .int .i64 x.mr, .string x.d, .int .i64 x.wc, .int .i64 x.wr] 45)
      have hn0 := (atN_of (atC_nod wr x 45)).1
      have hlt0 : wr.heap.size < (wr.alloc (.cells #[.int .i64 x.id, .int .i64 x.p, .string x.s, .int .i64 x.mc, .int .i64 x.mr, .string x.d, .int .i64 x.wc, .int .i64 x.wr] 45)).heap.size := by simp
      have b1 := step_b ck q1
      cases is with
      | false =>
        have HN := Lib.hid (not_may Hx.out (.inl Hi.out))
        go_wp2_with fail
        generalize wr.alloc (.cells #[.int .i64 x.id, .int .i64 x.p, .string x.s, .int .i64 x.mc, .int .i64 x.mr, .string x.d, .int .i64 x.wc, .int .i64 x.wr] 45) = W2 at q1 hn0 hlt0 b1 ⊢
        refine wp_region_later (by kernel_rfl) (by kernel_rfl) (fun hL => ?_)
        repeat (go_big_quiet_step ((refine later_calls (H2.out _))))
        intro w' hw
        have bB := step_b b1 (later_out hw)
        clear hw hL
        go_wp2_with fail
        go_ret
        exact ⟨by rw [HN.out]; rfl, bB⟩
      | true =>
        rcases k with _ | j
        · have HA := Lib.hid (may_take Hx.out Ha.out Hi.out (fun y h0 => absurd h0 (Nat.lt_irrefl _)))
          simp only [Nat.zero_mul, Nat.add_zero] at k0 k1 k2 k3 k4 k5 k6 k7
          go_wp2_with fail
          generalize wr.alloc (.cells #[.int .i64 x.id, .int .i64 x.p, .string x.s, .int .i64 x.mc, .int .i64 x.mr, .string x.d, .int .i64 x.wc, .int .i64 x.wr] 45) = W2 at q1 hn0 hlt0 b1 ⊢
          refine wp_region_later (by kernel_rfl) (by kernel_rfl) (fun hL => ?_)
          repeat (go_big_quiet_step ((refine later_calls (H2.out _))))
          intro w' hw
          have bB := step_b b1 (later_out hw)
          clear hw hL
          go_wp2_with fail
          go_roundw
          case rel => exact ⟨1, by omega, rfl, HA.out, bB⟩
          case measure => simp [RowKit.intOf]; omega
        · obtain ⟨y, hy⟩ : ∃ y, l[j]? = some y := ⟨l[j], List.getElem?_eq_getElem (by omega)⟩
          have Y := (atC_ofN (Hc.out j y hy)).keep (q1.block g hlt)
          have hltw := Nat.lt_of_lt_of_le hlt q1.size
          have hy0 := (atN_of Y).1
          have gj : (j : Int) < (l.length : Int) := by omega
          have gj1 : (j : Int) + 1 < (l.length : Int) := by omega
          have g0 : (0 : Int) < (j : Int) + 1 := by omega
          clear Y
          by_cases hlt2 : y.id < x.id
          · have HA := Lib.hid (may_take Hx.out Ha.out Hi.out (fun z _ hz => by rw [show j + 1 - 1 = j from rfl, hy] at hz; cases hz; exact hlt2))
            have d1 : decide (x.id ≤ y.id) = false := decide_eq_false (by omega)
            go_wp2_with fail
            generalize wr.alloc (.cells #[.int .i64 x.id, .int .i64 x.p, .string x.s, .int .i64 x.mc, .int .i64 x.mr, .string x.d, .int .i64 x.wc, .int .i64 x.wr] 45) = W2 at q1 hn0 hlt0 b1 hy0 hltw ⊢
            refine wp_region_later (by kernel_rfl) (by kernel_rfl) (fun hL => ?_)
            repeat (go_big_quiet_step ((refine later_calls (H2.out _))))
            intro w' hw
            have bB := step_b b1 (later_out hw)
            clear hw hL
            go_wp2_with fail
            go_roundw
            case rel => exact ⟨j + 2, by omega, by go_num, HA.out, bB⟩
            case measure => simp [RowKit.intOf]; omega
          · have HN := Lib.hid (not_may Hx.out (.inr ⟨y, by omega, hy, hlt2⟩))
            have d1 : decide (x.id ≤ y.id) = true := decide_eq_true (by omega)
            go_wp2_with fail
            generalize wr.alloc (.cells #[.int .i64 x.id, .int .i64 x.p, .string x.s, .int .i64 x.mc, .int .i64 x.mr, .string x.d, .int .i64 x.wc, .int .i64 x.wr] 45) = W2 at q1 hn0 hlt0 b1 hy0 hltw ⊢
            refine wp_region_later (by kernel_rfl) (by kernel_rfl) (fun hL => ?_)
            repeat (go_big_quiet_step ((refine later_calls (H2.out _))))
            intro w' hw
            have bB := step_b b1 (later_out hw)
            clear hw hL
            go_wp2_with fail
            go_ret
            exact ⟨by rw [HN.out]; rfl, bB⟩
    · obtain rfl : k = l.length := by omega
      rw [List.take_length] at Ha
      go_wp2
      go_ret
      exact ⟨by rw [chkN_iff.2 Ha.out]; rfl, ck⟩
/-- What the search is asked of each place. -/
theorem tplask_any (a : Option Addr) (c : Nat) (l : List Nod) (i : Int) (w : World) (h : IsNd w a c l) (gl gi : Nat) (hgl : w.cell? ⟨gl, 0, none⟩ = some (.slice a l.length c)) (hgi : w.cell? ⟨gi, 0, none⟩ = some (.int .i64 i)) (k : Nat) (x : Nod) (hx : l[k]? = some x) :
    Calls Try.prog 76 #[.int .i64 k, .pointer (some ⟨gl, 0, none⟩), .pointer (some ⟨gi, 0, none⟩)] w fun e w' => e = .returned (.bool (decide (i ≤ x.id))) ∧ Below w.heap.size w w' := by
  have hkl := (List.getElem?_eq_some_iff.1 hx).1
  obtain ⟨g, o, rfl, hlt, hc⟩ := h.nod hx
  obtain ⟨k0, k1, k2, k3, k4, k5, k6, k7⟩ := hc k x hx
  have l1 := World.block_lt_of_cell? w ⟨gl, 0, none⟩ hgl
  have l2 := World.block_lt_of_cell? w ⟨gi, 0, none⟩ hgi
  simp only at l1 l2
  have hkl2 : (k : Int) < (l.length : Int) := by omega
  obtain ⟨n, hn⟩ : ∃ n, l.length = n := ⟨_, rfl⟩
  rw [hn] at hgl hkl2
  clear hx hc hkl hn h k1 k2 k3 k4 k5 k6 k7
  go_enter Try.func76, Try.ntmps76
  go_wp2_with fail
  refine wp_region_later (by kernel_rfl) (by kernel_rfl) (fun hL => ?_)
  repeat (go_big_quiet_step (fail))
  intro w' hw
  have bB := later_out hw
  clear hw hL
  go_wp2_with fail
  go_ret
  exact ⟨rfl, bB⟩
/-- sort.Search with that question. -/
def SchPost (l : List Nod) (i : Int) (w : World) (e : Ending) (w' : World) : Prop := e = .returned (.int .i64 (posN l i)) ∧ Below w.heap.size w w'
set_option maxRecDepth 100000 in
set_option maxHeartbeats 4000000 in
theorem tsearch_any (a : Option Addr) (c : Nat) (l : List Nod) (i : Int) (w : World) (h : IsNd w a c l) (hm : MayN l) (hl : l.length ≤ 1000000) (gl gi : Nat) (hgl : w.cell? ⟨gl, 0, none⟩ = some (.slice a l.length c)) (hgi : w.cell? ⟨gi, 0, none⟩ = some (.int .i64 i)) :
    Calls Try.prog 75 #[.int .i64 l.length, .func (.func 76) #[] #[.pointer (some ⟨gl, 0, none⟩), .pointer (some ⟨gi, 0, none⟩)]] w (SchPost l i w) := by
  have H := Lib.hid h
  have HM := Lib.hid hm
  have l1 := World.block_lt_of_cell? w ⟨gl, 0, none⟩ hgl
  have l2 := World.block_lt_of_cell? w ⟨gi, 0, none⟩ hgi
  simp only at l1 l2
  have Hgl := Lib.hid hgl
  have Hgi := Lib.hid hgi
  clear h hm hgl hgi
  go_enter Try.func75, Try.ntmps75
  go_wp2
  go_loopw [5, 6] (fun u v w' => ∃ lo hi : Nat, u = .int .i64 lo ∧ v = .int .i64 hi ∧ lo ≤ hi ∧ hi ≤ l.length ∧ (∀ y, 0 < lo → l[lo - 1]? = some y → y.id < i) ∧ (∀ y, l[hi]? = some y → i ≤ y.id) ∧ Below w.heap.size w w') (fun u v _ => (RowKit.intOf v).toNat - (RowKit.intOf u).toNat)
  case atStart => exact ⟨0, l.length, rfl, rfl, Nat.zero_le _, Nat.le_refl _, fun y h0 => absurd h0 (Nat.lt_irrefl _), fun y hy => by simp at hy, Below.refl _ _⟩
  case round =>
    obtain ⟨lo, hi, rfl, rfl, hlh, hin, ha, hb, ck⟩ := hrel
    have Ha := Lib.hid ha
    have Hb := Lib.hid hb
    clear ha hb
    by_cases hlt : lo < hi
    · obtain ⟨x, hx⟩ : ∃ x, l[(lo + hi) / 2]? = some x := ⟨_, List.getElem?_eq_getElem (by omega)⟩
      have HC := Lib.hid (tplask_any a c l i wr (H.out.below ck) gl gi (by rw [old_cell ck gl 0 l1]; exact Hgl.out) (by rw [old_cell ck gi 0 l2]; exact Hgi.out) ((lo + hi) / 2) x hx)
      rw [show (((lo + hi) / 2 : Nat) : Int) = ((lo : Int) + (hi : Int)) / 2 by omega] at HC
      have Hx := Lib.hid hx
      clear hx
      obtain ⟨d, hd⟩ : ∃ d, decide (i ≤ x.id) = d := ⟨_, rfl⟩
      rw [hd] at HC
      have HD := Lib.hid hd
      clear hd
      cases d with
      | false =>
        have H3 := Lib.hid (show x.id < i by have := of_decide_eq_false HD.out; omega)
        go_wp2_with fail
        refine (HC.out).mono ?_
        rintro e w1 ⟨rfl, c1⟩
        have b1 := step_b ck c1
        go_wp2_with fail
        go_roundw
        case rel => exact ⟨(lo + hi) / 2 + 1, hi, by go_num, rfl, by omega, hin, fun y _ hy => by rw [Nat.add_sub_cancel, Hx.out] at hy; cases hy; exact H3.out, Hb.out, b1⟩
        case measure => simp [RowKit.intOf]; omega
      | true =>
        have H3 := Lib.hid (of_decide_eq_true HD.out)
        go_wp2_with fail
        refine (HC.out).mono ?_
        rintro e w1 ⟨rfl, c1⟩
        have b1 := step_b ck c1
        go_wp2_with fail
        go_roundw
        case rel => exact ⟨lo, (lo + hi) / 2, rfl, by go_num, by omega, by omega, Ha.out, fun y hy => by rw [Hx.out] at hy; cases hy; exact H3.out, b1⟩
        case measure => simp [RowKit.intOf]; omega
    · obtain rfl : hi = lo := by omega
      have HE := Lib.hid (posN_eq HM.out hin Ha.out (fun y hy => by have := Hb.out y hy; omega))
      go_wp2_with fail
      go_ret
      exact ⟨by rw [← HE.out]; rfl, ck⟩
theorem cell1_new (w : World) (v : Value) (t : TypeId) : (w.alloc (.cells #[v] t)).cell? ⟨w.heap.size, 0, none⟩ = some v := (cells_new w [v] t).cell 0 v rfl
set_option maxRecDepth 100000 in
set_option maxHeartbeats 4000000 in
theorem tplace_any (a : Option Addr) (c : Nat) (l : List Nod) (i : Int) (w : World) (h : IsNd w a c l) (hm : MayN l) (hl : l.length ≤ 1000000) :
    Calls Try.prog 58 #[.slice a l.length c, .int .i64 i] w fun e w' => e = .returned (.tuple #[.int .i64 (posN l i), .bool (getN l i).isSome]) ∧ Below w.heap.size w w' := by
  have hmf : ∀ (fn : Fn) (first cap : Array Value) (w : World), (Instr.makeFunc fn first cap).run Try.prog w = .ok (.func fn first cap) w := fun _ _ _ _ => rfl
  have q1 := below_alloc w (.cells #[.slice a l.length c] 30)
  have q2 := q1.trans ((below_alloc (w.alloc (.cells #[.slice a l.length c] 30)) (.cells #[.int .i64 i] 3)).mono (by simp))
  have e1 : ((w.alloc (.cells #[.slice a l.length c] 30)).alloc (.cells #[.int .i64 i] 3)).cell? ⟨w.heap.size, 0, none⟩ = some (.slice a l.length c) := by
    rw [old_cell (below_alloc (w.alloc (.cells #[.slice a l.length c] 30)) (.cells #[.int .i64 i] 3)) w.heap.size 0 (by simp)]; exact cell1_new _ _ _
  have e2 : ((w.alloc (.cells #[.slice a l.length c] 30)).alloc (.cells #[.int .i64 i] 3)).cell? ⟨w.heap.size + 1, 0, none⟩ = some (.int .i64 i) := by
    rw [show w.heap.size + 1 = (w.alloc (.cells #[.slice a l.length c] 30)).heap.size by simp]
    exact cell1_new _ _ _
  have H := Lib.hid (tsearch_any a c l i _ (h.below q2) hm hl w.heap.size (w.heap.size + 1) e1 e2)
  have HI := Lib.hid h
  have HM := Lib.hid hm
  have hp := posN_le l i
  obtain ⟨z, hz⟩ : ∃ z, (getN l i).isSome = z := ⟨_, rfl⟩
  obtain ⟨k, hk⟩ : ∃ k, posN l i = k := ⟨_, rfl⟩
  have HZ := Lib.hid hz
  have HK := Lib.hid hk
  unfold SchPost at H
  rw [hk] at H hp
  rw [hz, hk]
  have E1 := Lib.hid e1
  have E2 := Lib.hid e2
  clear hz hk h hm e1 e2
  go_enter Try.func58, Try.ntmps58
  go_wp2_with fail
  refine (H.out).mono ?_
  rintro e w1 ⟨rfl, c1⟩
  have b1 := step_b q2 c1
  have E1b := E1.out
  have E2b := E2.out
  have s1 : w.heap.size < ((w.alloc (.cells #[.slice a l.length c] 30)).alloc (.cells #[.int .i64 i] 3)).heap.size := by simp; omega
  have s2 : w.heap.size + 1 < ((w.alloc (.cells #[.slice a l.length c] 30)).alloc (.cells #[.int .i64 i] 3)).heap.size := by simp
  rw [← old_cell c1 _ _ s1] at E1b
  rw [← old_cell c1 _ _ s2] at E2b
  have t1 := Nat.lt_of_lt_of_le s1 c1.size
  have t2 := Nat.lt_of_lt_of_le s2 c1.size
  have HI1 := Lib.hid (HI.out.below b1)
  clear s1 s2 c1 H E1 E2 q1 q2 hmf
  by_cases hkl : k < l.length
  · obtain ⟨x, hx⟩ : ∃ x, l[k]? = some x := ⟨l[k], List.getElem?_eq_getElem hkl⟩
    obtain ⟨g, o, rfl, hlt, hc⟩ := HI1.out.nod hx
    obtain ⟨k0, k1, k2, k3, k4, k5, k6, k7⟩ := hc k x hx
    have HE := Lib.hid (show z = (x.id == i) by
      have hx2 := hx
      rw [← HK.out] at hx2
      rw [← HZ.out, pos_there HM.out hx2]; rfl)
    have hkl2 : (k : Int) < (l.length : Int) := by omega
    clear hx hc k1 k2 k3 k4 k5 k6 k7
    go_wp2_with fail
    refine wp_region_later (by kernel_rfl) (by kernel_rfl) (fun hL => ?_)
    repeat (go_big_quiet_step (fail))
    intro w' hw
    have bB := step_b b1 (later_out hw)
    clear hw hL
    go_wp2_with fail
    exact bodyPost_ret (v := .tuple #[.int .i64 k, .bool z]) (by rw [HE.out]; simp [results, Try.results58, go_sem]) rfl ⟨rfl, bB⟩
  · obtain rfl : k = l.length := by omega
    have HE := Lib.hid (show z = false by rw [← HZ.out, pos_end HM.out HK.out]; rfl)
    have hkl2 : ¬ (l.length : Int) < (l.length : Int) := by omega
    go_wp2_with fail
    refine wp_region_later (by kernel_rfl) (by kernel_rfl) (fun hL => ?_)
    repeat (go_big_quiet_step (fail))
    intro w' hw
    have bB := step_b b1 (later_out hw)
    clear hw hL
    go_wp2_with fail
    exact bodyPost_ret (v := .tuple #[.int .i64 l.length, .bool z]) (by rw [HE.out]; simp [results, Try.results58, go_sem]) rfl ⟨rfl, bB⟩
end Go.Proofs.Ytnndanpahcdmaaa
