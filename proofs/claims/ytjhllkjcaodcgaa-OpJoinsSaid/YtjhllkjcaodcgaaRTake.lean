/-
  The document's Take, TakeText.
-/
import Derived.Test.YtjhllkjcaodcgaaRefs
namespace Go.Proofs.Ytjhllkjcaodcgaa
open Go.RowKit Go.Lib
theorem byte_at (s : ByteArray) (j : Nat) (h : j < s.size) : s.data.toList[j]? = some s[j] := by
  have h2 : s.data.size = s.size := rfl
  rw [Array.getElem?_toList, Array.getElem?_eq_getElem (by omega)]
  rfl
/-- The first i bytes have 128 more; the number that they are so far is n. -/
def Far (l : List UInt8) (i n : Nat) : Prop := Vlq.val (l.take i) = n ∧ ∀ j y, j < i → l[j]? = some y → 128 ≤ y.toNat
theorem Far.lt {l : List UInt8} {i n : Nat} (h : Far l i n) : n < 128 ^ i := by
  rw [← h.1]
  have h1 := Vlq.val_lt (l.take i)
  have h2 : (l.take i).length ≤ i := by rw [List.length_take]; omega
  exact Nat.lt_of_lt_of_le h1 (Nat.pow_le_pow_right (by omega) h2)
theorem val_take {l : List UInt8} {i : Nat} {x : UInt8} (hx : l[i]? = some x) : Vlq.val (l.take (i + 1)) = Vlq.val (l.take i) * 128 + x.toNat % 128 := by
  rw [List.take_add_one, hx]
  exact Vlq.val_snoc _ _
theorem Far.more {l : List UInt8} {i n : Nat} {x : UInt8} (h : Far l i n) (hx : l[i]? = some x) (hb : 128 ≤ x.toNat) : Far l (i + 1) (n * 128 + x.toNat % 128) := by
  refine ⟨by rw [val_take hx, h.1], fun j y hj hy => ?_⟩
  by_cases e : j = i
  · subst e; rw [hx] at hy; cases hy; exact hb
  · exact h.2 j y (by omega) hy
theorem pow9 {i : Nat} (h : i < 9) : 128 ^ (i + 1) ≤ 9223372036854775808 := by
  have : (128 : Nat) ^ 9 = 9223372036854775808 := by decide
  rw [← this]
  exact Nat.pow_le_pow_right (by omega) (by omega)
theorem pow8 {i : Nat} (h : i < 9) : 128 ^ i ≤ 72057594037927936 := by
  have : (128 : Nat) ^ 8 = 72057594037927936 := by decide
  rw [← this]
  exact Nat.pow_le_pow_right (by omega) (by omega)
def NoTake (l : List UInt8) : Prop := ∀ n r, ¬ Vlq.Takes l n r
theorem extract_data (s : ByteArray) (i j : Nat) : (s.extract i j).data.toList = (s.data.toList.take j).drop i := by
  simp [List.drop_take]
theorem text_eq {s t : ByteArray} (h : s.data.toList = t.data.toList) : s = t := ByteArray.ext (Array.ext' h)
set_option maxHeartbeats 2000000 in
theorem rtake_yes (s : ByteArray) (n : Nat) (r : List UInt8) (w : World) (_hs : s.size ≤ 1000000) (h : Vlq.Takes s.data.toList n r) :
    Calls Try.prog 32 #[.string s] w fun e w' => e = .returned (.tuple #[.int .i64 n, .string (ofL r), .int .i64 0]) ∧ Below w.heap.size w w' := by
  have H := Lib.hid h
  have hone := Lib.hid (show (Vlq.one n).length ≤ 9 from Vlq.one_nine h.2)
  have hsl : s.data.toList.length = s.size := by simp
  clear h
  go_enter Try.func32, Try.ntmps32
  go_wp2
  go_loopw [5, 6] (fun v i w' => ∃ k m : Nat, k ≤ s.size ∧ k ≤ 9 ∧ i = .int .i64 k ∧ v = .int .i64 m ∧ Far s.data.toList k m ∧ Below w.heap.size w w') (fun _ i _ => s.size - (RowKit.intOf i).toNat)
  case atStart => exact ⟨0, 0, Nat.zero_le _, Nat.zero_le _, rfl, rfl, ⟨rfl, fun j y hj => absurd hj (Nat.not_lt_zero _)⟩, Below.refl _ _⟩
  case round =>
    obtain ⟨k, m, hk, hk9, rfl, rfl, hf, ck⟩ := hrel
    have HF := Lib.hid hf
    have hml := hf.lt
    clear hf
    by_cases hgo : k < s.size ∧ k < 9
    · obtain ⟨hks, hk8⟩ := hgo
      have hx := byte_at s k hks
      have hp8 := pow8 hk8
      have hm8 : m < 72057594037927936 := by omega
      have hxl : s[k].toNat < 256 := UInt8.toNat_lt s[k]
      obtain ⟨x, hxx⟩ : ∃ x, s[k].toNat = x := ⟨_, rfl⟩
      have hxl2 : x < 256 := by omega
      have Hx := Lib.hid hx
      have Hxx := Lib.hid hxx
      have gk : (k : Int) < (s.size : Int) := by omega
      have gk9 : (k : Int) < 9 := by omega
      have g9 : decide ((k : Int) < 9) = true := decide_eq_true gk9
      clear hx hml hp8 hxl
      by_cases hb : 128 ≤ x
      · have Hb := Lib.hid hb
        have hb2 : (128 : Int) ≤ (x : Int) := by omega
        clear hb
        go_wp2_with fail
        go_roundw
        case rel => exact ⟨k + 1, m * 128 + x % 128, by omega, by omega, by go_num, by go_num, by have := HF.out.more Hx.out (by rw [Hxx.out]; exact Hb.out); rw [Hxx.out] at this; exact this, ck⟩
        case measure => simp [RowKit.intOf]; omega
      · have hb2 : (x : Int) < 128 := by omega
        obtain ⟨q, hq⟩ : ∃ q, q = m * 128 + x := ⟨_, rfl⟩
        have hql : q < 9223372036854775808 := by omega
        have hqi : (m : Int) * 128 + (x : Int) % 128 = (q : Int) := by omega
        have Hqv := Lib.hid (show Vlq.val (s.data.toList.take (k + 1)) = q by rw [val_take Hx.out, HF.out.1, Hxx.out, hq]; omega)
        have hxlow : s[k].toNat < 128 := by rw [Hxx.out]; omega
        have gk1 : (k : Int) + 1 ≤ (s.size : Int) := by omega
        have gk0 : (0 : Int) ≤ (k : Int) + 1 := by omega
        have gkn : ((k : Int) + 1).toNat = k + 1 := by omega
        have d128 : decide ((128 : Int) ≤ (x : Int)) = false := decide_eq_false (by omega)
        have Hp := Lib.hid (show (s.extract 0 (k + 1)).data.toList = s.data.toList.take (k + 1) by simp)
        have Hq := Lib.hid hq
        clear hb hq
        have e1 := Vlq.one_at H.out.1 Hx.out hxlow HF.out.2
        have e2 : n = q := by have := Vlq.val_one n; rw [e1, Hqv.out] at this; exact this.symm
        have e3 : s.extract 0 (k + 1) = ofL (Vlq.one q) := text_eq (by rw [Hp.out, data_ofL, ← e2, e1])
        have e4 : s.extract (k + 1) s.size = ofL r := text_eq (by
          rw [data_ofL]
          have h1 := H.out.1
          rw [e1] at h1
          have h2 : s.data.toList = s.data.toList.take (k + 1) ++ s.data.toList.drop (k + 1) := (List.take_append_drop _ _).symm
          have h3 := List.append_cancel_left (h1.symm.trans h2)
          rw [h3, extract_data, List.take_of_length_le (by simp)])
        have q1 : ((ofL (Vlq.one q)).toList == (s.extract 0 (k + 1)).toList) = true := by rw [e3]; simp
        subst e2
        clear e1 e3 Hqv Hp Hq hxlow
        go_wp2_with fail
        refine wp_region_r (by kernel_rfl) (by kernel_rfl) ?_
        repeat (refine wpR_pure (fun K hK => ?_); go_simp; (try go_ints); refine hK _ ?_; clear hK K)
        refine wpR_pure (fun K hK => ?_)
        go_simp
        apply Exists.intro
        refine ⟨fun m => ?_, hK _ ?_⟩
        · go_at_call 46
          exact rone_any n (by omega) _
        clear hK K
        repeat (refine wpR_pure (fun K hK => ?_); go_simp; (try go_ints); refine hK _ ?_; clear hK K)
        refine wpR_nil (fun xs n _ => ?_)
        have b2 := step_b ck n.below
        generalize n.w = w2 at b2 ⊢
        go_wp2_with fail
        refine wp_region_r (by kernel_rfl) (by kernel_rfl) ?_
        repeat (refine wpR_pure (fun K hK => ?_); go_simp; (try go_ints); refine hK _ ?_; clear hK K)
        refine wpR_nil (fun xs n _ => ?_)
        have b3 := step_b b2 n.below
        generalize n.w = w3 at b3 ⊢
        go_wp2_with fail
        go_ret3
        exact ⟨rfl, b3⟩
    · exfalso
      refine Vlq.one_none H.out.1 (i := k) ?_ HF.out.2
      have h1 := hone.out
      have h2 := congrArg List.length H.out.1
      rw [List.length_append, hsl] at h2
      omega
set_option maxHeartbeats 2000000 in
theorem rtake_no (s : ByteArray) (w : World) (_hs : s.size ≤ 1000000) (h : NoTake s.data.toList) :
    Calls Try.prog 32 #[.string s] w fun e w' => e = .returned (.tuple #[.int .i64 0, .string ⟨#[]⟩, .int .i64 40]) ∧ Below w.heap.size w w' := by
  have H := Lib.hid h
  have hsl : s.data.toList.length = s.size := by simp
  clear h
  go_enter Try.func32, Try.ntmps32
  go_wp2
  go_loopw [5, 6] (fun v i w' => ∃ k m : Nat, k ≤ s.size ∧ k ≤ 9 ∧ i = .int .i64 k ∧ v = .int .i64 m ∧ Far s.data.toList k m ∧ Below w.heap.size w w') (fun _ i _ => s.size - (RowKit.intOf i).toNat)
  case atStart => exact ⟨0, 0, Nat.zero_le _, Nat.zero_le _, rfl, rfl, ⟨rfl, fun j y hj => absurd hj (Nat.not_lt_zero _)⟩, Below.refl _ _⟩
  case round =>
    obtain ⟨k, m, hk, hk9, rfl, rfl, hf, ck⟩ := hrel
    have HF := Lib.hid hf
    have hml := hf.lt
    clear hf
    by_cases hgo : k < s.size ∧ k < 9
    · obtain ⟨hks, hk8⟩ := hgo
      have hx := byte_at s k hks
      have hp8 := pow8 hk8
      have hm8 : m < 72057594037927936 := by omega
      have hxl : s[k].toNat < 256 := UInt8.toNat_lt s[k]
      obtain ⟨x, hxx⟩ : ∃ x, s[k].toNat = x := ⟨_, rfl⟩
      have hxl2 : x < 256 := by omega
      have Hx := Lib.hid hx
      have Hxx := Lib.hid hxx
      have gk : (k : Int) < (s.size : Int) := by omega
      have gk9 : (k : Int) < 9 := by omega
      have g9 : decide ((k : Int) < 9) = true := decide_eq_true gk9
      clear hx hml hp8 hxl
      by_cases hb : 128 ≤ x
      · have Hb := Lib.hid hb
        have hb2 : (128 : Int) ≤ (x : Int) := by omega
        clear hb
        go_wp2_with fail
        go_roundw
        case rel => exact ⟨k + 1, m * 128 + x % 128, by omega, by omega, by go_num, by go_num, by have := HF.out.more Hx.out (by rw [Hxx.out]; exact Hb.out); rw [Hxx.out] at this; exact this, ck⟩
        case measure => simp [RowKit.intOf]; omega
      · have hb2 : (x : Int) < 128 := by omega
        obtain ⟨q, hq⟩ : ∃ q, q = m * 128 + x := ⟨_, rfl⟩
        have hql : q < 9223372036854775808 := by omega
        have hqi : (m : Int) * 128 + (x : Int) % 128 = (q : Int) := by omega
        have Hqv := Lib.hid (show Vlq.val (s.data.toList.take (k + 1)) = q by rw [val_take Hx.out, HF.out.1, Hxx.out, hq]; omega)
        have hxlow : s[k].toNat < 128 := by rw [Hxx.out]; omega
        have gk1 : (k : Int) + 1 ≤ (s.size : Int) := by omega
        have gk0 : (0 : Int) ≤ (k : Int) + 1 := by omega
        have gkn : ((k : Int) + 1).toNat = k + 1 := by omega
        have d128 : decide ((128 : Int) ≤ (x : Int)) = false := decide_eq_false (by omega)
        have Hp := Lib.hid (show (s.extract 0 (k + 1)).data.toList = s.data.toList.take (k + 1) by simp)
        have Hq := Lib.hid hq
        clear hb hq
        have e1 : ofL (Vlq.one q) ≠ s.extract 0 (k + 1) := fun e => by
          have e2 := congrArg (fun z : ByteArray => z.data.toList) e
          simp only [data_ofL] at e2
          rw [Hp.out] at e2
          exact H.out q (s.data.toList.drop (k + 1)) ⟨by rw [e2, List.take_append_drop], hql⟩
        have q1 : ((ofL (Vlq.one q)).toList == (s.extract 0 (k + 1)).toList) = false := by
          rw [beq_eq_false_iff_ne]
          intro e
          rw [ByteArray.toList_eq, ByteArray.toList_eq] at e
          exact e1 (text_eq e)
        clear e1 Hqv Hp Hq hxlow
        go_wp2_with fail
        refine wp_region_r (by kernel_rfl) (by kernel_rfl) ?_
        repeat (refine wpR_pure (fun K hK => ?_); go_simp; (try go_ints); refine hK _ ?_; clear hK K)
        refine wpR_pure (fun K hK => ?_)
        go_simp
        apply Exists.intro
        refine ⟨fun m => ?_, hK _ ?_⟩
        · go_at_call 46
          exact rone_any q (by omega) _
        clear hK K
        repeat (refine wpR_pure (fun K hK => ?_); go_simp; (try go_ints); refine hK _ ?_; clear hK K)
        refine wpR_nil (fun xs n _ => ?_)
        have b2 := step_b ck n.below
        generalize n.w = w2 at b2 ⊢
        go_wp2_with fail
        go_ret3
        exact ⟨rfl, b2⟩
    · by_cases hks : k < s.size
      · have gk9 : ¬ (k : Int) < 9 := by omega
        have gk : (k : Int) < (s.size : Int) := by omega
        have g9 : decide ((k : Int) < 9) = false := decide_eq_false gk9
        go_wp2_with fail
        go_ret3
        exact ⟨rfl, ck⟩
      · have gk : ¬ (k : Int) < (s.size : Int) := by omega
        go_wp2_with fail
        go_ret3
        exact ⟨rfl, ck⟩
/-- What b begins with is this text's bytes, and r stands behind. -/
def TakesT (b : List UInt8) (t r : List UInt8) : Prop := Vlq.Takes b t.length (t ++ r)
def NoTakeT (b : List UInt8) : Prop := ∀ t r, ¬ TakesT b t r
theorem take_split {l t r : List UInt8} {n : Nat} (h : l = t ++ r) (hn : t.length = n) : t = l.take n ∧ r = l.drop n := by
  subst hn; subst h; simp
set_option maxHeartbeats 2000000 in
theorem rtext_yes (s : ByteArray) (t r : List UInt8) (w : World) (hs : s.size ≤ 1000000) (h : TakesT s.data.toList t r) :
    Calls Try.prog 33 #[.string s] w fun e w' => e = .returned (.tuple #[.string (ofL t), .string (ofL r), .int .i64 0]) ∧ Below w.heap.size w w' := by
  have hsl : s.data.toList.length = s.size := by simp
  have hlen := congrArg List.length h.1
  simp only [List.length_append, hsl] at hlen
  obtain ⟨q, hq⟩ : ∃ q, ofL (t ++ r) = q := ⟨_, rfl⟩
  have hqs : q.size = t.length + r.length := by rw [← hq, ofL_size, List.length_append]
  have e1 : q.extract 0 t.length = ofL t := text_eq (by rw [extract_data, ← hq, data_ofL, data_ofL, List.drop_zero, List.take_append_of_le_length (Nat.le_refl _), List.take_length])
  have e2 : q.extract t.length q.size = ofL r := text_eq (by rw [extract_data, hqs, ← hq, data_ofL, data_ofL, ← List.length_append, List.take_length, List.drop_append_of_le_length (Nat.le_refl _), List.drop_length, List.nil_append])
  have H := Lib.hid h
  obtain ⟨m, hm⟩ : ∃ m, t.length = m := ⟨_, rfl⟩
  rw [hm] at hqs e1 e2
  have gl : (m : Int) ≤ (q.size : Int) := by omega
  have g0 : (0 : Int) ≤ (m : Int) := by omega
  have d1 : decide ((q.size : Int) < (m : Int)) = false := decide_eq_false (by omega)
  have HQ := Lib.hid hq
  have HM := Lib.hid hm
  clear h hlen hq hqs
  go_enter Try.func33, Try.ntmps33
  go_wp2_with fail
  refine (rtake_yes s t.length (t ++ r) _ hs H.out).mono ?_
  rintro e w1 ⟨rfl, b1⟩
  rw [HQ.out, HM.out]
  go_wp2_with fail
  refine wp_region_r (by kernel_rfl) (by kernel_rfl) ?_
  repeat (refine wpR_pure (fun K hK => ?_); go_simp; (try go_ints); refine hK _ ?_; clear hK K)
  refine wpR_nil (fun xs n _ => ?_)
  have b2 := step_b b1 n.below
  generalize n.w = w2 at b2 ⊢
  go_wp2
  go_ret3
  exact ⟨rfl, b2⟩
set_option maxHeartbeats 2000000 in
theorem rtext_no (s : ByteArray) (w : World) (hs : s.size ≤ 1000000) (h : NoTakeT s.data.toList) :
    Calls Try.prog 33 #[.string s] w fun e w' => e = .returned (.tuple #[.string ⟨#[]⟩, .string ⟨#[]⟩, .int .i64 40]) ∧ Below w.heap.size w w' := by
  by_cases hy : ∃ n r, Vlq.Takes s.data.toList n r
  · obtain ⟨n, r, hy⟩ := hy
    have hnr : r.length < n := by
      rcases Nat.lt_or_ge r.length n with h1 | h1
      · exact h1
      · exact absurd (show TakesT s.data.toList (r.take n) (r.drop n) by unfold TakesT; rw [List.length_take, List.take_append_drop, Nat.min_eq_left h1]; exact hy) (h _ _)
    have d1 : decide (((ofL r).size : Int) < (n : Int)) = true := decide_eq_true (by rw [ofL_size]; omega)
    have HY := Lib.hid hy
    obtain ⟨q, hq⟩ : ∃ q, ofL r = q := ⟨_, rfl⟩
    rw [hq] at d1
    have g1 : (q.size : Int) < (n : Int) := of_decide_eq_true d1
    have HQ := Lib.hid hq
    clear hy hq h hnr
    go_enter Try.func33, Try.ntmps33
    go_wp2_with fail
    refine (rtake_yes s n r _ hs HY.out).mono ?_
    rintro e w1 ⟨rfl, b1⟩
    rw [HQ.out]
    go_wp2_with fail
    go_ret3
    exact ⟨rfl, b1⟩
  · have H := Lib.hid (show NoTake s.data.toList from fun n r hn => hy ⟨n, r, hn⟩)
    clear h hy
    go_enter Try.func33, Try.ntmps33
    go_wp2_with fail
    refine (rtake_no s _ hs H.out).mono ?_
    rintro e w1 ⟨rfl, b1⟩
    go_wp2
    go_ret3
    exact ⟨rfl, b1⟩
end Go.Proofs.Ytjhllkjcaodcgaa
