import Derived.Test.YtjilmnadcbamaaaDoorRefSplit
import Derived.Test.YtjilmnadcbamaaaDoorRefJoin
import Derived.Test.YtjilmnadcbamaaaDoorLessKeys
namespace Go.Proofs.YtjilmnadcbamaaaDoor
open Go.RowKit Go.Lib Go.PlainAid
theorem joinS_inj {l m : List ByteArray} (hl : namesB l = true) (hm : namesB m = true) (h : joinS l = joinS m) : l = m := by
  have e : join (l.map (·.data.toList)) [47] = join (m.map (·.data.toList)) [47] := by
    have := joinS_data l
    rw [h, joinS_data m] at this
    simpa using this.symm
  by_cases h1 : l = []
  · subst h1
    by_cases h2 : m = []
    · exact h2.symm
    · obtain ⟨b, t, _, hj⟩ := join_some h2 hm
      rw [hj] at e; simp [join_nil] at e
  · by_cases h2 : m = []
    · subst h2
      obtain ⟨b, t, _, hj⟩ := join_some h1 hl
      rw [hj] at e; simp [join_nil] at e
    · rw [← pieces_join l h1 hl, ← pieces_join m h2 hm, e]
theorem refSplit_no (s : ByteArray) (w : World) (hs : s.size ≤ 1000000) (h : ∀ l, namesB l = true → joinS l ≠ s) :
    Calls Tryd.prog 14 #[.string s] w fun e w' => e = .returned (.tuple #[.slice none 0 0, .int .i64 10]) ∧ Below w.heap.size w w' := by
  refine (refSplit_any s w hs).mono ?_
  rintro e w' (⟨he, hb, _⟩ | ⟨l, a, c, hn, hj, _⟩)
  · exact ⟨he, hb⟩
  · exact absurd hj (h l hn)
theorem refSplit_ok (s : ByteArray) (ys : List ByteArray) (w : World) (hs : s.size ≤ 1000000) (hn : namesB ys = true) (hj : joinS ys = s) :
    Calls Tryd.prog 14 #[.string s] w fun e w' => ∃ xa xc, e = .returned (.tuple #[.slice xa ys.length xc, .int .i64 0]) ∧ IsL w' xa xc ys ∧ Below w.heap.size w w' := by
  refine (refSplit_any s w hs).mono ?_
  rintro e w' (⟨_, _, h⟩ | ⟨l, a, c, hn2, hj2, he, hl, hb⟩)
  · exact absurd hj (h ys hn)
  · obtain rfl := joinS_inj hn2 hn (hj2.trans hj.symm)
    exact ⟨a, c, he, hl, hb⟩
set_option maxHeartbeats 8000000 in
set_option maxRecDepth 100000 in
theorem tells_nn (s t : ByteArray) (a : Option Addr) (c : Nat) (l : List ByteArray) (w : World) (n : Nat) (x k le : Bool) (HM : Hid (HasMax w)) (h0 : 0 < w.heap.size) (hs : s.size ≤ 1000) (ht : t.size ≤ 1000) (hll : l.length ≤ maxLen) (hl100 : l.length ≤ 100)
    (HL : Hid (IsL w a c l)) (HF : Hid (fewB l = true)) (HS : Hid (∀ x ∈ l, x.size ≤ 1000000)) (HN : Hid (namesB l = false)) (HJV : Hid (joinV l = .tuple #[.string ⟨#[]⟩, .int .i64 10]))
    (CR : Hid (∀ w, Calls Tryd.prog 11 #[.string s] w fun e w' => e = .returned (.tuple #[.int .i64 (n : Nat), .bool x]) ∧ Below w.heap.size w w'))
    (CRR : Hid (∀ w, Calls Tryd.prog 12 #[.string s] w fun e w' => e = .returned (.tuple #[.int .i64 (n : Nat), .bool x]) ∧ Below w.heap.size w w'))
    (CS : Hid (∀ w, HasMax w → Calls Tryd.prog 13 #[.string s] w fun e w' => e = .returned (.tuple #[.slice none 0 0, .int .i64 10]) ∧ Below w.heap.size w w'))
    (CSR : Hid (∀ w, Calls Tryd.prog 14 #[.string s] w fun e w' => e = .returned (.tuple #[.slice none 0 0, .int .i64 10]) ∧ Below w.heap.size w w'))
    (CK : Hid (∀ w, Calls Tryd.prog 17 #[.string s] w fun e w' => e = .returned (.bool k) ∧ Below w.heap.size w w'))
    (CKR : Hid (∀ w, Calls Tryd.prog 18 #[.string s] w fun e w' => e = .returned (.bool k) ∧ Below w.heap.size w w'))
    (CL : Hid (∀ w, Calls Tryd.prog 19 #[.string s, .string t] w fun e w' => e = .returned (.bool le) ∧ Below w.heap.size w w'))
    (CLR : Hid (∀ w, Calls Tryd.prog 20 #[.string s, .string t] w fun e w' => e = .returned (.bool le) ∧ Below w.heap.size w w')) :
    Calls Tryd.prog 3 #[.string s, .string t, .slice a l.length c] w fun e w' => e = .returned (.bool true) ∧ Below w.heap.size w w' := by
  go_enter Tryd.func3, Tryd.ntmps3
  go_wp2_with fail
  refine (awake_any _ HM.out).mono ?_
  rintro e w1 ⟨rfl, b1⟩
  go_wp2_with fail
  refine (few_any a c l _ (HL.out.below b1) hll).mono ?_
  rintro e w1' ⟨rfl, rfl⟩
  rw [HF.out]
  go_wp2_with fail
  refine (CR.out _).mono ?_
  rintro e w2 ⟨rfl, b2'⟩
  have b2 := b1.trans (b2'.mono b1.size)
  clear b2' b1
  go_wp2_with fail
  refine (CRR.out _).mono ?_
  rintro e w3 ⟨rfl, b3'⟩
  have b3 := b2.trans (b3'.mono b2.size)
  clear b3' b2
  go_wp2_with fail
  refine (from_below (CS.out _ (HM.out.below b3 h0)) b3).mono ?_
  rintro e w4 ⟨rfl, b4⟩
  go_wp2_with fail
  refine (from_below (CSR.out _) b4).mono ?_
  rintro e w5 ⟨rfl, b5⟩
  clear b3 b4
  go_wp2_with fail
  refine (join_no a c l _ (HL.out.below b5) HS.out HN.out).mono ?_
  rintro e w6 ⟨rfl, b6'⟩
  have b6 := b5.trans (b6'.mono b5.size)
  clear b6' b5
  go_wp2_with fail
  refine (refJoin_any a c l _ (HL.out.below b6) HS.out (by omega)).mono ?_
  rintro e w7 ⟨rfl, b7'⟩
  rw [HJV.out]
  have b7 := b6.trans (b7'.mono b6.size)
  clear b7' b6
  go_wp2_with fail
  refine (CK.out _).mono ?_
  rintro e w8 ⟨rfl, b8'⟩
  have b8 := b7.trans (b8'.mono b7.size)
  clear b8' b7
  go_wp2_with fail
  refine (CKR.out _).mono ?_
  rintro e w9 ⟨rfl, b9'⟩
  have b9 := b8.trans (b9'.mono b8.size)
  clear b9' b8
  go_wp2_with fail
  refine (CL.out _).mono ?_
  rintro e w10 ⟨rfl, b10'⟩
  have b10 := b9.trans (b10'.mono b9.size)
  clear b10' b9
  go_wp2_with fail
  refine (CLR.out _).mono ?_
  rintro e w11 ⟨rfl, b11'⟩
  have b11 := b10.trans (b11'.mono b10.size)
  clear b11' b10
  go_wp2_with fail
  refine (from_below (same_any none none 0 0 [] [] _ (isL_nil _) (isL_nil _) (by simp)) b11).mono ?_
  rintro e w12 ⟨rfl, b12⟩
  rw [sameB_refl]
  go_wp2
  go_ret
  exact ⟨rfl, b12⟩
set_option maxHeartbeats 8000000 in
set_option maxRecDepth 100000 in
theorem tells_ny (s t : ByteArray) (a : Option Addr) (c : Nat) (l : List ByteArray) (w : World) (n : Nat) (x k le : Bool) (HM : Hid (HasMax w)) (h0 : 0 < w.heap.size) (hs : s.size ≤ 1000) (ht : t.size ≤ 1000) (hll : l.length ≤ maxLen) (hl100 : l.length ≤ 100)
    (HL : Hid (IsL w a c l)) (HF : Hid (fewB l = true)) (HS : Hid (∀ x ∈ l, x.size ≤ 1000000)) (HN : Hid (namesB l = true)) (HJV : Hid (joinV l = .tuple #[.string (joinS l), .int .i64 0]))
    (CR : Hid (∀ w, Calls Tryd.prog 11 #[.string s] w fun e w' => e = .returned (.tuple #[.int .i64 (n : Nat), .bool x]) ∧ Below w.heap.size w w'))
    (CRR : Hid (∀ w, Calls Tryd.prog 12 #[.string s] w fun e w' => e = .returned (.tuple #[.int .i64 (n : Nat), .bool x]) ∧ Below w.heap.size w w'))
    (CS : Hid (∀ w, HasMax w → Calls Tryd.prog 13 #[.string s] w fun e w' => e = .returned (.tuple #[.slice none 0 0, .int .i64 10]) ∧ Below w.heap.size w w'))
    (CSR : Hid (∀ w, Calls Tryd.prog 14 #[.string s] w fun e w' => e = .returned (.tuple #[.slice none 0 0, .int .i64 10]) ∧ Below w.heap.size w w'))
    (CK : Hid (∀ w, Calls Tryd.prog 17 #[.string s] w fun e w' => e = .returned (.bool k) ∧ Below w.heap.size w w'))
    (CKR : Hid (∀ w, Calls Tryd.prog 18 #[.string s] w fun e w' => e = .returned (.bool k) ∧ Below w.heap.size w w'))
    (CL : Hid (∀ w, Calls Tryd.prog 19 #[.string s, .string t] w fun e w' => e = .returned (.bool le) ∧ Below w.heap.size w w'))
    (CLR : Hid (∀ w, Calls Tryd.prog 20 #[.string s, .string t] w fun e w' => e = .returned (.bool le) ∧ Below w.heap.size w w')) :
    Calls Tryd.prog 3 #[.string s, .string t, .slice a l.length c] w fun e w' => e = .returned (.bool true) ∧ Below w.heap.size w w' := by
  go_enter Tryd.func3, Tryd.ntmps3
  go_wp2_with fail
  refine (awake_any _ HM.out).mono ?_
  rintro e w1 ⟨rfl, b1⟩
  go_wp2_with fail
  refine (few_any a c l _ (HL.out.below b1) hll).mono ?_
  rintro e w1' ⟨rfl, rfl⟩
  rw [HF.out]
  go_wp2_with fail
  refine (CR.out _).mono ?_
  rintro e w2 ⟨rfl, b2'⟩
  have b2 := b1.trans (b2'.mono b1.size)
  clear b2' b1
  go_wp2_with fail
  refine (CRR.out _).mono ?_
  rintro e w3 ⟨rfl, b3'⟩
  have b3 := b2.trans (b3'.mono b2.size)
  clear b3' b2
  go_wp2_with fail
  refine (from_below (CS.out _ (HM.out.below b3 h0)) b3).mono ?_
  rintro e w4 ⟨rfl, b4⟩
  go_wp2_with fail
  refine (from_below (CSR.out _) b4).mono ?_
  rintro e w5 ⟨rfl, b5⟩
  clear b3 b4
  go_wp2_with fail
  refine (join_yes a c l _ (HL.out.below b5) HS.out HN.out).mono ?_
  rintro e w6 ⟨rfl, b6'⟩
  have b6 := b5.trans (b6'.mono b5.size)
  clear b6' b5
  go_wp2_with fail
  refine (refJoin_any a c l _ (HL.out.below b6) HS.out (by omega)).mono ?_
  rintro e w7 ⟨rfl, b7'⟩
  rw [HJV.out]
  have b7 := b6.trans (b7'.mono b6.size)
  clear b7' b6
  go_wp2_with fail
  refine (CK.out _).mono ?_
  rintro e w8 ⟨rfl, b8'⟩
  have b8 := b7.trans (b8'.mono b7.size)
  clear b8' b7
  go_wp2_with fail
  refine (CKR.out _).mono ?_
  rintro e w9 ⟨rfl, b9'⟩
  have b9 := b8.trans (b9'.mono b8.size)
  clear b9' b8
  go_wp2_with fail
  refine (CL.out _).mono ?_
  rintro e w10 ⟨rfl, b10'⟩
  have b10 := b9.trans (b10'.mono b9.size)
  clear b10' b9
  go_wp2_with fail
  refine (CLR.out _).mono ?_
  rintro e w11 ⟨rfl, b11'⟩
  have b11 := b10.trans (b11'.mono b10.size)
  clear b11' b10
  go_wp2_with fail
  refine (from_below (same_any none none 0 0 [] [] _ (isL_nil _) (isL_nil _) (by simp)) b11).mono ?_
  rintro e w12 ⟨rfl, b12⟩
  rw [sameB_refl]
  go_wp2
  go_ret
  exact ⟨rfl, b12⟩
set_option maxHeartbeats 8000000 in
set_option maxRecDepth 100000 in
theorem tells_yn (s t : ByteArray) (a : Option Addr) (c : Nat) (l : List ByteArray) (ys : List ByteArray) (hys : ys.length ≤ 1000000) (w : World) (n : Nat) (x k le : Bool) (HM : Hid (HasMax w)) (h0 : 0 < w.heap.size) (hs : s.size ≤ 1000) (ht : t.size ≤ 1000) (hll : l.length ≤ maxLen) (hl100 : l.length ≤ 100)
    (HL : Hid (IsL w a c l)) (HF : Hid (fewB l = true)) (HS : Hid (∀ x ∈ l, x.size ≤ 1000000)) (HN : Hid (namesB l = false)) (HJV : Hid (joinV l = .tuple #[.string ⟨#[]⟩, .int .i64 10]))
    (CR : Hid (∀ w, Calls Tryd.prog 11 #[.string s] w fun e w' => e = .returned (.tuple #[.int .i64 (n : Nat), .bool x]) ∧ Below w.heap.size w w'))
    (CRR : Hid (∀ w, Calls Tryd.prog 12 #[.string s] w fun e w' => e = .returned (.tuple #[.int .i64 (n : Nat), .bool x]) ∧ Below w.heap.size w w'))
    (CS : Hid (∀ w, HasMax w → Calls Tryd.prog 13 #[.string s] w fun e w' => ∃ xa xc, e = .returned (.tuple #[.slice xa ys.length xc, .int .i64 0]) ∧ IsL w' xa xc ys ∧ Below w.heap.size w w'))
    (CSR : Hid (∀ w, Calls Tryd.prog 14 #[.string s] w fun e w' => ∃ xa xc, e = .returned (.tuple #[.slice xa ys.length xc, .int .i64 0]) ∧ IsL w' xa xc ys ∧ Below w.heap.size w w'))
    (CK : Hid (∀ w, Calls Tryd.prog 17 #[.string s] w fun e w' => e = .returned (.bool k) ∧ Below w.heap.size w w'))
    (CKR : Hid (∀ w, Calls Tryd.prog 18 #[.string s] w fun e w' => e = .returned (.bool k) ∧ Below w.heap.size w w'))
    (CL : Hid (∀ w, Calls Tryd.prog 19 #[.string s, .string t] w fun e w' => e = .returned (.bool le) ∧ Below w.heap.size w w'))
    (CLR : Hid (∀ w, Calls Tryd.prog 20 #[.string s, .string t] w fun e w' => e = .returned (.bool le) ∧ Below w.heap.size w w')) :
    Calls Tryd.prog 3 #[.string s, .string t, .slice a l.length c] w fun e w' => e = .returned (.bool true) ∧ Below w.heap.size w w' := by
  go_enter Tryd.func3, Tryd.ntmps3
  go_wp2_with fail
  refine (awake_any _ HM.out).mono ?_
  rintro e w1 ⟨rfl, b1⟩
  go_wp2_with fail
  refine (few_any a c l _ (HL.out.below b1) hll).mono ?_
  rintro e w1' ⟨rfl, rfl⟩
  rw [HF.out]
  go_wp2_with fail
  refine (CR.out _).mono ?_
  rintro e w2 ⟨rfl, b2'⟩
  have b2 := b1.trans (b2'.mono b1.size)
  clear b2' b1
  go_wp2_with fail
  refine (CRR.out _).mono ?_
  rintro e w3 ⟨rfl, b3'⟩
  have b3 := b2.trans (b3'.mono b2.size)
  clear b3' b2
  go_wp2_with fail
  refine (CS.out _ (HM.out.below b3 h0)).mono ?_
  rintro e w4 ⟨xa, xc, rfl, hx, b4'⟩
  have b4 := b3.trans (b4'.mono b3.size)
  have HX4 := Lib.hid hx
  clear hx b4' b3
  go_wp2_with fail
  refine (CSR.out _).mono ?_
  rintro e w5 ⟨ya, yc, rfl, hy, b5'⟩
  have b5 := b4.trans (b5'.mono b4.size)
  have HX5 := Lib.hid (HX4.out.below b5')
  have HY5 := Lib.hid hy
  clear hy b5' b4 HX4
  go_wp2_with fail
  refine (join_no a c l _ (HL.out.below b5) HS.out HN.out).mono ?_
  rintro e w6 ⟨rfl, b6'⟩
  have b6 := b5.trans (b6'.mono b5.size)
  have HX6 := Lib.hid (HX5.out.below b6')
  have HY6 := Lib.hid (HY5.out.below b6')
  clear b6' b5 HX5 HY5
  go_wp2_with fail
  refine (refJoin_any a c l _ (HL.out.below b6) HS.out (by omega)).mono ?_
  rintro e w7 ⟨rfl, b7'⟩
  rw [HJV.out]
  have b7 := b6.trans (b7'.mono b6.size)
  have HX7 := Lib.hid (HX6.out.below b7')
  have HY7 := Lib.hid (HY6.out.below b7')
  clear b7' b6 HX6 HY6
  go_wp2_with fail
  refine (CK.out _).mono ?_
  rintro e w8 ⟨rfl, b8'⟩
  have b8 := b7.trans (b8'.mono b7.size)
  have HX8 := Lib.hid (HX7.out.below b8')
  have HY8 := Lib.hid (HY7.out.below b8')
  clear b8' b7 HX7 HY7
  go_wp2_with fail
  refine (CKR.out _).mono ?_
  rintro e w9 ⟨rfl, b9'⟩
  have b9 := b8.trans (b9'.mono b8.size)
  have HX9 := Lib.hid (HX8.out.below b9')
  have HY9 := Lib.hid (HY8.out.below b9')
  clear b9' b8 HX8 HY8
  go_wp2_with fail
  refine (CL.out _).mono ?_
  rintro e w10 ⟨rfl, b10'⟩
  have b10 := b9.trans (b10'.mono b9.size)
  have HX10 := Lib.hid (HX9.out.below b10')
  have HY10 := Lib.hid (HY9.out.below b10')
  clear b10' b9 HX9 HY9
  go_wp2_with fail
  refine (CLR.out _).mono ?_
  rintro e w11 ⟨rfl, b11'⟩
  have b11 := b10.trans (b11'.mono b10.size)
  have HX11 := Lib.hid (HX10.out.below b11')
  have HY11 := Lib.hid (HY10.out.below b11')
  clear b11' b10 HX10 HY10
  go_wp2_with fail
  refine (from_below (same_any xa ya xc yc ys ys _ HX11.out HY11.out hys) b11).mono ?_
  rintro e w12 ⟨rfl, b12⟩
  rw [sameB_refl]
  go_wp2
  go_ret
  exact ⟨rfl, b12⟩
set_option maxHeartbeats 8000000 in
set_option maxRecDepth 100000 in
theorem tells_yy (s t : ByteArray) (a : Option Addr) (c : Nat) (l : List ByteArray) (ys : List ByteArray) (hys : ys.length ≤ 1000000) (w : World) (n : Nat) (x k le : Bool) (HM : Hid (HasMax w)) (h0 : 0 < w.heap.size) (hs : s.size ≤ 1000) (ht : t.size ≤ 1000) (hll : l.length ≤ maxLen) (hl100 : l.length ≤ 100)
    (HL : Hid (IsL w a c l)) (HF : Hid (fewB l = true)) (HS : Hid (∀ x ∈ l, x.size ≤ 1000000)) (HN : Hid (namesB l = true)) (HJV : Hid (joinV l = .tuple #[.string (joinS l), .int .i64 0]))
    (CR : Hid (∀ w, Calls Tryd.prog 11 #[.string s] w fun e w' => e = .returned (.tuple #[.int .i64 (n : Nat), .bool x]) ∧ Below w.heap.size w w'))
    (CRR : Hid (∀ w, Calls Tryd.prog 12 #[.string s] w fun e w' => e = .returned (.tuple #[.int .i64 (n : Nat), .bool x]) ∧ Below w.heap.size w w'))
    (CS : Hid (∀ w, HasMax w → Calls Tryd.prog 13 #[.string s] w fun e w' => ∃ xa xc, e = .returned (.tuple #[.slice xa ys.length xc, .int .i64 0]) ∧ IsL w' xa xc ys ∧ Below w.heap.size w w'))
    (CSR : Hid (∀ w, Calls Tryd.prog 14 #[.string s] w fun e w' => ∃ xa xc, e = .returned (.tuple #[.slice xa ys.length xc, .int .i64 0]) ∧ IsL w' xa xc ys ∧ Below w.heap.size w w'))
    (CK : Hid (∀ w, Calls Tryd.prog 17 #[.string s] w fun e w' => e = .returned (.bool k) ∧ Below w.heap.size w w'))
    (CKR : Hid (∀ w, Calls Tryd.prog 18 #[.string s] w fun e w' => e = .returned (.bool k) ∧ Below w.heap.size w w'))
    (CL : Hid (∀ w, Calls Tryd.prog 19 #[.string s, .string t] w fun e w' => e = .returned (.bool le) ∧ Below w.heap.size w w'))
    (CLR : Hid (∀ w, Calls Tryd.prog 20 #[.string s, .string t] w fun e w' => e = .returned (.bool le) ∧ Below w.heap.size w w')) :
    Calls Tryd.prog 3 #[.string s, .string t, .slice a l.length c] w fun e w' => e = .returned (.bool true) ∧ Below w.heap.size w w' := by
  go_enter Tryd.func3, Tryd.ntmps3
  go_wp2_with fail
  refine (awake_any _ HM.out).mono ?_
  rintro e w1 ⟨rfl, b1⟩
  go_wp2_with fail
  refine (few_any a c l _ (HL.out.below b1) hll).mono ?_
  rintro e w1' ⟨rfl, rfl⟩
  rw [HF.out]
  go_wp2_with fail
  refine (CR.out _).mono ?_
  rintro e w2 ⟨rfl, b2'⟩
  have b2 := b1.trans (b2'.mono b1.size)
  clear b2' b1
  go_wp2_with fail
  refine (CRR.out _).mono ?_
  rintro e w3 ⟨rfl, b3'⟩
  have b3 := b2.trans (b3'.mono b2.size)
  clear b3' b2
  go_wp2_with fail
  refine (CS.out _ (HM.out.below b3 h0)).mono ?_
  rintro e w4 ⟨xa, xc, rfl, hx, b4'⟩
  have b4 := b3.trans (b4'.mono b3.size)
  have HX4 := Lib.hid hx
  clear hx b4' b3
  go_wp2_with fail
  refine (CSR.out _).mono ?_
  rintro e w5 ⟨ya, yc, rfl, hy, b5'⟩
  have b5 := b4.trans (b5'.mono b4.size)
  have HX5 := Lib.hid (HX4.out.below b5')
  have HY5 := Lib.hid hy
  clear hy b5' b4 HX4
  go_wp2_with fail
  refine (join_yes a c l _ (HL.out.below b5) HS.out HN.out).mono ?_
  rintro e w6 ⟨rfl, b6'⟩
  have b6 := b5.trans (b6'.mono b5.size)
  have HX6 := Lib.hid (HX5.out.below b6')
  have HY6 := Lib.hid (HY5.out.below b6')
  clear b6' b5 HX5 HY5
  go_wp2_with fail
  refine (refJoin_any a c l _ (HL.out.below b6) HS.out (by omega)).mono ?_
  rintro e w7 ⟨rfl, b7'⟩
  rw [HJV.out]
  have b7 := b6.trans (b7'.mono b6.size)
  have HX7 := Lib.hid (HX6.out.below b7')
  have HY7 := Lib.hid (HY6.out.below b7')
  clear b7' b6 HX6 HY6
  go_wp2_with fail
  refine (CK.out _).mono ?_
  rintro e w8 ⟨rfl, b8'⟩
  have b8 := b7.trans (b8'.mono b7.size)
  have HX8 := Lib.hid (HX7.out.below b8')
  have HY8 := Lib.hid (HY7.out.below b8')
  clear b8' b7 HX7 HY7
  go_wp2_with fail
  refine (CKR.out _).mono ?_
  rintro e w9 ⟨rfl, b9'⟩
  have b9 := b8.trans (b9'.mono b8.size)
  have HX9 := Lib.hid (HX8.out.below b9')
  have HY9 := Lib.hid (HY8.out.below b9')
  clear b9' b8 HX8 HY8
  go_wp2_with fail
  refine (CL.out _).mono ?_
  rintro e w10 ⟨rfl, b10'⟩
  have b10 := b9.trans (b10'.mono b9.size)
  have HX10 := Lib.hid (HX9.out.below b10')
  have HY10 := Lib.hid (HY9.out.below b10')
  clear b10' b9 HX9 HY9
  go_wp2_with fail
  refine (CLR.out _).mono ?_
  rintro e w11 ⟨rfl, b11'⟩
  have b11 := b10.trans (b11'.mono b10.size)
  have HX11 := Lib.hid (HX10.out.below b11')
  have HY11 := Lib.hid (HY10.out.below b11')
  clear b11' b10 HX10 HY10
  go_wp2_with fail
  refine (from_below (same_any xa ya xc yc ys ys _ HX11.out HY11.out hys) b11).mono ?_
  rintro e w12 ⟨rfl, b12⟩
  rw [sameB_refl]
  go_wp2
  go_ret
  exact ⟨rfl, b12⟩
theorem tells_few (s t : ByteArray) (a : Option Addr) (c : Nat) (l : List ByteArray) (w : World) (hm : HasMax w) (hs : s.size ≤ 1000) (ht : t.size ≤ 1000) (hl : IsL w a c l) (hf : fewB l = true) :
    Calls Tryd.prog 3 #[.string s, .string t, .slice a l.length c] w fun e w' => e = .returned (.bool true) ∧ Below w.heap.size w w' := by
  have h0 := hm.pos
  have hfs := fewB_small hf
  have hll : l.length ≤ maxLen := by unfold maxLen; omega
  have CR := Lib.hid (fun w => runes_t s w (by omega))
  have CRR := Lib.hid (fun w => refRunes_any s w (by omega))
  have CK := Lib.hid (fun w => check_any s w (by omega))
  have CKR := Lib.hid (fun w => refCheck_any s w (by omega))
  have CL := Lib.hid (fun w => less_any s t w (by omega) (by omega))
  have CLR := fun w => refLess_any s t w (by omega) (by omega)
  rw [← less_keys] at CLR
  obtain ⟨ys, hy⟩ := half_or s
  cases ys with
  | none =>
    have CS := Lib.hid (fun w hw => split_bad s w hw (by omega) hy)
    have CSR := Lib.hid (fun w => refSplit_no s w (by omega) hy)
    cases hn : namesB l with
    | false => exact tells_nn s t a c l w _ _ _ _ (Lib.hid hm) h0 hs ht hll hfs.1 (Lib.hid hl) (Lib.hid hf) (Lib.hid hfs.2) (Lib.hid hn) (Lib.hid (joinV_no hn)) CR CRR CS CSR CK CKR CL (Lib.hid CLR)
    | true => exact tells_ny s t a c l w _ _ _ _ (Lib.hid hm) h0 hs ht hll hfs.1 (Lib.hid hl) (Lib.hid hf) (Lib.hid hfs.2) (Lib.hid hn) (Lib.hid (joinV_yes hn)) CR CRR CS CSR CK CKR CL (Lib.hid CLR)
  | some ys =>
    have hys : ys.length ≤ 1000000 := by have := namesB_len hy.1; omega
    have CS := Lib.hid (fun w hw => split_ok s ys w hw (by omega) hy.1 hy.2)
    have CSR := Lib.hid (fun w => refSplit_ok s ys w (by omega) hy.1 hy.2)
    cases hn : namesB l with
    | false => exact tells_yn s t a c l ys hys w _ _ _ _ (Lib.hid hm) h0 hs ht hll hfs.1 (Lib.hid hl) (Lib.hid hf) (Lib.hid hfs.2) (Lib.hid hn) (Lib.hid (joinV_no hn)) CR CRR CS CSR CK CKR CL (Lib.hid CLR)
    | true => exact tells_yy s t a c l ys hys w _ _ _ _ (Lib.hid hm) h0 hs ht hll hfs.1 (Lib.hid hl) (Lib.hid hf) (Lib.hid hfs.2) (Lib.hid hn) (Lib.hid (joinV_yes hn)) CR CRR CS CSR CK CKR CL (Lib.hid CLR)
set_option maxHeartbeats 2000000 in
set_option maxRecDepth 100000 in
theorem tells_walk (s t : ByteArray) (a : Option Addr) (c : Nat) (l : List ByteArray) (w : World) (hm : HasMax w) (hs : s.size ≤ maxLen) (ht : t.size ≤ maxLen) (hl : IsL w a c l) (hll : l.length ≤ maxLen ∧ ∀ s ∈ l, s.size ≤ maxLen) :
    Calls Tryd.prog 3 #[.string s, .string t, .slice a l.length c] w fun e w' => e = .returned (.bool true) ∧ Below w.heap.size w w' := by
  have HM := Lib.hid hm
  have HL := Lib.hid hl
  have hl1 := hll.1
  clear hll hm hl
  unfold maxLen at hs ht
  cases hf : fewB l with
  | false =>
    have HF := Lib.hid hf
    clear hf
    go_enter Tryd.func3, Tryd.ntmps3
    go_wp2_with fail
    refine (awake_any _ HM.out).mono ?_
    rintro e w1 ⟨rfl, b1⟩
    go_wp2_with fail
    refine (few_any a c l _ (HL.out.below b1) hl1).mono ?_
    rintro e w1' ⟨rfl, rfl⟩
    rw [HF.out]
    go_wp2
    go_ret
    exact ⟨rfl, b1⟩
  | true =>
    by_cases h1 : s.size ≤ 1000 ∧ t.size ≤ 1000
    · exact tells_few s t a c l w HM.out h1.1 h1.2 HL.out hf
    · have HF := Lib.hid hf
      clear hf
      go_enter Tryd.func3, Tryd.ntmps3
      go_wp2_with fail
      refine (awake_any _ HM.out).mono ?_
      rintro e w1 ⟨rfl, b1⟩
      go_wp2_with fail
      refine (few_any a c l _ (HL.out.below b1) hl1).mono ?_
      rintro e w1' ⟨rfl, rfl⟩
      rw [HF.out]
      go_wp2_with (go_at_call 11; exfalso; omega)
      all_goals (go_ret; exact ⟨rfl, b1⟩)
end Go.Proofs.YtjilmnadcbamaaaDoor
