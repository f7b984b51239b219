/-
  The landed package op: kinds, Check, Less.
-/
import Derived.Test.YtnndanpahcdmaaaRChk
import Derived.Test.YtnndanpahcdmaaaPkS
namespace Go.Proofs.Ytnndanpahcdmaaa
open Go.RowKit Go.Lib
theorem oof_any (n : Int) (hl : -9223372036854775808 ≤ n) (hh : n ≤ 9223372036854775807) (w : World) :
    Calls Try.prog 66 #[.int .i64 n] w fun e w' => e = .returned (.tuple #[.agg #[.int .i64 (ofC n), .int .i64 (ofR n)], .bool (ofF n), .bool (isN n)]) ∧ Below w.heap.size w w' := by
  by_cases h : 128 ≤ n ∧ n < 134217856
  · have hi : isN n = true := decide_eq_true h
    have hf : ofF n = decide (n % 2 = 1) := by unfold ofF; rw [hi]; rfl
    unfold ofC ofR
    rw [hf, hi]
    exact of_yes rfl h.1 h.2 w
  · have hi : isN n = false := decide_eq_false h
    have hf : ofF n = false := by unfold ofF; rw [hi]; rfl
    unfold ofC ofR
    rw [hf, hi]
    exact of_no (by omega) hl hh w
/-- Whether the node of a number was made only behind a time. -/
def lateN (n c r : Int) : Bool := isN n && lessS c r (ofC n) (ofR n)
theorem later_any (n c r : Int) (hl : -9223372036854775808 ≤ n) (hh : n ≤ 9223372036854775807) (w : World) :
    Calls Try.prog 42 #[.int .i64 n, .agg #[.int .i64 c, .int .i64 r]] w fun e w' => e = .returned (.bool (lateN n c r)) ∧ Below w.heap.size w w' := by
  have H := Lib.hid (fun w => oof_any n hl hh w)
  obtain ⟨z, hz⟩ : ∃ x, lateN n c r = x := ⟨_, rfl⟩
  obtain ⟨a, ha⟩ : ∃ x, ofC n = x := ⟨_, rfl⟩
  obtain ⟨b, hb⟩ : ∃ x, ofR n = x := ⟨_, rfl⟩
  obtain ⟨f, hf⟩ : ∃ x, ofF n = x := ⟨_, rfl⟩
  obtain ⟨i, hi⟩ : ∃ x, isN n = x := ⟨_, rfl⟩
  have Z := Lib.hid hz
  unfold lateN at hz
  rw [ha, hb, hi] at hz
  rw [Z.out]
  rw [ha, hb, hf, hi] at H
  have Y := Lib.hid hz
  clear ha hb hf hi hz Z
  go_enter Try.func42, Try.ntmps42
  go_wp2_with fail
  refine (H.out _).mono ?_
  rintro e w1 ⟨rfl, c1⟩
  have b1 := step_a (Below.refl _ _) c1
  have q1 := (has2_new w (.int .i64 c) (.int .i64 r) 24).below c1
  have Q1 := Lib.hid q1
  have l1 := q1.lt
  obtain ⟨k0, k1⟩ := q1
  cases i with
  | false =>
    go_wp2_with fail
    go_ret
    exact ⟨by rw [← Y.out]; rfl, b1.alloc b1.size _⟩
  | true =>
    go_wp2_with fail
    refine (sless_any _ _ _ _ _).mono ?_
    rintro e w2 ⟨rfl, c2⟩
    have b2 := step_a b1 c2
    go_wp2_with fail
    go_ret
    exact ⟨by rw [← Y.out]; rfl, b2⟩
def kindV (o : Opn) : Value := if o.k = 1 then .iface 77 (OV o) else if o.k = 2 then .iface 95 (OV o) else .nilIface
theorem kind_any (o : Opn) (w : World) :
    Calls Try.prog 40 #[OV o] w fun e w' => e = .returned (kindV o) ∧ Below w.heap.size w w' := by
  obtain ⟨z, hz⟩ : ∃ x, kindV o = x := ⟨_, rfl⟩
  have Z := Lib.hid hz
  unfold kindV at hz
  rw [Z.out]
  have q1 := hasO_new w o 26
  obtain ⟨k0, k1, k2, k3, k4, k5, k6⟩ := q1
  by_cases hk : o.k = 1
  · rw [if_pos hk] at hz
    have Y := Lib.hid hz
    have e1 : (o.k == 1) = true := by rw [beq_iff_eq]; exact hk
    clear hz hk Z
    go_enter Try.func40, Try.ntmps40
    go_wp2_with fail
    go_ret
    exact ⟨by rw [← Y.out]; rfl, below_alloc _ _⟩
  · rw [if_neg hk] at hz
    have e1 : (o.k == 1) = false := by rw [beq_eq_false_iff_ne]; exact hk
    by_cases h2 : o.k = 2
    · rw [if_pos h2] at hz
      have Y := Lib.hid hz
      have e2 : (o.k == 2) = true := by rw [beq_iff_eq]; exact h2
      clear hz hk h2 Z
      go_enter Try.func40, Try.ntmps40
      go_wp2_with fail
      go_ret
      exact ⟨by rw [← Y.out]; rfl, below_alloc _ _⟩
    · rw [if_neg h2] at hz
      have Y := Lib.hid hz
      have e2 : (o.k == 2) = false := by rw [beq_eq_false_iff_ne]; exact h2
      clear hz hk h2 Z
      go_enter Try.func40, Try.ntmps40
      go_wp2_with fail
      go_ret
      exact ⟨by rw [← Y.out]; rfl, below_alloc _ _⟩
def moveF (o : Opn) : Bool := isN o.n && (dirB o.p && (chk o.s.data.toList && o.d.toList.isEmpty))
set_option maxRecDepth 100000 in
set_option maxHeartbeats 1000000 in
theorem mfits_any (o : Opn) (w : World) (hs : o.s.size ≤ maxLen) (hn : -9223372036854775808 ≤ o.n ∧ o.n ≤ 9223372036854775807) (hp : -9223372036854775808 ≤ o.p ∧ o.p ≤ 9223372036854775807) :
    Calls Try.prog 104 #[OV o] w fun e w' => e = .returned (.bool (moveF o)) ∧ Below w.heap.size w w' := by
  have H := Lib.hid (fun w => oof_any o.n hn.1 hn.2 w)
  obtain ⟨z, hz⟩ : ∃ x, moveF o = x := ⟨_, rfl⟩
  obtain ⟨a, ha⟩ : ∃ x, ofC o.n = x := ⟨_, rfl⟩
  obtain ⟨b, hb⟩ : ∃ x, ofR o.n = x := ⟨_, rfl⟩
  obtain ⟨f, hf⟩ : ∃ x, ofF o.n = x := ⟨_, rfl⟩
  obtain ⟨i, hi⟩ : ∃ x, isN o.n = x := ⟨_, rfl⟩
  obtain ⟨dr, hdr⟩ : ∃ x, dirB o.p = x := ⟨_, rfl⟩
  obtain ⟨ck, hck⟩ : ∃ x, chk o.s.data.toList = x := ⟨_, rfl⟩
  have Z := Lib.hid hz
  unfold moveF at hz
  rw [hi, hdr, hck] at hz
  rw [Z.out]
  rw [ha, hb, hf, hi] at H
  have Y := Lib.hid hz
  have HD := Lib.hid (fun w => dir_is hdr hp.1 hp.2 w)
  have HC := Lib.hid (show ∀ w, Calls Try.prog 108 #[.string o.s] w fun e w' => e = .returned (.bool ck) ∧ Below w.heap.size w w' from fun w => by
    have := check_far o.s w (by unfold maxLen at hs; omega)
    rwa [hck] at this)
  clear ha hb hf hi hz Z hdr hck hn hp hs
  go_enter Try.func104, Try.ntmps104
  go_wp2_with fail
  refine (H.out _).mono ?_
  rintro e w1 ⟨rfl, c1⟩
  have b1 := step_a (Below.refl _ _) c1
  have Q1 := Lib.hid ((hasO_new w o 77).below c1)
  obtain ⟨k0, k1, k2, k3, k4, k5, k6⟩ := Q1.out
  have lo := Q1.out.lt
  clear c1
  cases i with
  | false =>
    go_wp2_with fail
    go_ret
    exact ⟨by rw [← Y.out]; rfl, b1.alloc b1.size _⟩
  | true =>
    go_wp2_with fail
    refine (HD.out _).mono ?_
    rintro e w2 ⟨rfl, c2⟩
    have b2 := step_a b1 c2
    have Q2 := Lib.hid ((Q1.out.below (below_alloc _ _)).below c2)
    obtain ⟨k0, k1, k2, k3, k4, k5, k6⟩ := Q2.out
    clear Q1 b1 c2
    cases dr with
    | false => go_wp2_with fail; go_ret; exact ⟨by rw [← Y.out]; rfl, b2⟩
    | true =>
    go_wp2_with fail
    refine (HC.out _).mono ?_
    rintro e w3 ⟨rfl, c3⟩
    have b3 := step_b b2 c3
    have Q3 := Lib.hid (Q2.out.below c3)
    obtain ⟨k0, k1, k2, k3, k4, k5, k6⟩ := Q3.out
    clear Q2 b2 c3
    cases ck with
    | false => go_wp2_with fail; go_ret; exact ⟨by rw [← Y.out]; rfl, b3⟩
    | true => go_wp2_with fail; go_ret; exact ⟨by rw [← Y.out]; rfl, b3⟩
set_option maxRecDepth 100000 in
set_option maxHeartbeats 1000000 in
theorem wfits_any (o : Opn) (w : World) (hn : -9223372036854775808 ≤ o.n ∧ o.n ≤ 9223372036854775807) :
    Calls Try.prog 112 #[OV o] w fun e w' => e = .returned (.bool (writeB o)) ∧ Below w.heap.size w w' := by
  have H := Lib.hid (fun w => oof_any o.n hn.1 hn.2 w)
  obtain ⟨z, hz⟩ : ∃ x, writeB o = x := ⟨_, rfl⟩
  obtain ⟨a, ha⟩ : ∃ x, ofC o.n = x := ⟨_, rfl⟩
  obtain ⟨b, hb⟩ : ∃ x, ofR o.n = x := ⟨_, rfl⟩
  obtain ⟨f, hf⟩ : ∃ x, ofF o.n = x := ⟨_, rfl⟩
  obtain ⟨i, hi⟩ : ∃ x, isN o.n = x := ⟨_, rfl⟩
  have Z := Lib.hid hz
  unfold writeB at hz
  rw [hf] at hz
  rw [Z.out]
  rw [ha, hb, hf, hi] at H
  have Y := Lib.hid hz
  clear ha hb hf hi hz Z hn
  go_enter Try.func112, Try.ntmps112
  go_wp2_with fail
  refine (H.out _).mono ?_
  rintro e w1 ⟨rfl, c1⟩
  have b1 := step_a (Below.refl _ _) c1
  have Q1 := Lib.hid ((hasO_new w o 95).below c1)
  obtain ⟨k0, k1, k2, k3, k4, k5, k6⟩ := Q1.out
  have lo := Q1.out.lt
  clear c1
  cases f with
  | false =>
    go_wp2_with fail
    go_ret
    exact ⟨by rw [← Y.out]; rfl, b1.alloc b1.size _⟩
  | true =>
    by_cases h6 : o.d.size ≤ 64
    · have e3 : decide ((o.d.size : Int) ≤ 64) = true := decide_eq_true (by omega)
      have d3 : decide (o.d.size ≤ 64) = true := decide_eq_true h6
      rw [d3] at Y
      clear h6 d3
      by_cases hp : o.p = 0
      · have e4 : (o.p == 0) = true := by rw [beq_iff_eq]; exact hp
        have d4 : decide (o.p = 0) = true := decide_eq_true hp
        rw [d4] at Y
        clear hp d4
        go_wp2_with fail; go_ret; exact ⟨by rw [← Y.out]; rfl, b1.alloc b1.size _⟩
      · have e4 : (o.p == 0) = false := by rw [beq_eq_false_iff_ne]; exact hp
        have d4 : decide (o.p = 0) = false := decide_eq_false hp
        rw [d4] at Y
        clear hp d4
        go_wp2_with fail; go_ret; exact ⟨by rw [← Y.out]; rfl, b1.alloc b1.size _⟩
    · have e3 : decide ((o.d.size : Int) ≤ 64) = false := decide_eq_false (by omega)
      have d3 : decide (o.d.size ≤ 64) = false := decide_eq_false h6
      rw [d3] at Y
      clear h6 d3
      go_wp2_with fail; go_ret; exact ⟨by rw [← Y.out]; rfl, b1.alloc b1.size _⟩
theorem mayO_move (o : Opn) (hk : o.k = 1) : mayO o = (mayB o.c o.r && (moveF o && (!lateN o.n o.c o.r && !lateN o.p o.c o.r))) := by
  unfold mayO lateB moveF moveB lateN
  rw [if_pos hk]
  generalize mayB o.c o.r = a
  generalize isN o.n = b
  generalize lessS o.c o.r (ofC o.n) (ofR o.n) = c
  generalize isN o.p = d
  generalize lessS o.c o.r (ofC o.p) (ofR o.p) = e
  generalize dirB o.p = f
  generalize (chk o.s.data.toList && o.d.toList.isEmpty) = g
  revert a b c d e f g
  decide
theorem mayO_write (o : Opn) (hk : o.k = 2) : mayO o = (mayB o.c o.r && (writeB o && !lateN o.n o.c o.r)) := by
  unfold mayO lateB writeB lateN ofF
  rw [if_neg (by omega), decide_eq_true hk]
  by_cases hp : o.p = 0
  · have e : isN o.p = false := by rw [hp]; decide
    rw [e]
    generalize mayB o.c o.r = a
    generalize isN o.n = b
    generalize lessS o.c o.r (ofC o.n) (ofR o.n) = c
    generalize lessS o.c o.r (ofC o.p) (ofR o.p) = e
    generalize decide (o.n % 2 = 1) = f
    generalize (decide (o.d.size ≤ 64) && (decide (o.p = 0) && o.s.toList.isEmpty)) = g
    revert a b c e f g
    decide
  · rw [decide_eq_false hp]
    simp
theorem mayO_none (o : Opn) (h1 : o.k ≠ 1) (h2 : o.k ≠ 2) : mayO o = false := by
  unfold mayO
  rw [if_neg h1, decide_eq_false h2]
  simp
theorem as_move (o : Opn) (w : World) : (Instr.typeAssert (.iface 77 (OV o)) 72 77 true).run Try.prog w = .ok (.tuple #[OV o, .bool true]) w := by kernel_rfl
theorem as_none (o : Opn) (w : World) : (Instr.typeAssert (.iface 95 (OV o)) 72 77 true).run Try.prog w = .ok (.tuple #[OV ⟨0, 0, 0, 0, 0, ⟨#[]⟩, ⟨#[]⟩⟩, .bool false]) w := by kernel_rfl
set_option maxRecDepth 100000 in
set_option maxHeartbeats 2000000 in
theorem ochk_any (o : Opn) (w : World) (hs : o.s.size ≤ maxLen) (hn : -9223372036854775808 ≤ o.n ∧ o.n ≤ 9223372036854775807) (hp : -9223372036854775808 ≤ o.p ∧ o.p ≤ 9223372036854775807) :
    Calls Try.prog 26 #[OV o] w fun e w' => e = .returned (.bool (mayO o)) ∧ Below w.heap.size w w' := by
  obtain ⟨z, hz⟩ : ∃ x, mayO o = x := ⟨_, rfl⟩
  have Z := Lib.hid hz
  rw [Z.out]
  have HK := Lib.hid (fun w => kind_any o w)
  obtain ⟨m, hm⟩ : ∃ x, mayB o.c o.r = x := ⟨_, rfl⟩
  have HM := Lib.hid (fun w => @check_is o.c o.r m hm w)
  obtain ⟨l1, hl1⟩ : ∃ x, lateN o.n o.c o.r = x := ⟨_, rfl⟩
  obtain ⟨l2, hl2⟩ : ∃ x, lateN o.p o.c o.r = x := ⟨_, rfl⟩
  have HL1 := Lib.hid (show ∀ w, Calls Try.prog 42 #[.int .i64 o.n, .agg #[.int .i64 o.c, .int .i64 o.r]] w fun e w' => e = .returned (.bool l1) ∧ Below w.heap.size w w' from fun w => by
    have := later_any o.n o.c o.r hn.1 hn.2 w
    rwa [hl1] at this)
  have HL2 := Lib.hid (show ∀ w, Calls Try.prog 42 #[.int .i64 o.p, .agg #[.int .i64 o.c, .int .i64 o.r]] w fun e w' => e = .returned (.bool l2) ∧ Below w.heap.size w w' from fun w => by
    have := later_any o.p o.c o.r hp.1 hp.2 w
    rwa [hl2] at this)
  by_cases hk : o.k = 1
  · obtain ⟨f, hf⟩ : ∃ x, moveF o = x := ⟨_, rfl⟩
    rw [mayO_move o hk, hm, hf, hl1, hl2] at hz
    have Y := Lib.hid hz
    have HF := Lib.hid (show ∀ w, Calls Try.prog 104 #[OV o] w fun e w' => e = .returned (.bool f) ∧ Below w.heap.size w w' from fun w => by
      have := mfits_any o w hs hn hp
      rwa [hf] at this)
    have hT := as_move o
    have HV := Lib.hid (show kindV o = .iface 77 (OV o) by unfold kindV; rw [if_pos hk])
    clear hm hl1 hl2 hz hk Z hf hs hn hp
    go_enter Try.func26, Try.ntmps26
    go_wp2_with fail
    refine (HK.out _).mono ?_
    rintro e w1 ⟨rfl, c1⟩
    rw [HV.out]
    have b1 := step_a (Below.refl _ _) c1
    have Q1 := Lib.hid ((hasO_new w o 26).below c1)
    obtain ⟨k0, k1, k2, k3, k4, k5, k6⟩ := Q1.out
    have lo := Q1.out.lt
    clear c1
    go_wp2_with fail
    refine (HM.out _).mono ?_
    rintro e w2 ⟨rfl, c2⟩
    have b2 := step_b b1 c2
    have Q2 := Lib.hid (Q1.out.below c2)
    obtain ⟨k0, k1, k2, k3, k4, k5, k6⟩ := Q2.out
    have lo := Q2.out.lt
    clear Q1 b1 c2
    cases m with
    | false => go_wp2_with fail; go_ret; exact ⟨by rw [← Y.out]; rfl, b2⟩
    | true =>
    go_wp2_with fail
    refine (HF.out _).mono ?_
    rintro e w3 ⟨rfl, c3⟩
    have b3 := step_b b2 c3
    have Q3 := Lib.hid (Q2.out.below c3)
    obtain ⟨k0, k1, k2, k3, k4, k5, k6⟩ := Q3.out
    have lo := Q3.out.lt
    clear Q2 b2 c3
    cases f with
    | false => go_wp2_with fail; go_ret; exact ⟨by rw [← Y.out]; rfl, b3⟩
    | true =>
    go_wp2_with fail
    refine (HL1.out _).mono ?_
    rintro e w4 ⟨rfl, c4⟩
    have b4 := step_b b3 c4
    have Q4 := Lib.hid (Q3.out.below c4)
    obtain ⟨k0, k1, k2, k3, k4, k5, k6⟩ := Q4.out
    have lo := Q4.out.lt
    clear Q3 b3 c4
    cases l1 with
    | true => go_wp2_with fail; go_ret; exact ⟨by rw [← Y.out]; rfl, b4⟩
    | false =>
    go_wp2_with fail
    refine (HL2.out _).mono ?_
    rintro e w5 ⟨rfl, c5⟩
    have b5 := step_a b4 c5
    go_wp2_with fail
    go_ret
    exact ⟨by rw [← Y.out]; rfl, b5⟩
  · by_cases h2 : o.k = 2
    · obtain ⟨f, hf⟩ : ∃ x, writeB o = x := ⟨_, rfl⟩
      rw [mayO_write o h2, hm, hf, hl1] at hz
      have Y := Lib.hid hz
      have HF := Lib.hid (show ∀ w, Calls Try.prog 112 #[OV o] w fun e w' => e = .returned (.bool f) ∧ Below w.heap.size w w' from fun w => by
        have := wfits_any o w hn
        rwa [hf] at this)
      have hT := as_none o
      have HV := Lib.hid (show kindV o = .iface 95 (OV o) by unfold kindV; rw [if_neg hk, if_pos h2])
      clear hm hl1 hl2 hz hk h2 Z hf hs hn hp HL2
      go_enter Try.func26, Try.ntmps26
      go_wp2_with fail
      refine (HK.out _).mono ?_
      rintro e w1 ⟨rfl, c1⟩
      rw [HV.out]
      have b1 := step_a (Below.refl _ _) c1
      have Q1 := Lib.hid ((hasO_new w o 26).below c1)
      obtain ⟨k0, k1, k2, k3, k4, k5, k6⟩ := Q1.out
      have lo := Q1.out.lt
      clear c1
      go_wp2_with fail
      refine (HM.out _).mono ?_
      rintro e w2 ⟨rfl, c2⟩
      have b2 := step_b b1 c2
      have Q2 := Lib.hid (Q1.out.below c2)
      obtain ⟨k0, k1, k2, k3, k4, k5, k6⟩ := Q2.out
      have lo := Q2.out.lt
      clear Q1 b1 c2
      cases m with
      | false => go_wp2_with fail; go_ret; exact ⟨by rw [← Y.out]; rfl, b2⟩
      | true =>
      go_wp2_with fail
      refine (HF.out _).mono ?_
      rintro e w3 ⟨rfl, c3⟩
      have b3 := step_b b2 c3
      have Q3 := Lib.hid (Q2.out.below c3)
      obtain ⟨k0, k1, k2, k3, k4, k5, k6⟩ := Q3.out
      have lo := Q3.out.lt
      clear Q2 b2 c3
      cases f with
      | false => go_wp2_with fail; go_ret; exact ⟨by rw [← Y.out]; rfl, b3⟩
      | true =>
      go_wp2_with fail
      refine (HL1.out _).mono ?_
      rintro e w4 ⟨rfl, c4⟩
      have b4 := step_b b3 c4
      have Q4 := Lib.hid (Q3.out.below c4)
      obtain ⟨k0, k1, k2, k3, k4, k5, k6⟩ := Q4.out
      have lo := Q4.out.lt
      clear Q3 b3 c4
      cases l1 with
      | true => go_wp2_with fail; go_ret; exact ⟨by rw [← Y.out]; rfl, b4⟩
      | false =>
      go_wp2_with fail
      go_ret
      exact ⟨by rw [← Y.out]; rfl, b4.alloc b4.size _⟩
    · rw [mayO_none o hk h2] at hz
      have Y := Lib.hid hz
      have HV := Lib.hid (show kindV o = .nilIface by unfold kindV; rw [if_neg hk, if_neg h2])
      clear hm hl1 hl2 hz hk h2 Z hs hn hp HL1 HL2 HM
      go_enter Try.func26, Try.ntmps26
      go_wp2_with fail
      refine (HK.out _).mono ?_
      rintro e w1 ⟨rfl, c1⟩
      rw [HV.out]
      have b1 := step_a (Below.refl _ _) c1
      go_wp2_with fail
      go_ret
      exact ⟨by rw [← Y.out]; rfl, b1⟩
theorem oless_any (o q : Opn) (w : World) :
    Calls Try.prog 67 #[OV o, OV q] w fun e w' => e = .returned (.bool (lessS o.c o.r q.c q.r)) ∧ Below w.heap.size w w' := by
  have q1 := (hasO_new w o 26).below (below_alloc _ (.cells #[.int .i64 q.c, .int .i64 q.r, .int .i64 q.k, .int .i64 q.n, .int .i64 q.p, .string q.s, .string q.d] 26))
  have q2 := hasO_new (w.alloc (.cells #[.int .i64 o.c, .int .i64 o.r, .int .i64 o.k, .int .i64 o.n, .int .i64 o.p, .string o.s, .string o.d] 26)) q 26
  obtain ⟨k0, k1, k2, k3, k4, k5, k6⟩ := q1
  obtain ⟨u0, u1, u2, u3, u4, u5, u6⟩ := q2
  go_enter Try.func67, Try.ntmps67
  go_wp2_with fail
  refine (sless_any _ _ _ _ _).mono ?_
  rintro e w2 ⟨rfl, c2⟩
  have b2 := step_a (below_alloc w (.cells #[.int .i64 o.c, .int .i64 o.r, .int .i64 o.k, .int .i64 o.n, .int .i64 o.p, .string o.s, .string o.d] 26)) c2
  go_wp2_with fail
  go_ret
  exact ⟨rfl, b2⟩
end Go.Proofs.Ytnndanpahcdmaaa
