/-
  The document's Check of operations, and Less.
-/
import Derived.Test.YtnndanpahcdmaaaOpn
import Derived.Test.YtnndanpahcdmaaaPkS
import Derived.Test.YtnndanpahcdmaaaByteTexts
import Derived.Deep.DeepCutAuto
namespace Go.Proofs.Ytnndanpahcdmaaa
open Go.RowKit Go.Lib
theorem rof_any (n : Int) (w : World) :
    Calls Try.prog 48 #[.int .i64 n] w fun e w' => e = .returned (.tuple #[.agg #[.int .i64 (ofC n), .int .i64 (ofR n)], .bool (ofF n), .bool (isN n)]) ∧ Below w.heap.size w w' := by
  by_cases h : 128 ≤ n ∧ n < 134217856
  · have hi : isN n = true := decide_eq_true h
    have hf : ofF n = decide (n % 2 = 1) := by unfold ofF; rw [hi]; rfl
    unfold ofC ofR
    rw [hf, hi]
    exact rof_yes rfl h.1 h.2 w
  · have hi : isN n = false := decide_eq_false h
    have hf : ofF n = false := by unfold ofF; rw [hi]; rfl
    unfold ofC ofR
    rw [hf, hi]
    exact rof_no (by omega) w
/-- Block b holds this operation. -/
def HasO (w : World) (b : Nat) (o : Opn) : Prop :=
  w.cell? ⟨b, 0, none⟩ = some (.int .i64 o.c) ∧ w.cell? ⟨b, 1, none⟩ = some (.int .i64 o.r) ∧ w.cell? ⟨b, 2, none⟩ = some (.int .i64 o.k) ∧ w.cell? ⟨b, 3, none⟩ = some (.int .i64 o.n) ∧
  w.cell? ⟨b, 4, none⟩ = some (.int .i64 o.p) ∧ w.cell? ⟨b, 5, none⟩ = some (.string o.s) ∧ w.cell? ⟨b, 6, none⟩ = some (.string o.d)
theorem HasO.below {w w' : World} {b : Nat} {o : Opn} (h : HasO w b o) (hb : Below w.heap.size w w') : HasO w' b o := by
  have hlt : b < w.heap.size := World.block_lt_of_cell? w ⟨b, 0, none⟩ h.1
  obtain ⟨h0, h1, h2, h3, h4, h5, h6⟩ := h
  refine ⟨?_, ?_, ?_, ?_, ?_, ?_, ?_⟩ <;> (rw [hb.cell (p := ⟨b, _, none⟩) hlt]; assumption)
theorem HasO.lt {w : World} {b : Nat} {o : Opn} (h : HasO w b o) : b < w.heap.size := World.block_lt_of_cell? w ⟨b, 0, none⟩ h.1
theorem hasO_new (w : World) (o : Opn) (t : TypeId) : HasO (w.alloc (.cells #[.int .i64 o.c, .int .i64 o.r, .int .i64 o.k, .int .i64 o.n, .int .i64 o.p, .string o.s, .string o.d] t)) w.heap.size o := by
  refine ⟨?_, ?_, ?_, ?_, ?_, ?_, ?_⟩ <;> (rw [World.cell?_alloc_at _ _ _ _ rfl]; rfl)
/-- Block b holds these two. -/
def Has2 (w : World) (b : Nat) (x y : Value) : Prop := w.cell? ⟨b, 0, none⟩ = some x ∧ w.cell? ⟨b, 1, none⟩ = some y
theorem Has2.below {w w' : World} {b : Nat} {x y : Value} (h : Has2 w b x y) (hb : Below w.heap.size w w') : Has2 w' b x y := by
  have hlt : b < w.heap.size := World.block_lt_of_cell? w ⟨b, 0, none⟩ h.1
  obtain ⟨h0, h1⟩ := h
  refine ⟨?_, ?_⟩ <;> (rw [hb.cell (p := ⟨b, _, none⟩) hlt]; assumption)
theorem Has2.lt {w : World} {b : Nat} {x y : Value} (h : Has2 w b x y) : b < w.heap.size := World.block_lt_of_cell? w ⟨b, 0, none⟩ h.1
theorem has2_new (w : World) (x y : Value) (t : TypeId) : Has2 (w.alloc (.cells #[x, y] t)) w.heap.size x y := by
  refine ⟨?_, ?_⟩ <;> (rw [World.cell?_alloc_at _ _ _ _ rfl]; rfl)
theorem below_alloc (w : World) (o : Obj) : Below w.heap.size w (w.alloc o) := (Below.refl _ _).alloc (Nat.le_refl _) o
set_option maxRecDepth 100000 in
set_option maxHeartbeats 4000000 in
theorem rchk_any (o : Opn) (w : World) (hs : o.s.size ≤ 1000000) :
    Calls Try.prog 31 #[OV o] w fun e w' => e = .returned (.bool (mayO o)) ∧ Below w.heap.size w w' := by
  obtain ⟨at', hat⟩ : ∃ x, mayB o.c o.r = x := ⟨_, rfl⟩
  obtain ⟨is, his⟩ : ∃ x, isN o.n = x := ⟨_, rfl⟩
  obtain ⟨nd, hnd⟩ : ∃ x, isN o.p = x := ⟨_, rfl⟩
  obtain ⟨fl, hfl⟩ : ∃ x, ofF o.n = x := ⟨_, rfl⟩
  obtain ⟨fp, hfp⟩ : ∃ x, ofF o.p = x := ⟨_, rfl⟩
  obtain ⟨nc, hnc⟩ : ∃ x, ofC o.n = x := ⟨_, rfl⟩
  obtain ⟨nr, hnr⟩ : ∃ x, ofR o.n = x := ⟨_, rfl⟩
  obtain ⟨pc, hpc⟩ : ∃ x, ofC o.p = x := ⟨_, rfl⟩
  obtain ⟨pr, hpr⟩ : ∃ x, ofR o.p = x := ⟨_, rfl⟩
  obtain ⟨l1, hl1⟩ : ∃ x, lessS o.c o.r nc nr = x := ⟨_, rfl⟩
  obtain ⟨l2, hl2⟩ : ∃ x, lessS o.c o.r pc pr = x := ⟨_, rfl⟩
  obtain ⟨dr, hdr⟩ : ∃ x, dirB o.p = x := ⟨_, rfl⟩
  obtain ⟨ck, hck⟩ : ∃ x, chk o.s.data.toList = x := ⟨_, rfl⟩
  obtain ⟨late, hlate⟩ : ∃ x, lateB o = x := ⟨_, rfl⟩
  have hl : lateB o = (!at' || (!is || (l1 || (nd && l2)))) := by unfold lateB; rw [hnc, hnr, hpc, hpr, hat, his, hnd, hl1, hl2]
  have hm : moveB o = (dr && (ck && o.d.toList.isEmpty)) := by unfold moveB; rw [hdr, hck]
  have hw : writeB o = (fl && (decide (o.d.size ≤ 64) && (decide (o.p = 0) && o.s.toList.isEmpty))) := by unfold writeB; rw [hfl]
  have HO := Lib.hid (show mayO o = (!late && (if o.k = 1 then moveB o else (decide (o.k = 2) && writeB o))) by unfold mayO; rw [hlate])
  have HL := Lib.hid (hlate.symm.trans hl)
  have HM := Lib.hid hm
  have HW := Lib.hid hw
  have A1 := Lib.hid (fun w => @rcheck_is o.c o.r at' hat w)
  have A2 := Lib.hid (show ∀ w, Calls Try.prog 48 #[.int .i64 o.n] w fun e w' => e = .returned (.tuple #[.agg #[.int .i64 nc, .int .i64 nr], .bool fl, .bool is]) ∧ Below w.heap.size w w' from fun w => by
    have := rof_any o.n w
    rwa [hnc, hnr, hfl, his] at this)
  have A3 := Lib.hid (show ∀ w, Calls Try.prog 48 #[.int .i64 o.p] w fun e w' => e = .returned (.tuple #[.agg #[.int .i64 pc, .int .i64 pr], .bool fp, .bool nd]) ∧ Below w.heap.size w w' from fun w => by
    have := rof_any o.p w
    rwa [hpc, hpr, hfp, hnd] at this)
  have A4 := Lib.hid (fun w => @rless_is o.c o.r nc nr l1 hl1 w)
  have A5 := Lib.hid (fun w => @rless_is o.c o.r pc pr l2 hl2 w)
  have A6 := Lib.hid (fun w => @rdir_is o.p dr hdr w)
  have A7 := Lib.hid (show ∀ w, Calls Try.prog 51 #[.string o.s] w fun e w' => e = .returned (.bool ck) ∧ Below w.heap.size w w' from fun w => by
    have := refCheck_any o.s w hs
    rwa [hck] at this)
  clear hat his hnd hfl hfp hnc hnr hpc hpr hl1 hl2 hdr hck hlate hl hm hw
  go_enter Try.func31, Try.ntmps31
  go_wp2_with fail
  refine (A1.out _).mono ?_
  rintro e w1 ⟨rfl, c1⟩
  have b1 := step_a (Below.refl _ _) c1
  have q1 := (hasO_new w o 26).below c1
  have Q1 := Lib.hid q1
  obtain ⟨k0, k1, k2, k3, k4, k5, k6⟩ := q1
  go_wp2_with fail
  refine (A2.out _).mono ?_
  rintro e w2 ⟨rfl, c2⟩
  have b2 := step_b b1 c2
  have Q2 := Lib.hid (Q1.out.below c2)
  obtain ⟨k0, k1, k2, k3, k4, k5, k6⟩ := Q2.out
  have lo := Q2.out.lt
  clear Q1 b1 c1 c2
  go_wp2_with fail
  refine (A3.out _).mono ?_
  rintro e w3 ⟨rfl, c3⟩
  have b3 := step_a b2 c3
  have Q3 := Lib.hid ((Q2.out.below (below_alloc _ _)).below c3)
  have M3 := Lib.hid ((has2_new _ _ _ _).below c3)
  obtain ⟨k0, k1, k2, k3, k4, k5, k6⟩ := Q3.out
  have lo := Q3.out.lt
  obtain ⟨m0, m1⟩ := M3.out
  have lm := M3.out.lt
  clear Q2 b2 c3
  go_wp2_with fail
  refine (A4.out _).mono ?_
  rintro e w4 ⟨rfl, c4⟩
  have b4 := step_a b3 c4
  have Q4 := Lib.hid ((Q3.out.below (below_alloc _ _)).below c4)
  have U4 := Lib.hid ((has2_new _ _ _ _).below c4)
  obtain ⟨k0, k1, k2, k3, k4, k5, k6⟩ := Q4.out
  have lo := Q4.out.lt
  obtain ⟨u0, u1⟩ := U4.out
  have lu := U4.out.lt
  clear Q3 M3 m0 m1 b3 c4
  go_wp2_with fail
  refine (A5.out _).mono ?_
  rintro e w5 ⟨rfl, c5⟩
  have b5 := step_b b4 c5
  have Q5 := Lib.hid (Q4.out.below c5)
  clear Q4 U4 u0 u1 b4 c5 A1 A2 A3 A4 A5
  go_upto_region 6 with fail
  go_cut [53] (fun s wx => s = .bool late ∧ wx = w5)
  case first =>
    clear Q5 b5
    cases at' with
    | false => go_wp2_with fail; go_meet; exact ⟨by rw [HL.out]; rfl, rfl⟩
    | true =>
    cases is with
    | false => go_wp2_with fail; go_meet; exact ⟨by rw [HL.out]; rfl, rfl⟩
    | true =>
    cases l1 with
    | true => go_wp2_with fail; go_meet; exact ⟨by rw [HL.out]; rfl, rfl⟩
    | false =>
    cases nd with
    | false => go_wp2_with fail; go_meet; exact ⟨by rw [HL.out]; rfl, rfl⟩
    | true =>
    cases l2 with
    | false => go_wp2_with fail; go_meet; exact ⟨by rw [HL.out]; rfl, rfl⟩
    | true => go_wp2_with fail; go_meet; exact ⟨by rw [HL.out]; rfl, rfl⟩
  case rest =>
    obtain ⟨rfl, rfl⟩ := hcut
    obtain ⟨k0, k1, k2, k3, k4, k5, k6⟩ := Q5.out
    cases late with
    | true =>
      go_wp2_with fail
      go_ret
      exact ⟨by rw [HO.out]; rfl, b5⟩
    | false =>
    by_cases hk : o.k = 1
    · have e1 : (o.k == 1) = true := by rw [beq_iff_eq]; exact hk
      have HK := Lib.hid (show mayO o = (dr && (ck && o.d.toList.isEmpty)) by rw [HO.out, if_pos hk, HM.out]; rfl)
      clear hk
      go_wp2_with fail
      refine (A6.out _).mono ?_
      rintro e w6 ⟨rfl, c6⟩
      have b6 := step_b b5 c6
      have Q6 := Lib.hid (Q5.out.below c6)
      obtain ⟨k0, k1, k2, k3, k4, k5, k6⟩ := Q6.out
      clear Q5 b5 c6
      go_wp2_with fail
      refine (A7.out _).mono ?_
      rintro e w7 ⟨rfl, c7⟩
      have b7 := step_b b6 c7
      have Q7 := Lib.hid (Q6.out.below c7)
      obtain ⟨k0, k1, k2, k3, k4, k5, k6⟩ := Q7.out
      clear Q6 b6 c7
      cases dr with
      | false => go_wp2_with fail; go_ret; exact ⟨by rw [HK.out]; rfl, b7⟩
      | true =>
      cases ck with
      | false => go_wp2_with fail; go_ret; exact ⟨by rw [HK.out]; rfl, b7⟩
      | true => go_wp2_with fail; go_ret; exact ⟨by rw [HK.out]; rfl, b7⟩
    · have e1 : (o.k == 1) = false := by rw [beq_eq_false_iff_ne]; exact hk
      have HK := Lib.hid (show mayO o = (decide (o.k = 2) && (fl && (decide (o.d.size ≤ 64) && (decide (o.p = 0) && o.s.toList.isEmpty)))) by rw [HO.out, if_neg hk, HW.out]; rfl)
      clear hk A6 A7
      by_cases h2 : o.k = 2
      · have e2 : (o.k == 2) = true := by rw [beq_iff_eq]; exact h2
        have d2 : decide (o.k = 2) = true := decide_eq_true h2
        rw [d2] at HK
        clear h2 d2
        cases fl with
        | false => go_wp2_with fail; go_ret; exact ⟨by rw [HK.out]; rfl, b5⟩
        | true =>
        by_cases h6 : o.d.size ≤ 64
        · have e3 : decide ((o.d.size : Int) ≤ 64) = true := decide_eq_true (by omega)
          have d3 : decide (o.d.size ≤ 64) = true := decide_eq_true h6
          rw [d3] at HK
          clear h6 d3
          by_cases hp : o.p = 0
          · have e4 : (o.p == 0) = true := by rw [beq_iff_eq]; exact hp
            have d4 : decide (o.p = 0) = true := decide_eq_true hp
            rw [d4] at HK
            clear hp d4
            go_wp2_with fail; go_ret; exact ⟨by rw [HK.out]; rfl, b5⟩
          · have e4 : (o.p == 0) = false := by rw [beq_eq_false_iff_ne]; exact hp
            have d4 : decide (o.p = 0) = false := decide_eq_false hp
            rw [d4] at HK
            clear hp d4
            go_wp2_with fail; go_ret; exact ⟨by rw [HK.out]; rfl, b5⟩
        · have e3 : decide ((o.d.size : Int) ≤ 64) = false := decide_eq_false (by omega)
          have d3 : decide (o.d.size ≤ 64) = false := decide_eq_false h6
          rw [d3] at HK
          clear h6 d3
          go_wp2_with fail; go_ret; exact ⟨by rw [HK.out]; rfl, b5⟩
      · have e2 : (o.k == 2) = false := by rw [beq_eq_false_iff_ne]; exact h2
        have d2 : decide (o.k = 2) = false := decide_eq_false h2
        rw [d2] at HK
        clear h2 d2
        go_wp2_with fail; go_ret; exact ⟨by rw [HK.out]; rfl, b5⟩
set_option maxRecDepth 100000 in
set_option maxHeartbeats 1000000 in
theorem rolt_any (o q : Opn) (w : World) :
    Calls Try.prog 53 #[OV o, OV q] w fun e w' => e = .returned (.bool (lessS o.c o.r q.c q.r)) ∧ Below w.heap.size w w' := by
  obtain ⟨l, hl⟩ : ∃ l, lessS o.c o.r q.c q.r = l := ⟨_, rfl⟩
  have A := Lib.hid (fun w => @rless_is o.c o.r q.c q.r l hl w)
  rw [hl]
  clear hl
  go_enter Try.func53, Try.ntmps53
  go_wp2_with fail
  refine (A.out _).mono ?_
  rintro e w1 ⟨rfl, c1⟩
  go_wp2
  go_ret
  exact ⟨rfl, step_a (below_alloc _ _) c1⟩
end Go.Proofs.Ytnndanpahcdmaaa
