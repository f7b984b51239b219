import Derived.Test.YtamnjmlnodhhmaaBoxes
namespace Go.Proofs.Ytamnjmlnodhhmaa
open Go.RowKit Go.Lib
theorem id_ne {c r d s : Int} {f o : Bool} (h1 : mayB c r = true) (h2 : mayB d s = true) (h : ¬ (c = d ∧ r = s ∧ f = o)) : idOf c r f ≠ idOf d s o := by
  have a := mayB_true h1
  have b := mayB_true h2
  unfold idOf
  intro e
  apply h
  cases f <;> cases o <;> simp at e ⊢ <;> omega
theorem id_big {c r : Int} (f : Bool) (h1 : mayB c r = true) : 128 ≤ idOf c r f := by
  have a := mayB_true h1
  unfold idOf
  cases f <;> simp <;> omega
set_option maxRecDepth 100000 in
set_option maxHeartbeats 2000000 in
theorem apart_walk (c r d s : Int) (f o : Bool) (w : World) (_ha : I64 c ∧ I64 r) (_hb : I64 d ∧ I64 s) :
    Calls Try.prog 8 #[.agg #[.int .i64 c, .int .i64 r], .agg #[.int .i64 d, .int .i64 s], .bool f, .bool o] w fun e w' => e = .returned (.bool true) ∧ Below w.heap.size w w' := by
  clear _ha _hb
  cases h1 : mayB c r with
  | false =>
    have H1 := Lib.hid h1
    clear h1
    go_enter Try.func8, Try.ntmps8
    go_wp2_with fail
    refine (awake_any _).mono ?_
    rintro e w1 ⟨rfl, c1⟩
    obtain ⟨b1, ⟨qA, lA⟩, ⟨qB, lB⟩⟩ := two_boxes c1
    go_wp2_with fail
    refine (check_is H1.out _).mono ?_
    rintro e w2 ⟨rfl, c2⟩
    have b2 := step_b b1 c2
    go_wp2
    go_ret
    exact ⟨rfl, b2⟩
  | true =>
  cases h2 : mayB d s with
  | false =>
    have H1 := Lib.hid h1
    have H2 := Lib.hid h2
    clear h1 h2
    go_enter Try.func8, Try.ntmps8
    go_wp2_with fail
    refine (awake_any _).mono ?_
    rintro e w1 ⟨rfl, c1⟩
    obtain ⟨b1, ⟨qA, lA⟩, ⟨qB, lB⟩⟩ := two_boxes c1
    go_wp2_with fail
    refine (check_is H1.out _).mono ?_
    rintro e w2 ⟨rfl, c2⟩
    have b2 := step_b b1 c2
    obtain ⟨qB, lB⟩ := keep2 c2 qB
    go_wp2_with fail
    refine (check_is H2.out _).mono ?_
    rintro e w3 ⟨rfl, c3⟩
    have b3 := step_b b2 c3
    go_wp2
    go_ret
    exact ⟨rfl, b3⟩
  | true =>
    have hx := id_big f h1
    have n0 : (idOf c r f == 0) = false := beq_eq_false_iff_ne.2 (by omega)
    have n1 : (idOf c r f == 1) = false := beq_eq_false_iff_ne.2 (by omega)
    have n2 : (idOf c r f == 2) = false := beq_eq_false_iff_ne.2 (by omega)
    have n3 : (idOf c r f == -1) = false := beq_eq_false_iff_ne.2 (by omega)
    have m0 : (idOf c r f != 0) = true := bne_iff_ne.2 (by omega)
    have m1 : (idOf c r f != 1) = true := bne_iff_ne.2 (by omega)
    have m2 : (idOf c r f != 2) = true := bne_iff_ne.2 (by omega)
    have m3 : (idOf c r f != -1) = true := bne_iff_ne.2 (by omega)
    have H1 := Lib.hid h1
    have H2 := Lib.hid h2
    clear h1 h2
    go_enter Try.func8, Try.ntmps8
    go_wp2_with fail
    refine (awake_any _).mono ?_
    rintro e w1 ⟨rfl, c1⟩
    obtain ⟨b1, ⟨qA, lA⟩, ⟨qB, lB⟩⟩ := two_boxes c1
    go_wp2_with fail
    refine (check_is H1.out _).mono ?_
    rintro e w2 ⟨rfl, c2⟩
    have b2 := step_b b1 c2
    obtain ⟨qB, lB⟩ := keep2 c2 qB
    obtain ⟨qA, lA⟩ := keep2 c2 qA
    clear b1 c1 c2
    go_wp2_with fail
    refine (check_is H2.out _).mono ?_
    rintro e w3 ⟨rfl, c3⟩
    have b3 := step_b b2 c3
    obtain ⟨qB, lB⟩ := keep2 c3 qB
    obtain ⟨qA, lA⟩ := keep2 c3 qA
    clear b2 c3
    go_wp2_with fail
    refine (id_yes f H1.out _).mono ?_
    rintro e w4 ⟨rfl, c4⟩
    have b4 := step_b b3 c4
    obtain ⟨qB, lB⟩ := keep2 c4 qB
    obtain ⟨qA, lA⟩ := keep2 c4 qA
    clear b3 c4
    go_wp2_with fail
    refine (id_yes o H2.out _).mono ?_
    rintro e w5 ⟨rfl, c5⟩
    have b5 := step_b b4 c5
    obtain ⟨qB, lB⟩ := keep2 c5 qB
    obtain ⟨qA, lA⟩ := keep2 c5 qA
    clear b4 c5
    by_cases e : c = d ∧ r = s
    · obtain ⟨rfl, rfl⟩ := e
      cases f <;> cases o
      case false.false => go_wp2; go_ret; exact ⟨rfl, b5⟩
      case true.true => go_wp2; go_ret; exact ⟨rfl, b5⟩
      case false.true =>
        have hne : (idOf c r false == idOf c r true) = false := beq_eq_false_iff_ne.2 (id_ne H1.out H2.out (by simp))
        go_wp2; go_ret; exact ⟨rfl, b5⟩
      case true.false =>
        have hne : (idOf c r true == idOf c r false) = false := beq_eq_false_iff_ne.2 (id_ne H1.out H2.out (by simp))
        go_wp2; go_ret; exact ⟨rfl, b5⟩
    · have hne : (idOf c r f == idOf d s o) = false := beq_eq_false_iff_ne.2 (id_ne H1.out H2.out fun h => e ⟨h.1, h.2.1⟩)
      rcases pair_ne e with ⟨k1, k2⟩ | k1
      all_goals
        clear e
        go_wp2
        go_ret
        exact ⟨rfl, b5⟩
end Go.Proofs.Ytamnjmlnodhhmaa
