import Derived.Test.YtamnjmlnodhhmaaBoxes
import Derived.Deep.DeepCutAuto
namespace Go.Proofs.Ytamnjmlnodhhmaa
open Go.RowKit Go.Lib
theorem lessS_irrefl (c r : Int) : lessS c r c r = false := lessS_no (by omega)
theorem lessS_trans {c r d s e t : Int} (h : lessS c r d s = true) (k : lessS d s e t = true) : lessS c r e t = true := by
  have h1 := lessS_true h
  have h2 := lessS_true k
  exact lessS_mk (by omega)
theorem lessS_flip {c r d s : Int} (hne : ¬ (c = d ∧ r = s)) : lessS d s c r = !lessS c r d s := by
  cases h : lessS c r d s with
  | true => have := lessS_true h; rw [lessS_no (by omega)]; rfl
  | false => have := lessS_false h; rw [lessS_mk (by omega)]; rfl
theorem id_less {c r d s : Int} (h1 : mayB c r = true) (h2 : mayB d s = true) : decide (idOf c r false < idOf d s false) = lessS c r d s := by
  have a := mayB_true h1
  have b := mayB_true h2
  unfold lessS idOf
  exact decide_eq_decide.2 (by simp; omega)
theorem id_less2 {c r d s : Int} (h1 : mayB c r = true) (h2 : mayB d s = true) : decide (idOf c r true < idOf d s false) = lessS c r d s := by
  have a := mayB_true h1
  have b := mayB_true h2
  unfold lessS idOf
  exact decide_eq_decide.2 (by simp; omega)
set_option maxRecDepth 100000 in
set_option maxHeartbeats 4000000 in
theorem order_walk (c r d s x y : Int) (w : World) (_ha : I64 c ∧ I64 r) (_hb : I64 d ∧ I64 s) (_hc : I64 x ∧ I64 y) :
    Calls Try.prog 5 #[.agg #[.int .i64 c, .int .i64 r], .agg #[.int .i64 d, .int .i64 s], .agg #[.int .i64 x, .int .i64 y]] w fun e w' => e = .returned (.bool true) ∧ Below w.heap.size w w' := by
  clear _ha _hb _hc
  go_enter Try.func5, Try.ntmps5
  go_wp2_with fail
  refine (awake_any _).mono ?_
  rintro e w1 ⟨rfl, c1⟩
  obtain ⟨b1, A1, B1, C1⟩ := three_boxes c1
  clear c1
  have HA1 := Lib.hid A1
  have HB1 := Lib.hid B1
  have HC1 := Lib.hid C1
  obtain ⟨qA, lA⟩ := A1
  obtain ⟨qB, lB⟩ := B1
  obtain ⟨qC, lC⟩ := C1
  go_upto_region 2 with fail
  go_cut [8] (fun s8 wx => s8 = .bool true ∧ Has2 wx w.heap.size (.int .i64 c) (.int .i64 r) ∧ Has2 wx (w.heap.size + 1) (.int .i64 d) (.int .i64 s) ∧ Below w.heap.size w wx)
  case first =>
    cases h1 : lessS c r d s with
    | false =>
      have H1 := Lib.hid h1
      clear h1
      go_wp2_with fail
      refine (less_is H1.out _).mono ?_
      rintro e w2 ⟨rfl, c2⟩
      go_wp2_with fail
      go_meet
      exact ⟨rfl, HA1.out.keep c2, HB1.out.keep c2, step_b b1 c2⟩
    | true =>
      have H1 := Lib.hid h1
      clear h1
      go_wp2_with fail
      refine (less_is H1.out _).mono ?_
      rintro e w2 ⟨rfl, c2⟩
      have b2 := step_b b1 c2
      have HA2 := Lib.hid (HA1.out.keep c2)
      have HB2 := Lib.hid (HB1.out.keep c2)
      obtain ⟨qA, lA⟩ := keep2 c2 qA
      obtain ⟨qB, lB⟩ := keep2 c2 qB
      obtain ⟨qC, lC⟩ := keep2 c2 qC
      clear b1 c2 HA1 HB1
      cases h2 : lessS d s x y with
      | false =>
        have H2 := Lib.hid h2
        clear h2
        go_wp2_with fail
        refine (less_is H2.out _).mono ?_
        rintro e w3 ⟨rfl, c3⟩
        go_wp2_with fail
        go_meet
        exact ⟨rfl, HA2.out.keep c3, HB2.out.keep c3, step_b b2 c3⟩
      | true =>
        have H2 := Lib.hid h2
        have H3 := Lib.hid (lessS_trans H1.out h2)
        clear h2
        go_wp2_with fail
        refine (less_is H2.out _).mono ?_
        rintro e w3 ⟨rfl, c3⟩
        have b3 := step_b b2 c3
        have HA3 := Lib.hid (HA2.out.keep c3)
        have HB3 := Lib.hid (HB2.out.keep c3)
        obtain ⟨qA, lA⟩ := keep2 c3 qA
        obtain ⟨qC, lC⟩ := keep2 c3 qC
        clear b2 c3 HA2 HB2 qB
        go_wp2_with fail
        refine (less_is H3.out _).mono ?_
        rintro e w4 ⟨rfl, c4⟩
        go_wp2_with fail
        go_meet
        exact ⟨rfl, HA3.out.keep c4, HB3.out.keep c4, step_b b3 c4⟩
  case rest =>
    clear HA1 HB1 HC1 qA qB qC lA lB lC b1
    obtain ⟨rfl, A2, B2, b2⟩ := hcut
    have HA2 := Lib.hid A2
    have HB2 := Lib.hid B2
    obtain ⟨qA, lA⟩ := A2
    obtain ⟨qB, lB⟩ := B2
    go_upto_region 3 with fail
    go_cut [9] (fun s9 wx => s9 = .bool true ∧ Has2 wx w.heap.size (.int .i64 c) (.int .i64 r) ∧ Has2 wx (w.heap.size + 1) (.int .i64 d) (.int .i64 s) ∧ Below w.heap.size w wx)
    case first =>
      cases h1 : mayB c r with
      | false =>
        have H1 := Lib.hid h1
        clear h1
        go_wp2_with fail
        refine wp_region_later (by kernel_rfl) (by kernel_rfl) (fun hL => ?_)
        repeat (go_big_quiet_step ((first | (go_at_call 14; with_reducible refine later_calls (check_is H1.out _)))))
        refine wpQuiet_nil ?_
        intro w5 hw5
        have c5 := later_out hw5
        clear hw5 hL
        go_wp2_with fail
        go_meet
        exact ⟨rfl, HA2.out.keep c5, HB2.out.keep c5, step_b b2 c5⟩
      | true =>
      cases h2 : mayB d s with
      | false =>
        have H1 := Lib.hid h1
        have H2 := Lib.hid h2
        clear h1 h2
        go_wp2_with fail
        refine wp_region_later (by kernel_rfl) (by kernel_rfl) (fun hL => ?_)
        repeat (go_big_quiet_step ((first | (go_at_call 14; with_reducible refine later_calls (check_is H1.out _)) | (go_at_call 14; with_reducible refine later_calls (check_is H2.out _)))))
        refine wpQuiet_nil ?_
        intro w5 hw5
        have c5 := later_out hw5
        clear hw5 hL
        go_wp2_with fail
        go_meet
        exact ⟨rfl, HA2.out.keep c5, HB2.out.keep c5, step_b b2 c5⟩
      | true =>
        by_cases e : c = d ∧ r = s
        · obtain ⟨rfl, rfl⟩ := e
          have H1 := Lib.hid h1
          have H3 := Lib.hid (lessS_irrefl c r)
          have k : decide (idOf c r false < idOf c r false) = false := decide_eq_false (by omega)
          clear h1 h2
          go_wp2_with fail
          refine wp_region_later (by kernel_rfl) (by kernel_rfl) (fun hL => ?_)
          repeat (go_big_quiet_step ((first | (go_at_call 14; with_reducible refine later_calls (check_is H1.out _)) | (go_at_call 16; with_reducible refine later_calls (less_is H3.out _)) | (go_at_call 20; with_reducible refine later_calls (id_yes false H1.out _)))))
          refine wpQuiet_nil ?_
          intro w5 hw5
          have c5 := later_out hw5
          clear hw5 hL
          go_wp2_with fail
          go_meet
          exact ⟨rfl, HA2.out.keep c5, HB2.out.keep c5, step_b b2 c5⟩
        · have k1 := id_less h1 h2
          have k2 := id_less2 h1 h2
          have H1 := Lib.hid h1
          have H2 := Lib.hid h2
          clear h1 h2
          cases h3 : lessS c r d s with
          | false =>
            rw [h3] at k1 k2
            have H3 := Lib.hid h3
            clear h3
            rcases pair_ne e with ⟨g1, g2⟩ | g1
            all_goals
              clear e
              go_wp2_with fail
              refine wp_region_later (by kernel_rfl) (by kernel_rfl) (fun hL => ?_)
              repeat (go_big_quiet_step ((first | (go_at_call 14; with_reducible refine later_calls (check_is H1.out _)) | (go_at_call 14; with_reducible refine later_calls (check_is H2.out _)) | (go_at_call 16; with_reducible refine later_calls (less_is H3.out _)) | (go_at_call 20; with_reducible refine later_calls (id_yes false H1.out _)) | (go_at_call 20; with_reducible refine later_calls (id_yes false H2.out _)) | (go_at_call 20; with_reducible refine later_calls (id_yes true H1.out _)))))
              refine wpQuiet_nil ?_
              intro w5 hw5
              have c5 := later_out hw5
              clear hw5 hL
              go_wp2_with fail
              go_meet
              exact ⟨rfl, HA2.out.keep c5, HB2.out.keep c5, step_b b2 c5⟩
          | true =>
            rw [h3] at k1 k2
            have H3 := Lib.hid h3
            clear h3
            rcases pair_ne e with ⟨g1, g2⟩ | g1
            all_goals
              clear e
              go_wp2_with fail
              refine wp_region_later (by kernel_rfl) (by kernel_rfl) (fun hL => ?_)
              repeat (go_big_quiet_step ((first | (go_at_call 14; with_reducible refine later_calls (check_is H1.out _)) | (go_at_call 14; with_reducible refine later_calls (check_is H2.out _)) | (go_at_call 16; with_reducible refine later_calls (less_is H3.out _)) | (go_at_call 20; with_reducible refine later_calls (id_yes false H1.out _)) | (go_at_call 20; with_reducible refine later_calls (id_yes false H2.out _)) | (go_at_call 20; with_reducible refine later_calls (id_yes true H1.out _)))))
              refine wpQuiet_nil ?_
              intro w5 hw5
              have c5 := later_out hw5
              clear hw5 hL
              go_wp2_with fail
              go_meet
              exact ⟨rfl, HA2.out.keep c5, HB2.out.keep c5, step_b b2 c5⟩
    case rest =>
      clear HA2 HB2 qA qB lA lB b2
      obtain ⟨rfl, ⟨qA, lA⟩, ⟨qB, lB⟩, b3⟩ := hcut
      by_cases e : c = d ∧ r = s
      · obtain ⟨rfl, rfl⟩ := e
        have H3 := Lib.hid (lessS_irrefl c r)
        go_wp2_with fail
        refine wp_region_later (by kernel_rfl) (by kernel_rfl) (fun hL => ?_)
        repeat (go_big_quiet_step ((first | (go_at_call 16; with_reducible refine later_calls (less_is H3.out _)))))
        refine wpQuiet_nil ?_
        intro w5 hw5
        have c5 := later_out hw5
        clear hw5 hL
        go_wp2
        go_ret
        exact ⟨rfl, step_b b3 c5⟩
      · have hfl := lessS_flip e
        cases h3 : lessS c r d s with
        | false =>
          rw [h3] at hfl
          have H3 := Lib.hid h3
          have H4 := Lib.hid hfl
          clear h3 hfl
          rcases pair_ne e with ⟨g1, g2⟩ | g1
          all_goals
            clear e
            go_wp2_with fail
            refine wp_region_later (by kernel_rfl) (by kernel_rfl) (fun hL => ?_)
            repeat (go_big_quiet_step ((first | (go_at_call 16; with_reducible refine later_calls (less_is H3.out _)) | (go_at_call 16; with_reducible refine later_calls (less_is H4.out _)))))
            refine wpQuiet_nil ?_
            intro w5 hw5
            have c5 := later_out hw5
            clear hw5 hL
            go_wp2
            go_ret
            exact ⟨rfl, step_b b3 c5⟩
        | true =>
          rw [h3] at hfl
          have H3 := Lib.hid h3
          have H4 := Lib.hid hfl
          clear h3 hfl
          rcases pair_ne e with ⟨g1, g2⟩ | g1
          all_goals
            clear e
            go_wp2_with fail
            refine wp_region_later (by kernel_rfl) (by kernel_rfl) (fun hL => ?_)
            repeat (go_big_quiet_step ((first | (go_at_call 16; with_reducible refine later_calls (less_is H3.out _)) | (go_at_call 16; with_reducible refine later_calls (less_is H4.out _)))))
            refine wpQuiet_nil ?_
            intro w5 hw5
            have c5 := later_out hw5
            clear hw5 hL
            go_wp2
            go_ret
            exact ⟨rfl, step_b b3 c5⟩
end Go.Proofs.Ytamnjmlnodhhmaa
