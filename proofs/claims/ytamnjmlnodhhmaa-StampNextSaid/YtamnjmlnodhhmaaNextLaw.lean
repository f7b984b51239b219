import Derived.Test.YtamnjmlnodhhmaaBoxes
namespace Go.Proofs.Ytamnjmlnodhhmaa
open Go.RowKit Go.Lib
set_option maxRecDepth 100000 in
set_option maxHeartbeats 2000000 in
theorem nextlaw_walk (a : Option Addr) (ca : Nat) (l : List (Int × Int)) (x : Int) (w : World)
    (ha : IsS w a ca l ∧ l.length ≤ maxLen ∧ (a = none → ca = 0)) (hx : (Lit.int .u8 x).wf = true) :
    Calls Try.prog 6 #[.slice a l.length ca, .int .u8 x] w fun e w' => e = .returned (.bool true) ∧ Below w.heap.size w w' := by
  obtain ⟨hx0, hx1⟩ := u8_wf hx
  obtain ⟨ha, ma, _⟩ := ha
  unfold maxLen at ma
  have HA := Lib.hid ha
  clear ha hx
  by_cases h1 : l.length ≤ 1000
  · obtain ⟨S, hS⟩ : ∃ S, seenI 0 l = S := ⟨_, rfl⟩
    have hS0 : 0 ≤ S := by rw [← hS]; exact seenI_ge _ _
    have hS1 : S ≤ 1048576 := by rw [← hS]; exact seenI_le _ _ (by omega)
    have HS := Lib.hid hS
    clear hS
    by_cases h2 : S ≤ 1048575
    · go_enter Try.func6, Try.ntmps6
      go_wp2_with fail
      refine (awake_any _).mono ?_
      rintro e w1 ⟨rfl, b1⟩
      have HA1 := Lib.hid (HA.out.below b1)
      go_wp2_with fail
      refine (seen_is HS.out _ HA1.out (by omega)).mono ?_
      rintro e w2 ⟨rfl, c2⟩
      have HA2 := Lib.hid (HA1.out.below c2)
      have b2 := step_b b1 c2
      clear b1 c2 HA1 HA
      go_wp2_with fail
      refine (next_yes hS0 h2 (by omega) (by omega) _).mono ?_
      rintro e w3 ⟨rfl, c3⟩
      have HA3 := Lib.hid (HA2.out.below c3)
      have b3 := step_b b2 c3
      have hw3 := b3.size
      clear b2 c3 HA2
      go_wp2_with fail
      go_loopw [9] (fun i w' => ∃ k : Nat, k ≤ l.length ∧ i = .int .i64 k ∧ Has2 w' w3.heap.size (.int .i64 (S + 1)) (.int .i64 (x % 64)) ∧ IsS w' a ca l ∧ Below w.heap.size w w') (fun i _ => l.length - (RowKit.intOf i).toNat)
      case atStart => exact ⟨0, Nat.zero_le _, rfl, has2_new _ _ _ _, HA3.out.below ((Below.refl _ _).alloc (Nat.le_refl _) _), b3.alloc hw3 _⟩
      case round =>
        obtain ⟨k, hk, rfl, hq, hl, hb⟩ := hrel
        have HQ := Lib.hid hq
        have HL := Lib.hid hl
        obtain ⟨qN, lN⟩ := hq
        clear hl
        by_cases hkl : k < l.length
        · obtain ⟨b, o, rfl, hlt, hc⟩ := HL.out.2 (fun e => by rw [e] at hkl; simp at hkl)
          obtain ⟨s, hs⟩ : ∃ s, l[k]? = some s := ⟨l[k], List.getElem?_eq_getElem hkl⟩
          obtain ⟨c, r⟩ := s
          have hc0 : wr.cell? ⟨b, o + k * 2, none⟩ = some (.int .i64 c) := (hc k _ hs).1
          have hc1 : wr.cell? ⟨b, o + k * 2 + 1, none⟩ = some (.int .i64 r) := (hc k _ hs).2
          have g2 : (k : Int) < (l.length : Int) := by omega
          cases hm : mayB c r with
          | true =>
            have hle : c ≤ S := by rw [← HS.out]; exact seenI_mem 0 l k (c, r) hs hm
            have Hl := Lib.hid (show lessS c r (S + 1) (x % 64) = true from lessS_mk (.inl (by omega)))
            have Hm := Lib.hid hm
            clear hs hc hm
            go_wp2_with fail
            refine wp_region_later (by kernel_rfl) (by kernel_rfl) (fun hL => ?_)
            repeat (go_big_quiet_step ((first | refine later_calls (check_is Hm.out _) | refine later_calls (less_is Hl.out _))))
            refine wpQuiet_nil ?_
            intro w5 hw5
            have c5 := later_out hw5
            clear hw5 hL
            go_wp2
            go_roundw
            case rel => exact ⟨k + 1, by omega, by go_num, HQ.out.keep c5, HL.out.below c5, step_b hb c5⟩
            case measure => simp [RowKit.intOf]; omega
          | false =>
            have Hm := Lib.hid hm
            clear hs hc hm
            go_wp2_with fail
            refine wp_region_later (by kernel_rfl) (by kernel_rfl) (fun hL => ?_)
            repeat (go_big_quiet_step ((first | refine later_calls (check_is Hm.out _))))
            refine wpQuiet_nil ?_
            intro w5 hw5
            have c5 := later_out hw5
            clear hw5 hL
            go_wp2
            go_roundw
            case rel => exact ⟨k + 1, by omega, by go_num, HQ.out.keep c5, HL.out.below c5, step_b hb c5⟩
            case measure => simp [RowKit.intOf]; omega
        · have Hm := Lib.hid (show mayB (S + 1) (x % 64) = true from mayB_mk (by omega))
          go_wp2_with fail
          refine (check_is Hm.out _).mono ?_
          rintro e w5 ⟨rfl, c5⟩
          obtain ⟨qN, lN⟩ := keep2 c5 qN
          have b5 := step_b hb c5
          clear hb
          go_wp2
          go_ret
          exact ⟨rfl, b5⟩
    · obtain rfl : S = 1048576 := by omega
      go_enter Try.func6, Try.ntmps6
      go_wp2_with fail
      refine (awake_any _).mono ?_
      rintro e w1 ⟨rfl, b1⟩
      go_wp2_with fail
      refine (seen_is HS.out _ (HA.out.below b1) (by omega)).mono ?_
      rintro e w2 ⟨rfl, c2⟩
      have b2 := step_b b1 c2
      go_wp2_with fail
      refine (next_no (by omega) (by omega) (by omega) _).mono ?_
      rintro e w3 ⟨rfl, c3⟩
      have b3 := step_b b2 c3
      go_wp2
      go_ret
      exact ⟨rfl, b3.alloc b3.size _⟩
  · go_enter Try.func6, Try.ntmps6
    go_wp2_with fail
    refine (awake_any _).mono ?_
    rintro e w1 ⟨rfl, b1⟩
    go_wp2
    go_ret
    exact ⟨rfl, b1⟩
end Go.Proofs.Ytamnjmlnodhhmaa
