import Derived.Test.YtamnjmlnodhhmaaBoxes
import Derived.Test.YtamnjmlnodhhmaaApp
namespace Go.Proofs.Ytamnjmlnodhhmaa
open Go.RowKit Go.Lib
theorem isS_nil (w : World) : IsS w none 0 [] := ⟨Nat.le_refl _, fun h => absurd rfl h⟩
set_option maxRecDepth 100000 in
set_option maxHeartbeats 2000000 in
theorem seenlaw_walk (n : Int) (a : Option Addr) (ca : Nat) (la : List (Int × Int)) (b : Option Addr) (cb : Nat) (lb : List (Int × Int)) (w : World)
    (_hn : (Lit.int .i64 n).wf = true) (ha : IsS w a ca la ∧ la.length ≤ maxLen ∧ (a = none → ca = 0)) (hb : IsS w b cb lb ∧ lb.length ≤ maxLen ∧ (b = none → cb = 0)) :
    Calls Try.prog 7 #[.int .i64 n, .slice a la.length ca, .slice b lb.length cb] w fun e w' => e = .returned (.bool true) ∧ Below w.heap.size w w' := by
  clear _hn
  obtain ⟨ha, ma, na⟩ := ha
  obtain ⟨hb, mb, nb⟩ := hb
  unfold maxLen at ma mb
  have NA := Lib.hid na
  have NB := Lib.hid nb
  have HA := Lib.hid ha
  have HB := Lib.hid hb
  clear na nb ha hb
  by_cases h1 : la.length ≤ 1000
  · by_cases h2 : lb.length ≤ 1000
    · obtain ⟨K, hK⟩ : ∃ K, seenI n lb = K := ⟨_, rfl⟩
      obtain ⟨M, hM⟩ : ∃ M, seenI K la = M := ⟨_, rfl⟩
      have hall : seenI n (la ++ lb) = M := by rw [seenI_swap, hK, hM]
      have hge : n ≤ M := by rw [← hall]; exact seenI_ge _ _
      obtain ⟨lc, hlc⟩ : ∃ lc, la ++ lb = lc := ⟨_, rfl⟩
      have hlen : la.length + lb.length = lc.length := by rw [← hlc, List.length_append]
      rw [hlc] at hall
      have hlcm : lc.length ≤ 2000 := by omega
      have HLC := Lib.hid hlc
      have HLen := Lib.hid hlen
      clear hlc hlen
      have HK := Lib.hid hK
      have HM := Lib.hid hM
      have HAll := Lib.hid hall
      clear hK hM hall
      go_enter Try.func7, Try.ntmps7
      go_wp2_with fail
      refine (awake_any _).mono ?_
      rintro e w1 ⟨rfl, b1⟩
      have HA1 := Lib.hid (HA.out.below b1)
      have HB1 := Lib.hid (HB.out.below b1)
      go_wp2_with (at_builtin; refine wpList_append_stamps rfl _ _ rfl w1.heap.size _ [] la rfl (World.ownsRow_made _ #[] 0 (Nat.le_refl _) (by decide) rfl) a ca rfl ?d2 NA.out (by simp; omega) ?d3 ?_)
      case d2 => exact HA1.out.below ((Below.refl _ _).alloc (Nat.le_refl _) _)
      case d3 => simp
      intro v2 w2 how2 hg2
      have q2 := ((Below.refl w1.heap.size w1).alloc (Nat.le_refl _) _).grown hg2 (by simp) (fun k hk => by simp [Value.ownBlock] at hk; omega)
      have HO2 := Lib.hid how2
      clear how2 hg2
      go_wp2_with (at_builtin; refine wpList_append_stamps rfl _ _ rfl w1.heap.size _ la lb rfl HO2.out b cb rfl (HB1.out.below q2) NB.out (by omega) q2.size ?_)
      intro v3 w3 how3 hg3
      have q3 := q2.grown hg3 q2.size (fun k hk => (HO2.out.lt k hk).1)
      have b3 := step_b b1 q3
      rw [HLC.out, HLen.out] at how3
      obtain ⟨a3, c3, rfl, hl3⟩ := own_isS how3 rfl
      have HL3 := Lib.hid hl3
      have HA3 := Lib.hid (HA1.out.below q3)
      have HB3 := Lib.hid (HB1.out.below q3)
      clear hg3 how3 hl3 HA1 HB1 HO2 q2 q3 b1
      go_wp2_with fail
      refine (seen_is HAll.out _ HL3.out (by omega)).mono ?_
      rintro e w4 ⟨rfl, c4⟩
      have b4 := step_b b3 c4
      go_wp2_with fail
      refine (seen_is HK.out _ (HB3.out.below c4) (by omega)).mono ?_
      rintro e w5 ⟨rfl, c5⟩
      have b5 := step_b b4 c5
      go_wp2_with fail
      refine (seen_is HM.out _ ((HA3.out.below c4).below c5) (by omega)).mono ?_
      rintro e w6 ⟨rfl, c6⟩
      have b6 := step_b b5 c6
      go_wp2_with fail
      refine (seen_is (l := []) rfl _ (isS_nil _) (by decide)).mono ?_
      rintro e w7 ⟨rfl, c7⟩
      have b7 := step_b b6 c7
      go_wp2_with fail
      refine (seen_is HAll.out _ ((((HL3.out.below c4).below c5).below c6).below c7) (by omega)).mono ?_
      rintro e w8 ⟨rfl, c8⟩
      have b8 := step_b b7 c8
      clear b3 b4 b5 b6 b7 c4 c5 c6 c7 c8
      go_wp2
      go_ret
      exact ⟨rfl, b8⟩
    · go_enter Try.func7, Try.ntmps7
      go_wp2_with fail
      refine (awake_any _).mono ?_
      rintro e w1 ⟨rfl, b1⟩
      go_wp2
      go_ret
      exact ⟨rfl, b1⟩
  · go_enter Try.func7, Try.ntmps7
    go_wp2_with fail
    refine (awake_any _).mono ?_
    rintro e w1 ⟨rfl, b1⟩
    go_wp2
    go_ret
    exact ⟨rfl, b1⟩
end Go.Proofs.Ytamnjmlnodhhmaa
