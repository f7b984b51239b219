/-
  VlqJoins: numbers that are put in two parts have the bytes of all, and as many as they have each.
-/
import Derived.Test.YtnlhbaaoknbejaaSizesLaw
namespace Go.Proofs.Ytnlhbaaoknbejaa
open Go.RowKit Go.Lib
theorem neg_append (a b : List Int) : negB (a ++ b) = (negB a || negB b) := by simp [negB]
theorem put_yes {b : ByteArray} {l : List Int} (h : negB l = false) : putS b l = b ++ ofL (Vlq.ones l) ∧ putE l = 0 := by
  unfold putS putE; rw [h]; exact ⟨rfl, rfl⟩
theorem put_neg {b : ByteArray} {l : List Int} (h : negB l = true) : putS b l = ⟨#[]⟩ ∧ putE l = 40 := by
  unfold putS putE; rw [h]; exact ⟨rfl, rfl⟩
theorem empty_append (s : ByteArray) : (⟨#[]⟩ : ByteArray) ++ s = s := text_eq (by simp)
theorem nat_of_neg {l : List Int} (h : negB l = false) {k : Nat} {x : Int} (hx : l[k]? = some x) : 0 ≤ x := by
  rcases Int.lt_or_le x 0 with h1 | h1
  · rw [neg_at hx h1] at h; cases h
  · exact h1
set_option maxRecDepth 100000 in
set_option maxHeartbeats 4000000 in
theorem joins_walk (a : Option Addr) (ca : Nat) (la : List Int) (b : Option Addr) (cb : Nat) (lb : List Int) (w : World)
    (ha : IsI w a ca la ∧ la.length ≤ maxLen ∧ (∀ x ∈ la, I64 x) ∧ (a = none → ca = 0)) (hb : IsI w b cb lb ∧ lb.length ≤ maxLen ∧ (∀ x ∈ lb, I64 x) ∧ (b = none → cb = 0)) :
    Calls Try.prog 8 #[.slice a la.length ca, .slice b lb.length cb] w fun e w' => e = .returned (.bool true) ∧ Below w.heap.size w w' := by
  obtain ⟨ha, ma, ia, na⟩ := ha
  obtain ⟨hb, mb, ib, nb⟩ := hb
  unfold maxLen at ma mb
  have NA := Lib.hid na
  have NB := Lib.hid nb
  have HA := Lib.hid ha
  have HB := Lib.hid hb
  have IA := Lib.hid ia
  have IB := Lib.hid ib
  clear na nb ha hb ia ib
  by_cases h1 : la.length ≤ 100 ∧ lb.length ≤ 100
  · obtain ⟨h1, h2⟩ := h1
    have d1 : decide ((100 : Int) < (la.length : Int)) = false := decide_eq_false (by omega)
    have d2 : decide ((100 : Int) < (lb.length : Int)) = false := decide_eq_false (by omega)
    obtain ⟨lc, hlc⟩ : ∃ lc, la ++ lb = lc := ⟨_, rfl⟩
    have hlen : la.length + lb.length = lc.length := by rw [← hlc, List.length_append]
    have HLC := Lib.hid hlc
    have HLen := Lib.hid hlen
    have hlcm : lc.length ≤ 200 := by omega
    have IC := Lib.hid (show ∀ x ∈ lc, I64 x from fun x hx => by
      rw [← hlc] at hx
      rcases List.mem_append.1 hx with h | h
      · exact IA.out x h
      · exact IB.out x h)
    obtain ⟨x, hx⟩ : ∃ x, putS ⟨#[]⟩ la = x := ⟨_, rfl⟩
    obtain ⟨y, hy⟩ : ∃ y, putS x lb = y := ⟨_, rfl⟩
    obtain ⟨z, hz⟩ : ∃ z, putS ⟨#[]⟩ lc = z := ⟨_, rfl⟩
    obtain ⟨e, he⟩ : ∃ e, putE la = e := ⟨_, rfl⟩
    obtain ⟨f, hf⟩ : ∃ f, putE lb = f := ⟨_, rfl⟩
    obtain ⟨g, hg⟩ : ∃ g, putE lc = g := ⟨_, rfl⟩
    have hxs : x.size ≤ 1000 := by
      have h9 := take_le (l := la) (fun x hx => (IA.out x hx).2) la.length
      rw [List.take_length] at h9
      rw [← hx]
      cases hn : negB la with
      | true => rw [(put_neg hn).1]; decide
      | false => rw [(put_yes hn).1, empty_append, ofL_size]; omega
    have hcase : (¬ (e = 0 ∧ f = 0) ∧ (e = 0 ∨ e = 40) ∧ (f = 0 ∨ f = 40) ∧ g = 40 ∧ z = ⟨#[]⟩) ∨ (e = 0 ∧ f = 0 ∧ g = 0 ∧ negB la = false ∧ x = ofL (Vlq.ones la) ∧ y = z) := by
      have hnc := neg_append la lb
      rw [hlc] at hnc
      cases hn : negB la with
      | true =>
        rw [hn, Bool.true_or] at hnc
        left
        have h3 := (put_neg (b := ⟨#[]⟩) hn).2
        have h4 := put_neg (b := ⟨#[]⟩) hnc
        refine ⟨by omega, by omega, ?_, by rw [← hg]; exact h4.2, by rw [← hz]; exact h4.1⟩
        rw [← hf]; unfold putE; split <;> simp
      | false =>
        cases hm : negB lb with
        | true =>
          rw [hm, Bool.or_true] at hnc
          left
          have h3 := (put_neg (b := ⟨#[]⟩) hm).2
          have h4 := put_neg (b := ⟨#[]⟩) hnc
          refine ⟨by omega, ?_, by omega, by rw [← hg]; exact h4.2, by rw [← hz]; exact h4.1⟩
          rw [← he]; unfold putE; split <;> simp
        | false =>
          rw [hn, hm, Bool.or_false] at hnc
          right
          have h3 := put_yes (b := ⟨#[]⟩) hn
          have h4 := put_yes (b := x) hm
          have h5 := put_yes (b := ⟨#[]⟩) hnc
          have h6 : x = ofL (Vlq.ones la) := by rw [← hx, h3.1, empty_append]
          refine ⟨by rw [← he]; exact h3.2, by rw [← hf]; exact h4.2, by rw [← hg]; exact h5.2, rfl, h6, ?_⟩
          rw [← hy, h4.1, h6, ← hz, h5.1, empty_append, ← hlc, Vlq.ones_append, ofL_append]
    have PX := Lib.hid hx
    have PY := Lib.hid hy
    have PZ := Lib.hid hz
    have PE := Lib.hid he
    have PF := Lib.hid hf
    have PG := Lib.hid hg
    clear hx hy hz he hf hg hlc hlen
    go_enter Try.func8, Try.ntmps8
    go_wp2_with fail
    refine (awake_any _).mono ?_
    rintro _ w1 ⟨rfl, b1⟩
    go_wp2_with fail
    refine (put_any ⟨#[]⟩ a ca la _ (by decide) (HA.out.below b1) (by omega) IA.out).mono ?_
    rintro _ w2 ⟨rfl, c2⟩
    rw [PX.out, PE.out]
    have b2 := step_b b1 c2
    clear c2 b1
    go_wp2_with fail
    refine (put_any x b cb lb _ (by omega) (HB.out.below b2) (by omega) IB.out).mono ?_
    rintro _ w3 ⟨rfl, c3⟩
    rw [PY.out, PF.out]
    have b3 := step_b b2 c3
    clear c3 b2
    have HA3 := Lib.hid (HA.out.below b3)
    have HB3 := Lib.hid (HB.out.below b3)
    go_wp2_with (at_builtin; refine wpList_append_ints rfl _ _ rfl w3.heap.size _ [] la rfl (World.ownsRow_made _ #[] 0 (Nat.le_refl _) (by decide) rfl) a ca rfl ?d2 NA.out (by simp; omega) ?d3 ?_)
    case d2 => exact HA3.out.below ((Below.refl _ _).alloc (Nat.le_refl _) _)
    case d3 => simp
    intro v4 w4 how4 hg4
    have q4 := ((Below.refl w3.heap.size w3).alloc (Nat.le_refl _) _).grown hg4 (by simp) (fun k hk => by simp [Value.ownBlock] at hk; omega)
    have HO4 := Lib.hid how4
    clear how4 hg4
    go_wp2_with (at_builtin; refine wpList_append_ints rfl _ _ rfl w3.heap.size _ la lb rfl HO4.out b cb rfl (HB3.out.below q4) NB.out (by omega) q4.size ?_)
    intro v5 w5 how5 hg5
    have q5 := q4.grown hg5 q4.size (fun k hk => (HO4.out.lt k hk).1)
    have b5 := step_b b3 q5
    rw [HLC.out, HLen.out] at how5
    obtain ⟨a5, c5, rfl, hl5⟩ := own_isI how5 (by rw [← HLen.out])
    have HL5 := Lib.hid hl5
    clear hg5 how5 hl5 HA3 HB3 HO4 q4 q5 b3
    go_wp2_with fail
    refine (put_any ⟨#[]⟩ a5 c5 lc _ (by decide) HL5.out (by omega) IC.out).mono ?_
    rintro _ w6 ⟨rfl, c6⟩
    rw [PZ.out, PG.out]
    have b6 := step_b b5 c6
    clear c6 b5 HL5 PX PY PZ PE PF PG HLC HLen
    rcases hcase with ⟨hne, hee, hff, rfl, rfl⟩ | ⟨rfl, rfl, rfl, hn, rfl, rfl⟩
    · rcases hee with rfl | rfl
      · rcases hff with rfl | rfl
        · exact absurd ⟨rfl, rfl⟩ hne
        · clear hne
          go_wp2
          go_ret
          exact ⟨rfl, b6⟩
      · clear hne hff
        go_wp2
        go_ret
        exact ⟨rfl, b6⟩
    · have HN := Lib.hid hn
      clear hn
      have HA6 := Lib.hid (HA.out.below b6)
      go_wp2_with fail
      go_loopw [12, 13] (fun s i w' => ∃ k : Nat, k ≤ la.length ∧ i = .int .i64 k ∧ s = .int .i64 ((Vlq.ones (la.take k)).length : Nat) ∧ Below w.heap.size w w') (fun _ i _ => la.length - (RowKit.intOf i).toNat)
      case atStart => exact ⟨0, Nat.zero_le _, rfl, rfl, b6⟩
      case round =>
        obtain ⟨k, hk, rfl, rfl, ck⟩ := hrel
        have h9 := take_le (l := la) (fun x hx => (IA.out x hx).2) k
        by_cases hkl : k < la.length
        · obtain ⟨g, o, rfl, hlt, hc⟩ := HA.out.2 (fun e => by rw [e] at hkl; simp at hkl)
          obtain ⟨x, hx⟩ : ∃ x, la[k]? = some x := ⟨la[k], List.getElem?_eq_getElem hkl⟩
          have hcell : wr.cell? ⟨g, o + k, none⟩ = some (.int .i64 x) := by rw [ck.cell (p := ⟨g, o + k, none⟩) hlt]; exact hc k x hx
          have hx0 := nat_of_neg HN.out hx
          have hxl := (IA.out x (List.mem_of_getElem? hx)).2
          obtain ⟨m, rfl⟩ : ∃ m : Nat, x = (m : Int) := ⟨x.toNat, by omega⟩
          have Ho := Lib.hid (ones_take hx)
          have hm9 := Vlq.one_nine (n := m) (by omega)
          obtain ⟨q, hq⟩ : ∃ q, (Vlq.one m).length = q := ⟨_, rfl⟩
          have SM := Lib.hid (size_of m q (by omega) hq)
          obtain ⟨p, hp⟩ : ∃ p, (Vlq.ones (la.take k)).length = p := ⟨_, rfl⟩
          have Hq := Lib.hid hq
          have Hp := Lib.hid hp
          rw [hq] at hm9
          rw [hp] at h9 ⊢
          clear hx hc hq hp
          go_wp2_with fail
          refine (SM.out _).mono ?_
          rintro _ w7 ⟨rfl, c7⟩
          have b7 := step_b ck c7
          go_wp2_with fail
          go_roundw
          case rel => exact ⟨k + 1, by omega, by go_num, by rw [Ho.out, List.length_append, Hp.out, Int.toNat_natCast, Hq.out]; rfl, b7⟩
          case measure => simp [RowKit.intOf]; omega
        · have e : k = la.length := by omega
          subst e
          rw [List.take_length]
          have hsz : (ofL (Vlq.ones la)).size = (Vlq.ones la).length := rfl
          go_wp2
          go_ret
          exact ⟨rfl, ck⟩
  · have H1 := Lib.hid h1
    clear h1
    go_enter Try.func8, Try.ntmps8
    go_wp2_with fail
    refine (awake_any _).mono ?_
    rintro _ w1 ⟨rfl, b1⟩
    go_wp2_with fail
    all_goals first
      | (go_ret; exact ⟨rfl, b1⟩)
      | (exfalso; have := H1.out; omega)
end Go.Proofs.Ytnlhbaaoknbejaa
