/-
  OpJoins: the bytes of operations, one behind the other, are those of both; one that was put is taken again, whatever stands behind.
-/
import Derived.Test.YtjhllkjcaodcgaaOTells
namespace Go.Proofs.Ytjhllkjcaodcgaa
open Go.RowKit Go.Lib
theorem all_app (k l : List Opn) : allO (k ++ l) = (allO k && allO l) := by simp [allO]
theorem wr_yes {l : List Opn} (h : allO l = true) : wrS l = ofL (opsB l) ∧ wrE l = 0 := by
  unfold wrS wrE; rw [h]; exact ⟨rfl, rfl⟩
theorem wr_no {l : List Opn} (h : allO l = false) : wrS l = ⟨#[]⟩ ∧ wrE l = 50 := by
  unfold wrS wrE; rw [h]; exact ⟨rfl, rfl⟩
theorem small_app {k l : List Opn} (h1 : Small k) (h2 : Small l) : Small (k ++ l) := fun o ho => by
  rcases List.mem_append.1 ho with h | h
  · exact h1 o h
  · exact h2 o h
theorem nil_app (b : ByteArray) : (⟨#[]⟩ : ByteArray) ++ b = b := text_eq (by simp)
set_option maxRecDepth 100000 in
set_option maxHeartbeats 8000000 in
theorem ojoins_walk (a : Option Addr) (ca : Nat) (k : List Opn) (b : Option Addr) (cb : Nat) (l : List Opn) (s : ByteArray) (w : World)
    (hk : IsO w a ca k ∧ k.length ≤ maxLen ∧ (∀ o ∈ k, InO o) ∧ (a = none → ca = 0)) (hl : IsO w b cb l ∧ l.length ≤ maxLen ∧ (∀ o ∈ l, InO o) ∧ (b = none → cb = 0)) (_hs : s.size ≤ maxLen) :
    Calls Try.prog 5 #[.slice a k.length ca, .slice b l.length cb, .string s] w fun e w' => e = .returned (.bool true) ∧ Below w.heap.size w w' := by
  obtain ⟨hk, mk, ink, nk⟩ := hk
  obtain ⟨hl, ml, inl, nl⟩ := hl
  have GK := Lib.hid (show ∀ x ∈ k, Rng x from fun x hx => ⟨(ink x hx).1.2.2.2.1, (ink x hx).1.2.2.2.2⟩)
  have GL := Lib.hid (show ∀ x ∈ l, Rng x from fun x hx => ⟨(inl x hx).1.2.2.2.1, (inl x hx).1.2.2.2.2⟩)
  clear _hs ink inl
  have HA := Lib.hid hk
  have HB := Lib.hid hl
  have NA := Lib.hid nk
  have NB := Lib.hid nl
  obtain ⟨fk, hfk⟩ : ∃ x, fewO k 100 = x := ⟨_, rfl⟩
  obtain ⟨fl, hfl⟩ : ∃ x, fewO l 100 = x := ⟨_, rfl⟩
  have FK := Lib.hid (fun (W : World) (h : IsO W a ca k) => rfew_any a ca k 100 W h mk)
  have FL := Lib.hid (fun (W : World) (h : IsO W b cb l) => rfew_any b cb l 100 W h ml)
  rw [hfk] at FK
  rw [hfl] at FL
  clear hk hl nk nl mk ml
  go_enter Try.func5, Try.ntmps5
  go_wp2_with fail
  refine (awake_any _).mono ?_
  rintro e w1 ⟨rfl, b1⟩
  have HA1 := Lib.hid (HA.out.below b1)
  have HB1 := Lib.hid (HB.out.below b1)
  clear HA HB
  go_wp2_with fail
  refine (FK.out _ HA1.out).mono ?_
  rintro e w2 ⟨rfl, rfl⟩
  cases fk with
  | false =>
    go_wp2_with fail
    go_ret
    exact ⟨rfl, b1⟩
  | true =>
    go_wp2_with fail
    refine (FL.out _ HB1.out).mono ?_
    rintro e w2 ⟨rfl, rfl⟩
    cases fl with
    | false =>
      go_wp2_with fail
      go_ret
      exact ⟨rfl, b1⟩
    | true =>
      clear FK FL
      by_cases hs3 : s.size ≤ 3000
      · have d3 : decide ((3000 : Int) < (s.size : Int)) = false := decide_eq_false (by omega)
        obtain ⟨sk, hk1⟩ := few_small hfk
        obtain ⟨sl, hl1⟩ := few_small hfl
        have hkl : k.length ≤ 100 := by omega
        have hll : l.length ≤ 100 := by omega
        have hcl : (k ++ l).length ≤ 200 := by rw [List.length_append]; omega
        clear hk1 hl1 hfk hfl
        have SC := Lib.hid (small_app sk sl)
        obtain ⟨lc, hlc⟩ : ∃ lc, k ++ l = lc := ⟨_, rfl⟩
        have HLC := Lib.hid hlc
        have hap := all_app k l
        have hop := opsB_append k l
        rw [hlc] at hcl SC hap hop
        clear hlc
        have GC := Lib.hid (show ∀ x ∈ lc, Rng x from fun x hx => by
          rw [← HLC.out] at hx
          rcases List.mem_append.1 hx with hx | hx
          · exact GK.out x hx
          · exact GL.out x hx)
        have W1 := Lib.hid (fun (W : World) (h : IsO W a ca k) => owrite_any a ca k W h (by omega) sk GK.out)
        have W2 := Lib.hid (fun (W : World) (h : IsO W b cb l) => owrite_any b cb l W h (by omega) sl GL.out)
        have W3 := Lib.hid (fun (W : World) (x : Option Addr) (cx : Nat) (h : IsO W x cx lc) => owrite_any x cx lc W h (by omega) SC.out GC.out)
        obtain ⟨va, hva⟩ : ∃ x, wrS k = x := ⟨_, rfl⟩
        obtain ⟨vb, hvb⟩ : ∃ x, wrS l = x := ⟨_, rfl⟩
        obtain ⟨vc, hvc⟩ : ∃ x, wrS lc = x := ⟨_, rfl⟩
        obtain ⟨ea, hea⟩ : ∃ x, wrE k = x := ⟨_, rfl⟩
        obtain ⟨eb, heb⟩ : ∃ x, wrE l = x := ⟨_, rfl⟩
        obtain ⟨ec, hec⟩ : ∃ x, wrE lc = x := ⟨_, rfl⟩
        rw [hva, hea] at W1
        rw [hvb, heb] at W2
        rw [hvc, hec] at W3
        have hcase : (ec = 50 ∧ vc = ⟨#[]⟩ ∧ ((ea = 50) ∨ (ea = 0 ∧ eb = 50))) ∨ (ea = 0 ∧ eb = 0 ∧ ec = 0 ∧ vc = va ++ vb ∧ allO k = true ∧ va.size ≤ 200000 ∧ vb.size ≤ 200000) := by
          cases h1 : allO k with
          | false =>
            left
            rw [h1, Bool.false_and] at hap
            obtain ⟨p1, p2⟩ := wr_no hap
            exact ⟨by rw [← hec, p2], by rw [← hvc, p1], .inl (by rw [← hea, (wr_no h1).2])⟩
          | true =>
            cases h2 : allO l with
            | false =>
              left
              rw [h1, h2] at hap
              obtain ⟨p1, p2⟩ := wr_no hap
              exact ⟨by rw [← hec, p2], by rw [← hvc, p1], .inr ⟨by rw [← hea, (wr_yes h1).2], by rw [← heb, (wr_no h2).2]⟩⟩
            | true =>
              right
              rw [h1, h2] at hap
              obtain ⟨p1, p2⟩ := wr_yes hap
              have s1 := ops_len h1 sk
              have s2 := ops_len h2 sl
              refine ⟨by rw [← hea, (wr_yes h1).2], by rw [← heb, (wr_yes h2).2], by rw [← hec, p2], ?_, rfl, ?_, ?_⟩
              · rw [← hvc, ← hva, ← hvb, p1, (wr_yes h1).1, (wr_yes h2).1, hop, ofL_append]
              · rw [← hva, (wr_yes h1).1, ofL_size]; omega
              · rw [← hvb, (wr_yes h2).1, ofL_size]; omega
        have HC := Lib.hid hcase
        have SK := Lib.hid sk
        clear hap hop hcase hva hvb hvc hea heb hec sk sl
        go_wp2_with fail
        refine (W1.out _ HA1.out).mono ?_
        rintro e w2 ⟨rfl, c2⟩
        have b2 := step_b b1 c2
        have HA2 := Lib.hid (HA1.out.below c2)
        have HB2 := Lib.hid (HB1.out.below c2)
        clear c2 b1 HA1 HB1 W1
        go_wp2_with fail
        refine (W2.out _ HB2.out).mono ?_
        rintro e w3 ⟨rfl, c3⟩
        have b3 := step_b b2 c3
        have HA3 := Lib.hid (HA2.out.below c3)
        have HB3 := Lib.hid (HB2.out.below c3)
        clear c3 b2 HA2 HB2 W2
        have qA := Lib.hid (HA3.out.below (below_alloc w3 (.cells #[] 25)))
        have qB := Lib.hid (HB3.out.below (below_alloc w3 (.cells #[] 25)))
        have q0 := below_alloc w3 (.cells #[] 25)
        have qs := q0.size
        go_wp2_with (at_builtin; refine wpList_append_opsC rfl _ _ rfl w3.heap.size _ [] k rfl (ownO_empty w3 w3.heap.size (Nat.le_refl _)) a ca rfl qA.out NA.out (by simp; omega) qs ?_)
        intro v4 w4 ho4 c4
        have q4 := q0.trans c4
        have HO4 := Lib.hid ho4
        have qs4 := q4.size
        have HB4 := Lib.hid (HB3.out.below q4)
        clear ho4 qA qB
        go_wp2_with (at_builtin; refine wpList_append_opsC rfl _ _ rfl w3.heap.size _ k l rfl HO4.out b cb rfl HB4.out NB.out (by omega) qs4 ?_)
        intro v5 w5 ho5 c5
        have q5 := q4.trans c5
        have HA5 := Lib.hid (HA3.out.below q5)
        have b5 := step_b b3 q5
        clear q0 qs q4 qs4 HB4 HO4 c4 c5 q5 HA3 HB3 b3
        rw [HLC.out] at ho5
        obtain ⟨ax, cx, rfl, hix, _⟩ := OwnO.isO ho5
        have HX := Lib.hid hix
        clear hix ho5
        go_wp2_with fail
        refine (W3.out _ _ _ HX.out).mono ?_
        rintro e w6 ⟨rfl, c6⟩
        have b6 := step_b b5 c6
        have HA6 := Lib.hid (HA5.out.below c6)
        clear c6 b5 HA5 HX W3
        rcases HC.out with ⟨rfl, rfl, rfl | ⟨rfl, rfl⟩⟩ | ⟨rfl, rfl, rfl, rfl, hal, za, zb⟩
        · go_wp2_with fail
          go_ret
          exact ⟨rfl, b6⟩
        · go_wp2_with fail
          go_ret
          exact ⟨rfl, b6⟩
        · have HAL := Lib.hid hal
          have hab : ¬ 9223372036854775807 < va.size + vb.size := by omega
          clear hal HC
          cases hkk : k with
          | nil =>
            subst hkk
            go_wp2_with fail
            go_ret
            exact ⟨rfl, b6⟩
          | cons o k2 =>
            have hne : k ≠ [] := by rw [hkk]; exact List.cons_ne_nil _ _
            have h0 : k[0]? = some o := by rw [hkk]; rfl
            have hpos : 0 < k.length := by rw [hkk]; simp
            have hom : mayO o = true := by
              have := HAL.out
              rw [hkk] at this
              simp only [allO, List.all_cons, Bool.and_eq_true] at this
              exact this.1
            have hso := SK.out o (List.mem_of_getElem? h0)
            have hol := opB_small hom hso.1
            clear hkk SK
            obtain ⟨g, off, rfl, hlt, hc⟩ := HA6.out.2 hne
            obtain ⟨k0, k1, k2', k3, k4, k5, k6⟩ := hc 0 o h0
            obtain ⟨x, hx⟩ : ∃ x, ofL (opB o) = x := ⟨_, rfl⟩
            have hxs : x.size ≤ 1054 := by rw [← hx, ofL_size]; exact hol
            have HP := Lib.hid (fun (W : World) => oput_yes ⟨#[]⟩ o W (by decide) hom)
            rw [hx, nil_app] at HP
            have hgt : (0 : Int) < (k.length : Int) := by omega
            have hadd : ¬ 9223372036854775807 < x.size + s.size := by omega
            have HT := Lib.hid (fun (W : World) => otk_yes (x ++ s) (by rw [ByteArray.size_append]; omega) o s.data.toList ⟨hom, by rw [← hx]; simp [ofL]⟩ W)
            rw [ofL_data] at HT
            rw [show off + 0 * 7 = off by omega] at k0 k1 k2' k3 k4 k5 k6
            clear hx hol hso hc
            go_wp2_with fail
            refine (HP.out _).mono ?_
            rintro e w7 ⟨rfl, c7⟩
            have b7 := step_b b6 c7
            have HA7 := Lib.hid (HA6.out.below c7)
            clear c7 b6 k0 k1 k2' k3 k4 k5 k6 HA6 HP
            go_wp2_with fail
            refine (HT.out _).mono ?_
            rintro e w8 ⟨rfl, c8⟩
            have b8 := step_b b7 c8
            have q8 := below_alloc w8 (.cells #[.int .i64 o.c, .int .i64 o.r, .int .i64 o.k, .int .i64 o.n, .int .i64 o.p, .string o.s, .string o.d] 25)
            obtain ⟨k0, k1, k2', k3, k4, k5, k6⟩ := ((HA7.out.below c8).below q8).2 hne |> fun ⟨b', o', e', _, h⟩ => (by
              simp only [Option.some.injEq, Addr.mk.injEq] at e'
              obtain ⟨rfl, rfl, _⟩ := e'
              exact h 0 o h0 : AtO (w8.alloc (.cells #[.int .i64 o.c, .int .i64 o.r, .int .i64 o.k, .int .i64 o.n, .int .i64 o.p, .string o.s, .string o.d] 25)) g (off + 0 * 7) o)
            rw [show off + 0 * 7 = off by omega] at k0 k1 k2' k3 k4 k5 k6
            have hlt8 : g < (w8.alloc (.cells #[.int .i64 o.c, .int .i64 o.r, .int .i64 o.k, .int .i64 o.n, .int .i64 o.p, .string o.s, .string o.d] 25)).heap.size := World.block_lt_of_cell? _ ⟨g, off, none⟩ k0
            obtain ⟨m0, m1, m2, m3, m4, m5, m6⟩ := hasO_new w8 o 25
            have hlt9 : w8.heap.size < (w8.alloc (.cells #[.int .i64 o.c, .int .i64 o.r, .int .i64 o.k, .int .i64 o.n, .int .i64 o.p, .string o.s, .string o.d] 25)).heap.size := by simp
            clear c8 b7 HA7 HT
            go_wp2_with fail
            generalize w8.alloc (.cells #[.int .i64 o.c, .int .i64 o.r, .int .i64 o.k, .int .i64 o.n, .int .i64 o.p, .string o.s, .string o.d] 25) = W9 at q8 k0 k1 k2' k3 k4 k5 k6 m0 m1 m2 m3 m4 m5 m6 hlt8 hlt9 ⊢
            refine wp_region_later (by kernel_rfl) (by kernel_rfl) (fun hL => ?_)
            repeat (go_big_quiet_step (fail))
            intro w' hw
            have cB := later_out hw
            have bB := (b8.trans (q8.mono b8.size)).trans (cB.mono (by have := b8.size; have := q8.size; omega))
            clear hw hL
            go_wp2_with fail
            go_ret
            exact ⟨rfl, bB⟩
      · have d3 : decide ((3000 : Int) < (s.size : Int)) = true := decide_eq_true (by omega)
        go_wp2_with fail
        go_ret
        exact ⟨rfl, b1⟩
end Go.Proofs.Ytjhllkjcaodcgaa
