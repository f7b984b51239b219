/-
  VlqOwn: bytes of which a number, or a text, is taken are its own, and what is behind.
-/
import Derived.Test.YtnlhbaaoknbejaaOpen
namespace Go.Proofs.Ytnlhbaaoknbejaa
open Go.RowKit Go.Lib
/-- Of b a number is taken, or none. -/
theorem take_case (b : ByteArray) (hb : b.size ≤ 1000000) :
    (∃ (n : Nat) (r : ByteArray), n < 9223372036854775808 ∧ b = ofL (Vlq.one n) ++ r ∧ ∀ w, Calls Try.prog 12 #[.string b] w fun e w' => e = .returned (.tuple #[.int .i64 n, .string r, .int .i64 0]) ∧ Below w.heap.size w w') ∨
    (∀ w, Calls Try.prog 12 #[.string b] w fun e w' => e = .returned (.tuple #[.int .i64 0, .string ⟨#[]⟩, .int .i64 40]) ∧ Below w.heap.size w w') := by
  by_cases h : ∃ n r, Vlq.Takes b.data.toList n r
  · obtain ⟨n, r, h⟩ := h
    exact .inl ⟨n, ofL r, h.2, text_eq (by rw [ofL_append, data_ofL]; exact h.1), fun w => take_yes b n r w hb h⟩
  · exact .inr fun w => take_no b w hb fun n r hn => h ⟨n, r, hn⟩
theorem tt_case (b : ByteArray) (hb : b.size ≤ 1000000) :
    (∃ t r : ByteArray, b = ofL (Vlq.one t.size) ++ t ++ r ∧ ∀ w, Calls Try.prog 14 #[.string b] w fun e w' => e = .returned (.tuple #[.string t, .string r, .int .i64 0]) ∧ Below w.heap.size w w') ∨
    (∀ w, Calls Try.prog 14 #[.string b] w fun e w' => e = .returned (.tuple #[.string ⟨#[]⟩, .string ⟨#[]⟩, .int .i64 40]) ∧ Below w.heap.size w w') := by
  by_cases h : ∃ t r, TakesT b.data.toList t r
  · obtain ⟨t, r, h⟩ := h
    refine .inl ⟨ofL t, ofL r, text_eq ?_, fun w => tt_yes b t r w hb h⟩
    rw [ofL_size, ofL_append, ofL_append, data_ofL, List.append_assoc]; exact h.1
  · exact .inr fun w => tt_no b w hb fun t r ht => h ⟨t, r, ht⟩
theorem put_one (n : Nat) (hn : n < 9223372036854775808) (w : World) {a : Option Addr} {c : Nat} (h : IsI w a c [(n : Int)]) :
    Calls Try.prog 10 #[.string ⟨#[]⟩, .slice a 1 c] w fun e w' => e = .returned (.tuple #[.string (ofL (Vlq.one n)), .int .i64 0]) ∧ Below w.heap.size w w' := by
  have hng : negB [(n : Int)] = false := by simp [negB]
  have e1 : putS ⟨#[]⟩ [(n : Int)] = ofL (Vlq.one n) := by
    unfold putS
    rw [hng]
    exact text_eq (by simp [Vlq.ones, ofL])
  have e2 : putE [(n : Int)] = 0 := by unfold putE; rw [hng]; rfl
  have := put_any ⟨#[]⟩ a c [(n : Int)] w (by decide) h (by simp) (by simp; omega)
  rw [e1, e2] at this
  exact this
theorem text_one (t : ByteArray) (ht : t.size ≤ 1000000) (w : World) :
    Calls Try.prog 16 #[.string ⟨#[]⟩, .string t] w fun e w' => e = .returned (.string (ofL (Vlq.one t.size) ++ t)) ∧ Below w.heap.size w w' := by
  have e : (⟨#[]⟩ : ByteArray) ++ ofL (Vlq.one t.size) ++ t = ofL (Vlq.one t.size) ++ t := text_eq (by simp)
  have := text_any ⟨#[]⟩ t w (by decide) ht
  rw [e] at this
  exact this
set_option maxRecDepth 100000 in
set_option maxHeartbeats 4000000 in
theorem own_walk (b : ByteArray) (w : World) (_hb : b.size ≤ maxLen) :
    Calls Try.prog 5 #[.string b] w fun e w' => e = .returned (.bool true) ∧ Below w.heap.size w w' := by
  clear _hb
  by_cases h1 : b.size ≤ 1000
  · have d1 : decide ((1000 : Int) < (b.size : Int)) = false := decide_eq_false (by omega)
    obtain ⟨n, r, z, hn, hz, hT⟩ : ∃ (n : Nat) (r : ByteArray) (z : Int), n < 9223372036854775808 ∧ (z = 0 ∧ ofL (Vlq.one n) ++ r = b ∧ (ofL (Vlq.one n)).size + r.size ≤ 1000 ∨ z = 40 ∧ n = 0 ∧ r = ⟨#[]⟩) ∧
        (∀ w, Calls Try.prog 12 #[.string b] w fun e w' => e = .returned (.tuple #[.int .i64 n, .string r, .int .i64 z]) ∧ Below w.heap.size w w') := by
      rcases take_case b (by omega) with ⟨n, r, hn, hb, hc⟩ | hc
      · exact ⟨n, r, 0, hn, .inl ⟨rfl, hb.symm, by rw [← ByteArray.size_append, ← hb]; exact h1⟩, hc⟩
      · exact ⟨0, ⟨#[]⟩, 40, by decide, .inr ⟨rfl, rfl, rfl⟩, hc⟩
    have HT := Lib.hid hT
    have HP := Lib.hid (fun w a c h => @put_one n hn w a c h)
    clear hT
    obtain ⟨o, ho⟩ : ∃ o, ofL (Vlq.one n) = o := ⟨_, rfl⟩
    rw [ho] at hz HP
    clear ho
    rcases tt_case b (by omega) with ⟨t, s, hts, hc⟩ | hc
    · have HTT := Lib.hid hc
      have hsz := congrArg ByteArray.size hts
      rw [ByteArray.size_append, ByteArray.size_append] at hsz
      have HX := Lib.hid (text_one t (by omega))
      have hx2 : (ofL (Vlq.one t.size) ++ t).size + s.size ≤ 140737488355328 := by rw [ByteArray.size_append]; omega
      obtain ⟨y, hy⟩ : ∃ y, ofL (Vlq.one t.size) ++ t = y := ⟨_, rfl⟩
      rw [hy] at HX hts hx2
      have hq : y ++ s = b := hts.symm
      clear hc hsz hy hts
      rcases hz with ⟨rfl, hz, hz2⟩ | ⟨rfl, rfl, rfl⟩
      · have hz3 : o.size + r.size ≤ 140737488355328 := by omega
        go_enter Try.func5, Try.ntmps5
        go_wp2_with fail
        refine (awake_any _).mono ?_
        rintro e w1 ⟨rfl, b1⟩
        go_wp2_with fail
        refine (HT.out _).mono ?_
        rintro e w2 ⟨rfl, c2⟩
        have b2 := step_b b1 c2
        clear c2 b1
        go_wp2_with fail
        refine (HP.out _ _ _ (isI_new _ [(n : Int)] 3)).mono ?_
        rintro e w3 ⟨rfl, c3⟩
        have b3 := step_a b2 c3
        clear c3 b2
        go_wp2_with fail
        refine (HTT.out _).mono ?_
        rintro e w4 ⟨rfl, c4⟩
        have b4 := step_b b3 c4
        clear c4 b3
        go_wp2_with fail
        refine (HX.out _).mono ?_
        rintro e w5 ⟨rfl, c5⟩
        have b5 := step_b b4 c5
        clear c5 b4
        go_wp2
        go_ret
        exact ⟨rfl, b5⟩
      · go_enter Try.func5, Try.ntmps5
        go_wp2_with fail
        refine (awake_any _).mono ?_
        rintro e w1 ⟨rfl, b1⟩
        go_wp2_with fail
        refine (HT.out _).mono ?_
        rintro e w2 ⟨rfl, c2⟩
        have b2 := step_b b1 c2
        clear c2 b1
        go_wp2_with fail
        refine (HP.out _ _ _ (isI_new _ [0] 3)).mono ?_
        rintro e w3 ⟨rfl, c3⟩
        have b3 := step_a b2 c3
        clear c3 b2
        go_wp2_with fail
        refine (HTT.out _).mono ?_
        rintro e w4 ⟨rfl, c4⟩
        have b4 := step_b b3 c4
        clear c4 b3
        go_wp2_with fail
        refine (HX.out _).mono ?_
        rintro e w5 ⟨rfl, c5⟩
        have b5 := step_b b4 c5
        clear c5 b4
        go_wp2
        go_ret
        exact ⟨rfl, b5⟩
    · have HTT := Lib.hid hc
      clear hc
      rcases hz with ⟨rfl, hz, hz2⟩ | ⟨rfl, rfl, rfl⟩
      · have hz3 : o.size + r.size ≤ 140737488355328 := by omega
        go_enter Try.func5, Try.ntmps5
        go_wp2_with fail
        refine (awake_any _).mono ?_
        rintro e w1 ⟨rfl, b1⟩
        go_wp2_with fail
        refine (HT.out _).mono ?_
        rintro e w2 ⟨rfl, c2⟩
        have b2 := step_b b1 c2
        clear c2 b1
        go_wp2_with fail
        refine (HP.out _ _ _ (isI_new _ [(n : Int)] 3)).mono ?_
        rintro e w3 ⟨rfl, c3⟩
        have b3 := step_a b2 c3
        clear c3 b2
        go_wp2_with fail
        refine (HTT.out _).mono ?_
        rintro e w4 ⟨rfl, c4⟩
        have b4 := step_b b3 c4
        clear c4 b3
        go_wp2
        go_ret
        exact ⟨rfl, b4⟩
      · go_enter Try.func5, Try.ntmps5
        go_wp2_with fail
        refine (awake_any _).mono ?_
        rintro e w1 ⟨rfl, b1⟩
        go_wp2_with fail
        refine (HT.out _).mono ?_
        rintro e w2 ⟨rfl, c2⟩
        have b2 := step_b b1 c2
        clear c2 b1
        go_wp2_with fail
        refine (HP.out _ _ _ (isI_new _ [0] 3)).mono ?_
        rintro e w3 ⟨rfl, c3⟩
        have b3 := step_a b2 c3
        clear c3 b2
        go_wp2_with fail
        refine (HTT.out _).mono ?_
        rintro e w4 ⟨rfl, c4⟩
        have b4 := step_b b3 c4
        clear c4 b3
        go_wp2
        go_ret
        exact ⟨rfl, b4⟩
  · have d1 : decide ((1000 : Int) < (b.size : Int)) = true := decide_eq_true (by omega)
    clear h1
    go_enter Try.func5, Try.ntmps5
    go_wp2_with fail
    refine (awake_any _).mono ?_
    rintro e w1 ⟨rfl, b1⟩
    go_wp2
    go_ret
    exact ⟨rfl, b1⟩
end Go.Proofs.Ytnlhbaaoknbejaa
