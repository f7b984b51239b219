/-
  VlqTells: how many bytes any number has, any numbers, and any text, behind any bytes, and the number, and the text, that any bytes begin with, are the document's.
-/
import Derived.Test.YtnlhbaaoknbejaaOpen
namespace Go.Proofs.Ytnlhbaaoknbejaa
open Go.RowKit Go.Lib
/-- The program, and the document, answer this at these arguments. -/
def Both (f g : FuncId) (args : Array Value) (v : Value) : Prop :=
  (∀ w, Calls Try.prog f args w fun e w' => e = .returned v ∧ Below w.heap.size w w') ∧ (∀ w, Calls Try.prog g args w fun e w' => e = .returned v ∧ Below w.heap.size w w')
theorem Both.l {f g : FuncId} {args : Array Value} {v : Value} (h : Both f g args v) (w : World) : Calls Try.prog f args w fun e w' => e = .returned v ∧ Below w.heap.size w w' := h.1 w
theorem Both.r {f g : FuncId} {args : Array Value} {v : Value} (h : Both f g args v) (w : World) : Calls Try.prog g args w fun e w' => e = .returned v ∧ Below w.heap.size w w' := h.2 w
theorem take_both (s : ByteArray) (hs : s.size ≤ 1000000) : ∃ (n : Int) (r : ByteArray) (e : Int), Both 12 13 #[.string s] (.tuple #[.int .i64 n, .string r, .int .i64 e]) := by
  by_cases h : ∃ n r, Vlq.Takes s.data.toList n r
  · obtain ⟨n, r, h⟩ := h
    exact ⟨_, _, _, fun w => take_yes s n r w hs h, fun w => rtake_yes s n r w hs h⟩
  · have h2 : NoTake s.data.toList := fun n r hn => h ⟨n, r, hn⟩
    exact ⟨_, _, _, fun w => take_no s w hs h2, fun w => rtake_no s w hs h2⟩
theorem tt_both (s : ByteArray) (hs : s.size ≤ 1000000) : ∃ (t r : ByteArray) (e : Int), Both 14 15 #[.string s] (.tuple #[.string t, .string r, .int .i64 e]) := by
  by_cases h : ∃ t r, TakesT s.data.toList t r
  · obtain ⟨t, r, h⟩ := h
    exact ⟨_, _, _, fun w => tt_yes s t r w hs h, fun w => rtext_yes s t r w hs h⟩
  · have h2 : NoTakeT s.data.toList := fun t r ht => h ⟨t, r, ht⟩
    exact ⟨_, _, _, fun w => tt_no s w hs h2, fun w => rtext_no s w hs h2⟩
theorem text_both (b t : ByteArray) (hb : b.size ≤ 1000000) (ht : t.size ≤ 1000000) : ∃ s : ByteArray, Both 16 17 #[.string b, .string t] (.string s) := ⟨_, fun w => text_any b t w hb ht, fun w => rtext_any b t w hb ht⟩
theorem size_both (n : Int) (hn : I64 n) : ∃ k : Int, Both 18 19 #[.int .i64 n] (.int .i64 k) := ⟨_, fun w => size_any n hn.1 hn.2 w, fun w => rsize_any n hn.2 w⟩
set_option maxRecDepth 100000 in
set_option maxHeartbeats 4000000 in
theorem tell_walk (b : ByteArray) (a : Option Addr) (c : Nat) (l : List Int) (t : ByteArray) (n : Int) (w : World) (_hb : b.size ≤ maxLen) (hl : IsI w a c l ∧ l.length ≤ maxLen ∧ (∀ x ∈ l, I64 x) ∧ (a = none → c = 0)) (_ht : t.size ≤ maxLen) (hn : (Lit.int .i64 n).wf = true) :
    Calls Try.prog 3 #[.string b, .slice a l.length c, .string t, .int .i64 n] w fun e w' => e = .returned (.bool true) ∧ Below w.heap.size w w' := by
  obtain ⟨hl, hll, hi, _⟩ := hl
  unfold maxLen at hll
  have HN := Lib.hid (i64_wf hn)
  have HL := Lib.hid hl
  have HI := Lib.hid hi
  clear _hb _ht hn hl hi
  by_cases h1 : b.size ≤ 1000 ∧ l.length ≤ 1000 ∧ t.size ≤ 1000
  · obtain ⟨hb, hl, ht⟩ := h1
    have d1 : decide ((1000 : Int) < (b.size : Int)) = false := decide_eq_false (by omega)
    have d2 : decide ((1000 : Int) < (l.length : Int)) = false := decide_eq_false (by omega)
    have d3 : decide ((1000 : Int) < (t.size : Int)) = false := decide_eq_false (by omega)
    obtain ⟨x, r, e1, h⟩ := take_both b (by omega)
    have HT := Lib.hid h
    clear h
    obtain ⟨p, q, e2, h⟩ := tt_both b (by omega)
    have HTT := Lib.hid h
    clear h
    obtain ⟨s, h⟩ := text_both b t (by omega) (by omega)
    have HX := Lib.hid h
    clear h
    obtain ⟨k, h⟩ := size_both n HN.out
    have HS := Lib.hid h
    clear h
    obtain ⟨ps, hps⟩ : ∃ x, putS b l = x := ⟨_, rfl⟩
    obtain ⟨pe, hpe⟩ : ∃ x, putE l = x := ⟨_, rfl⟩
    have HPS := Lib.hid hps
    have HPE := Lib.hid hpe
    clear hps hpe
    go_enter Try.func3, Try.ntmps3
    go_wp2_with fail
    refine (awake_any _).mono ?_
    rintro e w1 ⟨rfl, b1⟩
    go_wp2_with fail
    refine (put_any b a c l _ (by omega) (HL.out.below b1) (by omega) HI.out).mono ?_
    rintro e w2 ⟨rfl, c2⟩
    rw [HPS.out, HPE.out]
    have b2 := step_b b1 c2
    clear c2 b1
    go_wp2_with fail
    refine (rput_any b a c l _ (by omega) (HL.out.below b2) (by omega) (fun x hx => (HI.out x hx).2)).mono ?_
    rintro e w3 ⟨rfl, c3⟩
    rw [HPS.out, HPE.out]
    have b3 := step_b b2 c3
    clear c3 b2
    go_wp2_with fail
    refine (HT.out.l _).mono ?_
    rintro e w4 ⟨rfl, c4⟩
    have b4 := step_b b3 c4
    clear c4 b3
    go_wp2_with fail
    refine (HT.out.r _).mono ?_
    rintro e w5 ⟨rfl, c5⟩
    have b5 := step_b b4 c5
    clear c5 b4
    go_wp2_with fail
    refine (HTT.out.l _).mono ?_
    rintro e w6 ⟨rfl, c6⟩
    have b6 := step_b b5 c6
    clear c6 b5
    go_wp2_with fail
    refine (HTT.out.r _).mono ?_
    rintro e w7 ⟨rfl, c7⟩
    have b7 := step_b b6 c7
    clear c7 b6
    go_wp2_with fail
    refine (HX.out.l _).mono ?_
    rintro e w8 ⟨rfl, c8⟩
    have b8 := step_b b7 c8
    clear c8 b7
    go_wp2_with fail
    refine (HX.out.r _).mono ?_
    rintro e w9 ⟨rfl, c9⟩
    have b9 := step_b b8 c9
    clear c9 b8
    go_wp2_with fail
    refine (HS.out.l _).mono ?_
    rintro e wa ⟨rfl, ca⟩
    have ba := step_b b9 ca
    clear ca b9
    go_wp2_with fail
    refine (HS.out.r _).mono ?_
    rintro e wb ⟨rfl, cb⟩
    have bb := step_b ba cb
    clear cb ba
    go_wp2
    go_ret
    exact ⟨rfl, bb⟩
  · have H1 := Lib.hid h1
    clear h1
    go_enter Try.func3, Try.ntmps3
    go_wp2_with fail
    refine (awake_any _).mono ?_
    rintro e w1 ⟨rfl, b1⟩
    go_wp2_with fail
    all_goals first
      | (go_ret; exact ⟨rfl, b1⟩)
      | (exfalso; have := H1.out; omega)
end Go.Proofs.Ytnlhbaaoknbejaa
