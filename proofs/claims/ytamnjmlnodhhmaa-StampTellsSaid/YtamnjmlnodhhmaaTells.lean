import Derived.Test.YtamnjmlnodhhmaaBoxes
import Derived.Deep.DeepCutAuto
namespace Go.Proofs.Ytamnjmlnodhhmaa
open Go.RowKit Go.Lib
/-- The program, and the document, answer this at these arguments. -/
def Both (f g : FuncId) (args : Array Value) (v : Value) : Prop :=
  (∀ w, Calls Try.prog f args w fun e w' => e = .returned v ∧ Below w.heap.size w w') ∧ (∀ w, Calls Try.prog g args w fun e w' => e = .returned v ∧ Below w.heap.size w w')
theorem Both.l {f g : FuncId} {args : Array Value} {v : Value} (h : Both f g args v) (w : World) : Calls Try.prog f args w fun e w' => e = .returned v ∧ Below w.heap.size w w' := h.1 w
theorem Both.r {f g : FuncId} {args : Array Value} {v : Value} (h : Both f g args v) (w : World) : Calls Try.prog g args w fun e w' => e = .returned v ∧ Below w.heap.size w w' := h.2 w
theorem next_both {n r : Int} (hn : I64 n) : ∃ p q z : Int, Both 10 11 #[.int .i64 n, .int .i64 r] (.tuple #[.agg #[.int .i64 p, .int .i64 q], .int .i64 z]) := by
  by_cases h : 0 ≤ n ∧ n ≤ 1048575 ∧ 0 ≤ r ∧ r ≤ 63
  · exact ⟨_, _, _, fun w => next_yes h.1 h.2.1 h.2.2.1 h.2.2.2 w, fun w => rnext_yes h.1 h.2.1 h.2.2.1 h.2.2.2 w⟩
  · exact ⟨_, _, _, fun w => next_no hn.1 hn.2 h w, fun w => rnext_no h w⟩
theorem of_both {n : Int} (hn : I64 n) : ∃ (p q : Int) (f o : Bool), Both 12 13 #[.int .i64 n] (.tuple #[.agg #[.int .i64 p, .int .i64 q], .bool f, .bool o]) := by
  by_cases h : 128 ≤ n ∧ n < 134217856
  · exact ⟨_, _, _, _, fun w => of_yes rfl h.1 h.2 w, fun w => rof_yes rfl h.1 h.2 w⟩
  · exact ⟨_, _, _, _, fun w => of_no (by omega) hn.1 hn.2 w, fun w => rof_no (by omega) w⟩
theorem id_both (c r : Int) (f : Bool) : ∃ z : Int, Both 20 21 #[.agg #[.int .i64 c, .int .i64 r], .bool f] (.int .i64 z) := by
  cases h : mayB c r with
  | true => exact ⟨_, fun w => id_yes f h w, fun w => rid_yes f h w⟩
  | false => exact ⟨_, fun w => id_no f h w, fun w => rid_no f h w⟩
theorem check_both (c r : Int) : ∃ b : Bool, Both 14 15 #[.agg #[.int .i64 c, .int .i64 r]] (.bool b) := ⟨_, fun w => check_is rfl w, fun w => rcheck_is rfl w⟩
theorem less_both (c r d s : Int) : ∃ b : Bool, Both 16 17 #[.agg #[.int .i64 c, .int .i64 r], .agg #[.int .i64 d, .int .i64 s]] (.bool b) := ⟨_, fun w => less_is rfl w, fun w => rless_is rfl w⟩
theorem dir_both {n : Int} (hn : I64 n) : ∃ b : Bool, Both 22 23 #[.int .i64 n] (.bool b) := ⟨_, fun w => dir_is rfl hn.1 hn.2 w, fun w => rdir_is rfl w⟩
theorem seen_later {n : Int} {a : Option Addr} {c : Nat} {l : List (Int × Int)} {m : Int} (e : seenI n l = m) {W : World} (k : Later W) (h : IsS W a c l) (hll : l.length ≤ 1000000) :
    Calls Try.prog 18 #[.int .i64 n, .slice a l.length c] k.w fun e w' => e = .returned (.int .i64 m) ∧ Below k.w.heap.size k.w w' := seen_is e k.w (h.below k.below) hll
theorem rseen_later {n : Int} {a : Option Addr} {c : Nat} {l : List (Int × Int)} {m : Int} (e : seenI n l = m) {W : World} (k : Later W) (h : IsS W a c l) (hll : l.length ≤ 1000000) :
    Calls Try.prog 19 #[.int .i64 n, .slice a l.length c] k.w fun e w' => e = .returned (.int .i64 m) ∧ Below k.w.heap.size k.w w' := rseen_is e k.w (h.below k.below) hll
set_option maxRecDepth 100000 in
set_option maxHeartbeats 4000000 in
theorem tells_walk (c r d s : Int) (a : Option Addr) (ca : Nat) (l : List (Int × Int)) (n rep : Int) (f : Bool) (w : World)
    (_ha : I64 c ∧ I64 r) (_hb : I64 d ∧ I64 s) (ha : IsS w a ca l ∧ l.length ≤ maxLen ∧ (a = none → ca = 0)) (hn : (Lit.int .i64 n).wf = true) (_hr : (Lit.int .i64 rep).wf = true) :
    Calls Try.prog 3 #[.agg #[.int .i64 c, .int .i64 r], .agg #[.int .i64 d, .int .i64 s], .slice a l.length ca, .int .i64 n, .int .i64 rep, .bool f] w fun e w' => e = .returned (.bool true) ∧ Below w.heap.size w w' := by
  have hN := i64_wf hn
  obtain ⟨ha, ma, _⟩ := ha
  unfold maxLen at ma
  have HA := Lib.hid ha
  clear ha hn _ha _hb _hr
  obtain ⟨p, q, z, hnext⟩ := @next_both n rep hN
  obtain ⟨p', q', g, o, hof⟩ := of_both hN
  obtain ⟨i, hid⟩ := id_both c r f
  obtain ⟨m, hck⟩ := check_both c r
  obtain ⟨ls, hls⟩ := less_both c r d s
  obtain ⟨db, hdb⟩ := dir_both hN
  obtain ⟨S, hS⟩ : ∃ S, seenI n l = S := ⟨_, rfl⟩
  have HNext := Lib.hid hnext
  have HOf := Lib.hid hof
  have HId := Lib.hid hid
  have HCk := Lib.hid hck
  have HLs := Lib.hid hls
  have HDb := Lib.hid hdb
  have HS := Lib.hid hS
  clear hnext hof hid hck hls hdb hS
  by_cases h1 : l.length ≤ 1000
  · go_enter Try.func3, Try.ntmps3
    go_wp2_with fail
    refine (awake_any _).mono ?_
    rintro e w1 ⟨rfl, c1⟩
    obtain ⟨b1, ⟨qA, lA⟩, ⟨qB, lB⟩⟩ := two_boxes c1
    clear c1
    go_wp2_with fail
    refine (HNext.out.l _).mono ?_
    rintro e w2 ⟨rfl, c2⟩
    have b2 := step_b b1 c2
    obtain ⟨qA, lA⟩ := keep2 c2 qA
    obtain ⟨qB, lB⟩ := keep2 c2 qB
    clear b1 c2
    go_wp2_with fail
    refine (HNext.out.r _).mono ?_
    rintro e w3 ⟨rfl, c3⟩
    have b3 := step_a b2 c3
    obtain ⟨qX, lX⟩ := new2 c3
    obtain ⟨qA, lA⟩ := keep2a c3 qA
    obtain ⟨qB, lB⟩ := keep2a c3 qB
    clear b2 c3
    go_wp2_with fail
    refine (HOf.out.l _).mono ?_
    rintro e w4 ⟨rfl, c4⟩
    have b4 := step_a b3 c4
    obtain ⟨qY, lY⟩ := new2 c4
    obtain ⟨qX, lX⟩ := keep2a c4 qX
    obtain ⟨qA, lA⟩ := keep2a c4 qA
    obtain ⟨qB, lB⟩ := keep2a c4 qB
    clear b3 c4
    go_wp2_with fail
    refine (HOf.out.r _).mono ?_
    rintro e w5 ⟨rfl, c5⟩
    have b5 := step_a b4 c5
    obtain ⟨qS, lS⟩ := new2 c5
    obtain ⟨qY, lY⟩ := keep2a c5 qY
    obtain ⟨qX, lX⟩ := keep2a c5 qX
    obtain ⟨qA, lA⟩ := keep2a c5 qA
    obtain ⟨qB, lB⟩ := keep2a c5 qB
    clear b4 c5
    go_upto_region 8 with fail
    go_cut [24] (fun s24 wx => s24 = .bool true ∧ Has2 wx w.heap.size (.int .i64 c) (.int .i64 r) ∧ Below w.heap.size w wx)
    case first =>
      have HA5 := Lib.hid (show Has2 w5 w.heap.size (.int .i64 c) (.int .i64 r) from ⟨qA, lA⟩)
      go_wp2_with fail
      refine wp_region_later (by kernel_rfl) (by kernel_rfl) (fun hL => ?_)
      repeat (go_big_quiet_step ((first | (go_at_call 14; with_reducible refine later_calls (HCk.out.l _)) | (go_at_call 15; with_reducible refine later_calls (HCk.out.r _)) | (go_at_call 16; with_reducible refine later_calls (HLs.out.l _)) | (go_at_call 17; with_reducible refine later_calls (HLs.out.r _)))))
      refine wpQuiet_nil ?_
      intro w6 hw6
      have c6 := later_out hw6
      clear hw6 hL
      go_wp2_with fail
      go_meet
      exact ⟨rfl, HA5.out.keepa c6, step_a b5 c6⟩
    case rest =>
      clear qA lA qB lB qX lX qY lY qS lS b5
      obtain ⟨rfl, ⟨qA, lA⟩, b6⟩ := hcut
      have HA6 := Lib.hid (HA.out.below b6)
      go_wp2_with fail
      refine wp_region_later (by kernel_rfl) (by kernel_rfl) (fun hL => ?_)
      repeat (go_big_quiet_step ((first | (go_at_call 18; with_reducible refine later_calls (seen_later HS.out _ HA6.out (by omega))) | (go_at_call 19; with_reducible refine later_calls (rseen_later HS.out _ HA6.out (by omega))) | (go_at_call 20; with_reducible refine later_calls (HId.out.l _)) | (go_at_call 21; with_reducible refine later_calls (HId.out.r _)) | (go_at_call 22; with_reducible refine later_calls (HDb.out.l _)) | (go_at_call 23; with_reducible refine later_calls (HDb.out.r _)))))
      refine wpQuiet_nil ?_
      intro w7 hw7
      have c7 := later_out hw7
      clear hw7 hL
      go_wp2
      go_ret
      exact ⟨rfl, step_b b6 c7⟩
  · go_enter Try.func3, Try.ntmps3
    go_wp2_with fail
    refine (awake_any _).mono ?_
    rintro e w1 ⟨rfl, c1⟩
    obtain ⟨b1, _⟩ := two_boxes c1
    go_wp2
    go_ret
    exact ⟨rfl, b1⟩
end Go.Proofs.Ytamnjmlnodhhmaa
