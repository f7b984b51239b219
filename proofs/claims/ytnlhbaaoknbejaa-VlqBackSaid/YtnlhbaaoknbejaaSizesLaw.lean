/-
  VlqSizes: a greater number has no fewer bytes; 128 times as much has one more, unless it is 0.
-/
import Derived.Test.YtnlhbaaoknbejaaOpen
namespace Go.Proofs.Ytnlhbaaoknbejaa
open Go.RowKit Go.Lib
theorem size_of (n k : Nat) (hn : n < 9223372036854775808) (h : (Vlq.one n).length = k) (w : World) :
    Calls Try.prog 18 #[.int .i64 n] w fun e w' => e = .returned (.int .i64 k) ∧ Below w.heap.size w w' := aw_size w n k (by omega) (by rw [h])
theorem size_neg (n : Int) (hl : -9223372036854775808 ≤ n) (hn : n < 0) (w : World) :
    Calls Try.prog 18 #[.int .i64 n] w fun e w' => e = .returned (.int .i64 0) ∧ Below w.heap.size w w' := by
  have := size_any n hl (by omega) w
  have e : sizeI n = 0 := by unfold sizeI; rw [if_pos hn]
  rw [e] at this
  exact this
set_option maxRecDepth 100000 in
set_option maxHeartbeats 4000000 in
theorem sizes_walk (a b : Int) (w : World) (ha : (Lit.int .i64 a).wf = true) (hb : (Lit.int .i64 b).wf = true) :
    Calls Try.prog 7 #[.int .i64 a, .int .i64 b] w fun e w' => e = .returned (.bool true) ∧ Below w.heap.size w w' := by
  have ha2 := i64_wf ha
  have hb2 := i64_wf hb
  unfold I64 at ha2 hb2
  clear ha hb
  by_cases h1 : a < 0
  · have d1 : decide (a < 0) = true := decide_eq_true h1
    have d2 : decide (0 ≤ a) = false := decide_eq_false (by omega)
    go_enter Try.func7, Try.ntmps7
    go_wp2_with fail
    refine (awake_any _).mono ?_
    rintro e w1 ⟨rfl, b1⟩
    go_wp2_with fail
    refine (size_neg a ha2.1 h1 _).mono ?_
    rintro e w2 ⟨rfl, c2⟩
    have b2 := step_b b1 c2
    go_wp2
    go_ret
    exact ⟨rfl, b2⟩
  by_cases h2 : b < 0
  · have d1 : decide (a < 0) = false := decide_eq_false h1
    have d2 : decide (0 ≤ a) = true := decide_eq_true (by omega)
    have d3 : decide (b < 0) = true := decide_eq_true h2
    go_enter Try.func7, Try.ntmps7
    go_wp2_with fail
    refine (awake_any _).mono ?_
    rintro e w1 ⟨rfl, b1⟩
    go_wp2
    go_ret
    exact ⟨rfl, b1⟩
  obtain ⟨x, rfl⟩ : ∃ x : Nat, a = (x : Int) := ⟨a.toNat, by omega⟩
  obtain ⟨y, rfl⟩ : ∃ y : Nat, b = (y : Int) := ⟨b.toNat, by omega⟩
  have d1 : decide ((x : Int) < 0) = false := decide_eq_false h1
  have d3 : decide ((y : Int) < 0) = false := decide_eq_false h2
  obtain ⟨lo, hlo⟩ : ∃ lo, min x y = lo := ⟨_, rfl⟩
  obtain ⟨hi, hhi⟩ : ∃ hi, max x y = hi := ⟨_, rfl⟩
  obtain ⟨kl, hkl⟩ : ∃ k, (Vlq.one lo).length = k := ⟨_, rfl⟩
  obtain ⟨kh, hkh⟩ : ∃ k, (Vlq.one hi).length = k := ⟨_, rfl⟩
  obtain ⟨kx, hkx⟩ : ∃ k, (Vlq.one x).length = k := ⟨_, rfl⟩
  have g1 : kl ≤ kh := by rw [← hkl, ← hkh]; exact Vlq.one_mono (by omega)
  have g2 : 1 ≤ kl := by rw [← hkl]; exact Vlq.one_pos _
  have g3 : kh ≤ 9 := by rw [← hkh]; exact Vlq.one_nine (by omega)
  have g4 : kx ≤ 9 := by rw [← hkx]; exact Vlq.one_nine (by omega)
  have SL := Lib.hid (size_of lo kl (by omega) hkl)
  have SH := Lib.hid (size_of hi kh (by omega) hkh)
  have SX := Lib.hid (size_of x kx (by omega) hkx)
  have HKX := Lib.hid hkx
  clear hkl hkh hkx h1 h2
  go_enter Try.func7, Try.ntmps7
  go_wp2_with fail
  refine (awake_any _).mono ?_
  rintro e w1 ⟨rfl, b1⟩
  go_upto_region 4 with fail
  go_cut [6] (fun s wx => s = .int .i64 lo ∧ wx = w1)
  case first =>
    go_wp2_with fail
    all_goals (go_meet; exact ⟨by congr 1; omega, rfl⟩)
  case rest =>
    obtain ⟨rfl, rfl⟩ := hcut
    go_upto_region 5 with fail
    go_cut [7] (fun s wy => s = .int .i64 hi ∧ wy = wc)
    case first =>
      go_wp2_with fail
      all_goals (go_meet; exact ⟨by congr 1; omega, rfl⟩)
    case rest =>
      obtain ⟨rfl, rfl⟩ := hcut
      clear hlo hhi
      go_upto_region 6 with fail
      go_cut [8] (fun s wz => s = .bool true ∧ Below w.heap.size w wz)
      case first =>
        by_cases hx0 : x = 0
        · have e1 : ((x : Int) == 0) = true := by rw [beq_iff_eq]; omega
          go_wp2_with fail
          go_meet
          exact ⟨rfl, b1⟩
        · have e1 : ((x : Int) == 0) = false := by rw [beq_eq_false_iff_ne]; omega
          by_cases hx1 : 72057594037927936 ≤ x
          · have e2 : decide ((72057594037927936 : Int) ≤ (x : Int)) = true := decide_eq_true (by omega)
            go_wp2_with fail
            go_meet
            exact ⟨rfl, b1⟩
          · have e2 : decide ((72057594037927936 : Int) ≤ (x : Int)) = false := decide_eq_false (by omega)
            have hb : x < 72057594037927936 := by omega
            have S2 := Lib.hid (size_of (128 * x) (kx + 1) (by omega) (by rw [Vlq.one_more hx0, HKX.out]))
            clear hx1 hx0
            obtain ⟨z, hz⟩ : ∃ z, 128 * x = z := ⟨_, rfl⟩
            have hz2 : 128 * (x : Int) = (z : Int) := by omega
            rw [hz] at S2
            have hzl : z < 9223372036854775808 := by omega
            clear hz
            go_wp2_with fail
            refine (S2.out _).mono ?_
            rintro e w2 ⟨rfl, c2⟩
            have b2 := step_b b1 c2
            go_wp2_with fail
            refine (SX.out _).mono ?_
            rintro e w3 ⟨rfl, c3⟩
            have b3 := step_b b2 c3
            go_wp2_with fail
            go_meet
            exact ⟨rfl, b3⟩
      case rest =>
        clear b1
        obtain ⟨rfl, b1⟩ := hcut
        have f1 : decide ((kl : Int) ≤ (kh : Int)) = true := decide_eq_true (by omega)
        have f2 : decide ((1 : Int) ≤ (kl : Int)) = true := decide_eq_true (by omega)
        have f3 : decide ((kh : Int) ≤ 9) = true := decide_eq_true (by omega)
        go_wp2_with fail
        refine (SL.out _).mono ?_
        rintro e w2 ⟨rfl, c2⟩
        have b2 := step_b b1 c2
        clear c2 b1
        go_wp2_with fail
        refine (SH.out _).mono ?_
        rintro e w3 ⟨rfl, c3⟩
        have b3 := step_b b2 c3
        clear c3 b2
        go_wp2_with fail
        refine (SL.out _).mono ?_
        rintro e w4 ⟨rfl, c4⟩
        have b4 := step_b b3 c4
        clear c4 b3
        go_wp2_with fail
        refine (SH.out _).mono ?_
        rintro e w5 ⟨rfl, c5⟩
        have b5 := step_b b4 c5
        clear c5 b4
        go_wp2
        go_ret
        exact ⟨rfl, b5⟩
end Go.Proofs.Ytnlhbaaoknbejaa
