/-
  awake() answers true.
-/
import Derived.Test.YtnlhbaaoknbejaaCode
import Derived.KernelRfl
namespace Go.Proofs.Ytnlhbaaoknbejaa
open Go.RowKit Go.Lib
/-- Some numbers' bytes, reckoned. -/
theorem one_two {n a b : Nat} (hn : n / 128 = a) (ha : a ≠ 0) (ha2 : a < 128) (hb : n % 128 = b) : Vlq.one n = [UInt8.ofNat (a + 128), UInt8.ofNat b] := by
  have e1 : a / 128 = 0 := by omega
  have e2 : a % 128 = a := by omega
  unfold Vlq.one
  rw [hn, hb, Vlq.high_pos ha, e1, e2, Vlq.high_zero]; rfl
theorem one_300 : Vlq.one 300 = [130, 44] := one_two (a := 2) (b := 44) (by decide) (by decide) (by decide) (by decide)
theorem one_128 : Vlq.one 128 = [129, 0] := one_two (a := 1) (b := 0) (by decide) (by decide) (by decide) (by decide)
theorem one_5 : Vlq.one 5 = [5] := Vlq.one_small (by decide)
theorem one_0 : Vlq.one 0 = [0] := Vlq.one_small (by decide)
theorem one_2 : Vlq.one 2 = [2] := Vlq.one_small (by decide)
theorem one_1 : Vlq.one 1 = [1] := Vlq.one_small (by decide)
theorem one_127 : Vlq.one 127 = [127] := Vlq.one_small (by decide)
theorem size_top : (Vlq.one 9223372036854775807).length = 9 := by
  have h1 := Vlq.one_nine (n := 9223372036854775807) (by decide)
  have h2 := Vlq.high_lt (9223372036854775807 / 128)
  rw [Vlq.one_len] at h1 ⊢
  generalize (Vlq.high (9223372036854775807 / 128)).length = k at h1 h2 ⊢
  rcases Nat.lt_or_ge k 8 with h | h
  · have : 128 ^ k ≤ 128 ^ 7 := Nat.pow_le_pow_right (by omega) (by omega)
    have e : (128 : Nat) ^ 7 = 562949953421312 := by decide
    omega
  · omega
theorem isI_new (w : World) (l : List Int) (t : TypeId) : IsI (w.alloc (.cells (l.map (Value.int .i64)).toArray t)) (some ⟨w.heap.size, 0, none⟩) l.length l :=
  ⟨Nat.le_refl _, fun _ => ⟨w.heap.size, 0, rfl, by simp, fun j x hj => by
    rw [World.cell?_alloc_at _ _ _ _ rfl, Nat.zero_add, List.getElem?_toArray, List.getElem?_map, hj]; rfl⟩⟩
theorem aw_put (w : World) {a : Option Addr} {c : Nat} (h : IsI w a c [5, 300, 0]) :
    Calls Try.prog 10 #[.string ⟨#[120]⟩, .slice a 3 c] w fun e w' => e = .returned (.tuple #[.string ⟨#[120, 5, 130, 44, 0]⟩, .int .i64 0]) ∧ Below w.heap.size w w' := by
  have e1 : putS ⟨#[120]⟩ [5, 300, 0] = ⟨#[120, 5, 130, 44, 0]⟩ := by
    have : Vlq.ones [5, 300, 0] = [5, 130, 44, 0] := by
      show Vlq.one 5 ++ (Vlq.one 300 ++ (Vlq.one 0 ++ [])) = _
      rw [one_5, one_300, one_0]; rfl
    unfold putS
    rw [this]; rfl
  have e2 : putE [5, 300, 0] = 0 := by decide
  have := put_any ⟨#[120]⟩ a c [5, 300, 0] w (by decide) h (by decide) (by decide)
  rw [e1, e2] at this
  exact this
theorem aw_put2 (w : World) {a : Option Addr} {c : Nat} (h : IsI w a c [-1]) :
    Calls Try.prog 10 #[.string ⟨#[]⟩, .slice a 1 c] w fun e w' => e = .returned (.tuple #[.string ⟨#[]⟩, .int .i64 40]) ∧ Below w.heap.size w w' := by
  have e1 : putS ⟨#[]⟩ [-1] = ⟨#[]⟩ := by unfold putS; rfl
  have e2 : putE [-1] = 40 := by decide
  have := put_any ⟨#[]⟩ a c [-1] w (by decide) h (by decide) (by decide)
  rw [e1, e2] at this
  exact this
theorem aw_take (w : World) : Calls Try.prog 12 #[.string ⟨#[130, 44, 121]⟩] w fun e w' => e = .returned (.tuple #[.int .i64 300, .string ⟨#[121]⟩, .int .i64 0]) ∧ Below w.heap.size w w' :=
  take_yes ⟨#[130, 44, 121]⟩ 300 [121] w (by decide) ⟨by rw [one_300]; rfl, by decide⟩
theorem aw_take2 (w : World) : Calls Try.prog 12 #[.string ⟨#[128, 1]⟩] w fun e w' => e = .returned (.tuple #[.int .i64 0, .string ⟨#[]⟩, .int .i64 40]) ∧ Below w.heap.size w w' :=
  take_no ⟨#[128, 1]⟩ w (by decide) fun n r h => by
    have h1 := Vlq.one_at h.1 (i := 1) (x := 1) rfl (by decide) (fun j y hj hy => by
      have : j = 0 := by omega
      subst this
      have : y = 128 := by simpa using hy.symm
      subst this; decide)
    have h2 : Vlq.one n = [128, 1] := h1
    have h3 := Vlq.val_one n
    rw [h2] at h3
    have h4 : n = 1 := h3.symm
    rw [h4, one_1] at h2
    exact absurd h2 (by decide)
theorem aw_text (w : World) : Calls Try.prog 16 #[.string ⟨#[]⟩, .string ⟨#[97, 98]⟩] w fun e w' => e = .returned (.string ⟨#[2, 97, 98]⟩) ∧ Below w.heap.size w w' := by
  have := text_any ⟨#[]⟩ ⟨#[97, 98]⟩ w (by decide) (by decide)
  have e : (⟨#[]⟩ : ByteArray) ++ ofL (Vlq.one (ByteArray.size ⟨#[97, 98]⟩)) ++ ⟨#[97, 98]⟩ = ⟨#[2, 97, 98]⟩ := by
    show (⟨#[]⟩ : ByteArray) ++ ofL (Vlq.one 2) ++ ⟨#[97, 98]⟩ = _
    rw [one_2]; rfl
  rw [e] at this
  exact this
theorem aw_tt (w : World) : Calls Try.prog 14 #[.string ⟨#[2, 97, 98]⟩] w fun e w' => e = .returned (.tuple #[.string ⟨#[97, 98]⟩, .string ⟨#[]⟩, .int .i64 0]) ∧ Below w.heap.size w w' :=
  tt_yes ⟨#[2, 97, 98]⟩ [97, 98] [] w (by decide) ⟨by show [2, 97, 98] = Vlq.one 2 ++ _; rw [one_2]; rfl, by decide⟩
theorem aw_size (w : World) (n : Nat) (k : Int) (hn : n ≤ 9223372036854775807) (h : ((Vlq.one n).length : Int) = k) : Calls Try.prog 18 #[.int .i64 n] w fun e w' => e = .returned (.int .i64 k) ∧ Below w.heap.size w w' := by
  have := size_any n (by omega) (by omega) w
  have e : sizeI n = k := by unfold sizeI; rw [if_neg (by omega), Int.toNat_natCast]; exact h
  rw [e] at this
  exact this
theorem aw_s1 (w : World) : Calls Try.prog 18 #[.int .i64 127] w fun e w' => e = .returned (.int .i64 1) ∧ Below w.heap.size w w' := aw_size w 127 1 (by decide) (by rw [one_127]; rfl)
theorem aw_s2 (w : World) : Calls Try.prog 18 #[.int .i64 128] w fun e w' => e = .returned (.int .i64 2) ∧ Below w.heap.size w w' := aw_size w 128 2 (by decide) (by rw [one_128]; rfl)
theorem aw_s9 (w : World) : Calls Try.prog 18 #[.int .i64 9223372036854775807] w fun e w' => e = .returned (.int .i64 9) ∧ Below w.heap.size w w' := aw_size w 9223372036854775807 9 (by decide) (by rw [size_top]; rfl)
set_option maxRecDepth 100000 in
set_option maxHeartbeats 2000000 in
theorem awake_any (w : World) : Calls Try.prog 9 #[] w fun e w' => e = .returned (.bool true) ∧ Below w.heap.size w w' := by
  go_enter Try.func9, Try.ntmps9
  go_wp2_with fail
  refine (aw_put _ (isI_new _ [5, 300, 0] 3)).mono ?_
  rintro e w1 ⟨rfl, c1⟩
  have b1 := step_a (Below.refl _ _) c1
  clear c1
  go_wp2_with fail
  refine (aw_put2 _ (isI_new _ [-1] 3)).mono ?_
  rintro e w2 ⟨rfl, c2⟩
  have b2 := step_a b1 c2
  clear c2 b1
  go_wp2_with fail
  refine (aw_take _).mono ?_
  rintro e w3 ⟨rfl, c3⟩
  have b3 := step_b b2 c3
  clear c3 b2
  go_wp2_with fail
  refine (aw_take2 _).mono ?_
  rintro e w4 ⟨rfl, c4⟩
  have b4 := step_b b3 c4
  clear c4 b3
  go_wp2_with fail
  refine (aw_text _).mono ?_
  rintro e w5 ⟨rfl, c5⟩
  have b5 := step_b b4 c5
  clear c5 b4
  go_wp2_with fail
  refine (aw_tt _).mono ?_
  rintro e w6 ⟨rfl, c6⟩
  have b6 := step_b b5 c6
  clear c6 b5
  go_wp2_with fail
  refine (aw_s1 _).mono ?_
  rintro e w7 ⟨rfl, c7⟩
  have b7 := step_b b6 c7
  clear c7 b6
  go_wp2_with fail
  refine (aw_s2 _).mono ?_
  rintro e w8 ⟨rfl, c8⟩
  have b8 := step_b b7 c8
  clear c8 b7
  go_wp2_with fail
  refine (aw_s9 _).mono ?_
  rintro e w9 ⟨rfl, c9⟩
  have b9 := step_b b8 c9
  clear c9 b8
  go_wp2
  go_ret
  exact ⟨rfl, b9⟩
end Go.Proofs.Ytnlhbaaoknbejaa
