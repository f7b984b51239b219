import Derived.Test.YtamnjmlnodhhmaaDirs
import Derived.Test.YtamnjmlnodhhmaaSeen
namespace Go.Proofs.Ytamnjmlnodhhmaa
open Go.RowKit Go.Lib
theorem isS_new (w : World) (x y : Int) (t : TypeId) : IsS (w.alloc (.cells #[.int .i64 x, .int .i64 y] t)) (some ⟨w.heap.size, 0, none⟩) 1 [(x, y)] :=
  ⟨Nat.le_refl _, fun _ => ⟨w.heap.size, 0, rfl, by simp, fun j s hj => by
    cases j with
    | zero => simp at hj; subst hj; constructor <;> (rw [World.cell?_alloc_at _ _ _ _ rfl]; rfl)
    | succ j => simp at hj⟩⟩
theorem aw_next (w : World) : Calls Try.prog 10 #[.int .i64 2, .int .i64 5] w fun e w' => e = .returned (.tuple #[.agg #[.int .i64 3, .int .i64 5], .int .i64 0]) ∧ Below w.heap.size w w' :=
  next_yes (n := 2) (r := 5) (by omega) (by omega) (by omega) (by omega) w
theorem aw_nono (w : World) : Calls Try.prog 10 #[.int .i64 1048576, .int .i64 5] w fun e w' => e = .returned (.tuple #[.agg #[.int .i64 0, .int .i64 0], .int .i64 20]) ∧ Below w.heap.size w w' :=
  next_no (n := 1048576) (r := 5) (by omega) (by omega) (by omega) w
theorem aw_of (w : World) : Calls Try.prog 12 #[.int .i64 395] w fun e w' => e = .returned (.tuple #[.agg #[.int .i64 3, .int .i64 5], .bool true, .bool true]) ∧ Below w.heap.size w w' :=
  of_yes (n := 395) (f := true) (by decide) (by omega) (by omega) w
theorem aw_ofno (w : World) : Calls Try.prog 12 #[.int .i64 2] w fun e w' => e = .returned (.tuple #[.agg #[.int .i64 0, .int .i64 0], .bool false, .bool false]) ∧ Below w.heap.size w w' :=
  of_no (n := 2) (by omega) (by omega) (by omega) w
theorem aw_seen (w : World) (t : TypeId) : Calls Try.prog 18 #[.int .i64 1, .slice (some ⟨w.heap.size, 0, none⟩) 1 1] (w.alloc (.cells #[.int .i64 3, .int .i64 5] t)) fun e w' => e = .returned (.int .i64 3) ∧ Below w.heap.size w w' := by
  refine (seen_is (n := 1) (l := [(3, 5)]) (m := 3) (by decide) _ (isS_new w 3 5 t) (by decide)).mono ?_
  rintro e w' ⟨rfl, hb⟩
  exact ⟨rfl, ((Below.refl _ _).alloc (Nat.le_refl _) _).trans (hb.mono (by simp))⟩
/-- Block b holds the two numbers x, y. -/
theorem keep2 {W w1 : World} {b : Nat} {x y : Value} (hb : Below W.heap.size W w1) (h : W.cell? ⟨b, 0, none⟩ = some x ∧ W.cell? ⟨b, 1, none⟩ = some y) :
    (w1.cell? ⟨b, 0, none⟩ = some x ∧ w1.cell? ⟨b, 1, none⟩ = some y) ∧ b < w1.heap.size := by
  have hlt : b < W.heap.size := World.block_lt_of_cell? W ⟨b, 0, none⟩ h.1
  exact ⟨⟨by rw [hb.cell (p := ⟨b, _, none⟩) hlt]; exact h.1, by rw [hb.cell (p := ⟨b, _, none⟩) hlt]; exact h.2⟩, Nat.lt_of_lt_of_le hlt hb.size⟩
theorem keep2a {W w1 : World} {o : Obj} {b : Nat} {x y : Value} (hb : Below (W.alloc o).heap.size (W.alloc o) w1) (h : W.cell? ⟨b, 0, none⟩ = some x ∧ W.cell? ⟨b, 1, none⟩ = some y) :
    (w1.cell? ⟨b, 0, none⟩ = some x ∧ w1.cell? ⟨b, 1, none⟩ = some y) ∧ b < w1.heap.size :=
  keep2 (((Below.refl _ _).alloc (Nat.le_refl _) o).trans (hb.mono (by simp))) h
theorem new2 {W w1 : World} {t : TypeId} {x y : Value} (hb : Below (W.alloc (.cells #[x, y] t)).heap.size (W.alloc (.cells #[x, y] t)) w1) :
    (w1.cell? ⟨W.heap.size, 0, none⟩ = some x ∧ w1.cell? ⟨W.heap.size, 1, none⟩ = some y) ∧ W.heap.size < w1.heap.size :=
  keep2 hb ⟨by rw [World.cell?_alloc_at _ _ _ _ rfl]; rfl, by rw [World.cell?_alloc_at _ _ _ _ rfl]; rfl⟩
theorem step_a {w W w1 : World} {o : Obj} (b : Below w.heap.size w W) (hb : Below (W.alloc o).heap.size (W.alloc o) w1) : Below w.heap.size w w1 :=
  (b.alloc b.size o).trans (hb.mono (by have := b.size; simp; omega))
theorem step_b {w W w1 : World} (b : Below w.heap.size w W) (hb : Below W.heap.size W w1) : Below w.heap.size w w1 := b.trans (hb.mono b.size)
set_option maxRecDepth 100000 in
set_option maxHeartbeats 2000000 in
theorem awake_any (w : World) : Calls Try.prog 9 #[] w fun e w' => e = .returned (.bool true) ∧ Below w.heap.size w w' := by
  go_enter Try.func9, Try.ntmps9
  go_wp2_with fail
  refine (aw_next _).mono ?_
  rintro e w1 ⟨rfl, c1⟩
  have b1 := step_a (Below.refl _ _) c1
  obtain ⟨qA, lA⟩ := new2 c1
  clear c1
  go_wp2_with fail
  refine (aw_nono _).mono ?_
  rintro e w2 ⟨rfl, c2⟩
  have b2 := step_a b1 c2
  obtain ⟨qB, lB⟩ := new2 c2
  obtain ⟨qA, lA⟩ := keep2a c2 qA
  clear c2 b1
  go_wp2_with fail
  refine (aw_of _).mono ?_
  rintro e w3 ⟨rfl, c3⟩
  have b3 := step_a b2 c3
  obtain ⟨qB, lB⟩ := keep2a c3 qB
  obtain ⟨qA, lA⟩ := keep2a c3 qA
  clear c3 b2
  go_wp2_with fail
  refine (aw_ofno _).mono ?_
  rintro e w4 ⟨rfl, c4⟩
  have b4 := step_a b3 c4
  obtain ⟨qT, lT⟩ := new2 c4
  obtain ⟨qB, lB⟩ := keep2a c4 qB
  obtain ⟨qA, lA⟩ := keep2a c4 qA
  clear c4 b3
  go_wp2_with fail
  refine (check_is (c := 3) (r := 5) (b := true) (by decide) _).mono ?_
  rintro e w5 ⟨rfl, c5⟩
  have b5 := step_a b4 c5
  obtain ⟨qT, lT⟩ := keep2a c5 qT
  obtain ⟨qB, lB⟩ := keep2a c5 qB
  obtain ⟨qA, lA⟩ := keep2a c5 qA
  clear c5 b4
  go_wp2_with fail
  refine (check_is (c := 0) (r := 0) (b := false) (by decide) _).mono ?_
  rintro e w6 ⟨rfl, c6⟩
  have b6 := step_b b5 c6
  obtain ⟨qT, lT⟩ := keep2 c6 qT
  obtain ⟨qB, lB⟩ := keep2 c6 qB
  obtain ⟨qA, lA⟩ := keep2 c6 qA
  clear c6 b5
  go_wp2_with fail
  refine (id_yes (c := 3) (r := 5) true (by decide) _).mono ?_
  rintro e w7 ⟨rfl, c7⟩
  have b7 := step_b b6 c7
  obtain ⟨qT, lT⟩ := keep2 c7 qT
  obtain ⟨qB, lB⟩ := keep2 c7 qB
  obtain ⟨qA, lA⟩ := keep2 c7 qA
  clear c7 b6
  rw [show idOf 3 5 true = 395 by decide]
  go_wp2_with fail
  refine (id_no (c := 0) (r := 0) true (by decide) _).mono ?_
  rintro e w8 ⟨rfl, c8⟩
  have b8 := step_b b7 c8
  obtain ⟨qT, lT⟩ := keep2 c8 qT
  obtain ⟨qB, lB⟩ := keep2 c8 qB
  obtain ⟨qA, lA⟩ := keep2 c8 qA
  clear c8 b7
  go_wp2_with fail
  refine (dir_is (n := 0) (b := true) (by decide) (by omega) (by omega) _).mono ?_
  rintro e w9 ⟨rfl, c9⟩
  have b9 := step_b b8 c9
  obtain ⟨qA, lA⟩ := keep2 c9 qA
  clear c9 b8 qT lT qB lB
  go_wp2_with fail
  refine (dir_is (n := 2) (b := true) (by decide) (by omega) (by omega) _).mono ?_
  rintro e w10 ⟨rfl, c10⟩
  have b10 := step_b b9 c10
  obtain ⟨qA, lA⟩ := keep2 c10 qA
  clear c10 b9
  go_wp2_with fail
  refine (dir_is (n := 394) (b := true) (by decide) (by omega) (by omega) _).mono ?_
  rintro e w11 ⟨rfl, c11⟩
  have b11 := step_b b10 c11
  obtain ⟨qA, lA⟩ := keep2 c11 qA
  clear c11 b10
  go_wp2_with fail
  refine (dir_is (n := 395) (b := false) (by decide) (by omega) (by omega) _).mono ?_
  rintro e w12 ⟨rfl, c12⟩
  have b12 := step_b b11 c12
  obtain ⟨qA, lA⟩ := keep2 c12 qA
  clear c12 b11
  go_wp2_with fail
  refine (aw_seen _ _).mono ?_
  rintro e w13 ⟨rfl, c13⟩
  have b13 := step_b b12 c13
  obtain ⟨qA, lA⟩ := keep2 c13 qA
  clear c13 b12
  go_wp2_with fail
  refine (less_is (c := 3) (r := 4) (d := 3) (s := 5) (b := true) (by decide) _).mono ?_
  rintro e w14 ⟨rfl, c14⟩
  have b14 := step_b b13 c14
  obtain ⟨qA, lA⟩ := keep2 c14 qA
  clear c14 b13
  go_wp2_with fail
  refine (less_is (c := 3) (r := 5) (d := 3) (s := 5) (b := false) (by decide) _).mono ?_
  rintro e w15 ⟨rfl, c15⟩
  have b15 := step_b b14 c15
  clear c15 b14
  go_wp2
  go_ret
  exact ⟨rfl, b15⟩
end Go.Proofs.Ytamnjmlnodhhmaa
