import Derived.Test.YtamnjmlnodhhmaaIds
namespace Go.Proofs.Ytamnjmlnodhhmaa
open Go.RowKit Go.Lib
/-- What a slice of stamps that is read holds: the stamps l, and room for c. -/
def IsS (w : World) (a : Option Addr) (c : Nat) (l : List (Int × Int)) : Prop :=
  l.length ≤ c ∧ (l ≠ [] → ∃ b o, a = some ⟨b, o, none⟩ ∧ b < w.heap.size ∧ ∀ j s, l[j]? = some s →
    w.cell? ⟨b, o + j * 2, none⟩ = some (.int .i64 s.1) ∧ w.cell? ⟨b, o + j * 2 + 1, none⟩ = some (.int .i64 s.2))
theorem IsS.below {w w' : World} {a : Option Addr} {c : Nat} {l : List (Int × Int)} (h : IsS w a c l) (hb : Below w.heap.size w w') : IsS w' a c l :=
  ⟨h.1, fun hne => by
    obtain ⟨b, o, e, hlt, hc⟩ := h.2 hne
    exact ⟨b, o, e, Nat.lt_of_lt_of_le hlt hb.size, fun j s hj => by rw [hb.cell (p := ⟨b, _, none⟩) hlt, hb.cell (p := ⟨b, _, none⟩) hlt]; exact hc j s hj⟩⟩
set_option maxHeartbeats 1000000 in
theorem seen_any (n : Int) (a : Option Addr) (c : Nat) (l : List (Int × Int)) (w : World) (h : IsS w a c l) (hll : l.length ≤ 9223372036854775807) :
    Calls Try.prog 18 #[.int .i64 n, .slice a l.length c] w fun e w' => e = .returned (.int .i64 (seenI n l)) ∧ Below w.heap.size w w' := by
  go_enter Try.func18, Try.ntmps18
  go_wp2
  go_loopw [0, 9] (fun m i w' => ∃ k : Nat, k ≤ l.length ∧ i = .int .i64 k ∧ m = .int .i64 (seenI n (l.take k)) ∧ Below w.heap.size w w') (fun _ i _ => l.length - (RowKit.intOf i).toNat)
  case atStart => exact ⟨0, Nat.zero_le _, rfl, rfl, Below.refl _ _⟩
  case round =>
    obtain ⟨k, hk, rfl, rfl, hb⟩ := hrel
    by_cases hkl : k < l.length
    · obtain ⟨b, o, rfl, hlt, hc⟩ := h.2 (fun e => by rw [e] at hkl; simp at hkl)
      obtain ⟨s, hs⟩ : ∃ s, l[k]? = some s := ⟨l[k], List.getElem?_eq_getElem hkl⟩
      obtain ⟨x, y⟩ := s
      have hsn := seenI_snoc n l k (x, y) hs
      have Hsn := Lib.hid hsn
      have hc0 : wr.cell? ⟨b, o + k * 2, none⟩ = some (.int .i64 x) := by rw [hb.cell (p := ⟨b, _, none⟩) hlt]; exact (hc k _ hs).1
      have hc1 : wr.cell? ⟨b, o + k * 2 + 1, none⟩ = some (.int .i64 y) := by rw [hb.cell (p := ⟨b, _, none⟩) hlt]; exact (hc k _ hs).2
      have hltr := Nat.lt_of_lt_of_le hlt hb.size
      clear hs hc hsn
      cases hm : mayB x y with
      | true =>
        have Hm := Lib.hid hm
        clear hm
        go_wp2_with fail
        refine (check_is Hm.out _).mono ?_
        rintro e w1 ⟨rfl, hb1⟩
        have hc2 := old_cell hb1
        have hf2 := old_mark hb1
        have hb3 := (hb.alloc hb.size _).trans (hb1.mono (by have := hb.size; simp; omega))
        go_wp2
        all_goals
          go_roundw
          case rel => exact ⟨k + 1, by omega, by go_num, by have := Hsn.out; rw [if_pos Hm.out] at this; rw [this]; first | rfl | (refine congrArg (Value.int IntKind.i64) ?_; first | omega | (dsimp only; omega)), hb3⟩
          case measure => simp [RowKit.intOf]; omega
      | false =>
        have Hm := Lib.hid hm
        clear hm
        go_wp2_with fail
        refine (check_is Hm.out _).mono ?_
        rintro e w1 ⟨rfl, hb1⟩
        have hc2 := old_cell hb1
        have hf2 := old_mark hb1
        have hb3 := (hb.alloc hb.size _).trans (hb1.mono (by have := hb.size; simp; omega))
        go_wp2
        go_roundw
        case rel => exact ⟨k + 1, by omega, by go_num, by have := Hsn.out; rw [if_neg (by rw [Hm.out]; exact Bool.false_ne_true)] at this; rw [this], hb3⟩
        case measure => simp [RowKit.intOf]; omega
    · go_wp2
      go_ret
      have e : k = l.length := by omega
      exact ⟨ret_int (by rw [e, List.take_length]), hb⟩
set_option maxHeartbeats 1000000 in
theorem rseen_any (n : Int) (a : Option Addr) (c : Nat) (l : List (Int × Int)) (w : World) (h : IsS w a c l) (hll : l.length ≤ 1000000) :
    Calls Try.prog 19 #[.int .i64 n, .slice a l.length c] w fun e w' => e = .returned (.int .i64 (seenI n l)) ∧ Below w.heap.size w w' := by
  go_enter Try.func19, Try.ntmps19
  go_wp2
  go_loopw [0, 5] (fun m i w' => ∃ k : Nat, k ≤ l.length ∧ i = .int .i64 k ∧ m = .int .i64 (seenI n (l.take k)) ∧ Below w.heap.size w w') (fun _ i _ => l.length - (RowKit.intOf i).toNat)
  case atStart => exact ⟨0, Nat.zero_le _, rfl, rfl, Below.refl _ _⟩
  case round =>
    obtain ⟨k, hk, rfl, rfl, hb⟩ := hrel
    by_cases hkl : k < l.length
    · obtain ⟨b, o, rfl, hlt, hc⟩ := h.2 (fun e => by rw [e] at hkl; simp at hkl)
      obtain ⟨s, hs⟩ : ∃ s, l[k]? = some s := ⟨l[k], List.getElem?_eq_getElem hkl⟩
      obtain ⟨x, y⟩ := s
      have hsn := seenI_snoc n l k (x, y) hs
      have Hsn := Lib.hid hsn
      have hc0 : wr.cell? ⟨b, o + k * 2, none⟩ = some (.int .i64 x) := by rw [hb.cell (p := ⟨b, _, none⟩) hlt]; exact (hc k _ hs).1
      have hc1 : wr.cell? ⟨b, o + k * 2 + 1, none⟩ = some (.int .i64 y) := by rw [hb.cell (p := ⟨b, _, none⟩) hlt]; exact (hc k _ hs).2
      have hltr := Nat.lt_of_lt_of_le hlt hb.size
      clear hs hc hsn
      cases hm : mayB x y with
      | true =>
        have Hm := Lib.hid hm
        clear hm
        go_wp2_with fail
        refine (rcheck_is Hm.out _).mono ?_
        rintro e w1 ⟨rfl, hb1⟩
        have hc2 := old_cell hb1
        have hf2 := old_mark hb1
        have hb3 := hb.trans (hb1.mono hb.size)
        by_cases hg : seenI n (l.take k) < x
        all_goals
          go_wp2
          go_roundw
          case rel => exact ⟨k + 1, by omega, by go_num, by have := Hsn.out; rw [if_pos Hm.out] at this; rw [this]; first | rfl | (refine congrArg (Value.int IntKind.i64) ?_; first | omega | (dsimp only; omega)), hb3⟩
          case measure => simp [RowKit.intOf]; omega
      | false =>
        have Hm := Lib.hid hm
        clear hm
        go_wp2_with fail
        refine (rcheck_is Hm.out _).mono ?_
        rintro e w1 ⟨rfl, hb1⟩
        have hc2 := old_cell hb1
        have hf2 := old_mark hb1
        have hb3 := hb.trans (hb1.mono hb.size)
        go_wp2
        go_roundw
        case rel => exact ⟨k + 1, by omega, by go_num, by have := Hsn.out; rw [if_neg (by rw [Hm.out]; exact Bool.false_ne_true)] at this; rw [this], hb3⟩
        case measure => simp [RowKit.intOf]; omega
    · go_wp2
      go_ret
      have e : k = l.length := by omega
      exact ⟨ret_int (by rw [e, List.take_length]), hb⟩
theorem seen_is {n : Int} {a : Option Addr} {c : Nat} {l : List (Int × Int)} {m : Int} (e : seenI n l = m) (w : World) (h : IsS w a c l) (hll : l.length ≤ 1000000) :
    Calls Try.prog 18 #[.int .i64 n, .slice a l.length c] w fun e w' => e = .returned (.int .i64 m) ∧ Below w.heap.size w w' := by
  rw [← e]; exact seen_any n a c l w h (by omega)
theorem rseen_is {n : Int} {a : Option Addr} {c : Nat} {l : List (Int × Int)} {m : Int} (e : seenI n l = m) (w : World) (h : IsS w a c l) (hll : l.length ≤ 1000000) :
    Calls Try.prog 19 #[.int .i64 n, .slice a l.length c] w fun e w' => e = .returned (.int .i64 m) ∧ Below w.heap.size w w' := by
  rw [← e]; exact rseen_any n a c l w h hll
end Go.Proofs.Ytamnjmlnodhhmaa
