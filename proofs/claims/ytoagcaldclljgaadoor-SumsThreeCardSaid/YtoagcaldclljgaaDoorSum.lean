/-
  sums.Sum, and the document's: the sum of the bytes, step by step.
-/
import Derived.Test.YtoagcaldclljgaaDoorEight
import Derived.Deep.QuietTactic
import Derived.BigQuiet
namespace Go.Proofs.YtoagcaldclljgaaDoor
open Go.RowKit Go.Lib
open Crc (W)
/-- What a slice of texts that is read holds: the texts l, and room for c. -/
def IsL (w : World) (a : Option Addr) (c : Nat) (l : List ByteArray) : Prop :=
  l.length ≤ c ∧ (l ≠ [] → ∃ b o, a = some ⟨b, o, none⟩ ∧ b < w.heap.size ∧ ∀ j x, l[j]? = some x → w.cell? ⟨b, o + j, none⟩ = some (.string x))
theorem IsL.below {w w' : World} {a : Option Addr} {c : Nat} {l : List ByteArray} (h : IsL w a c l) (hb : Below w.heap.size w w') : IsL w' a c l :=
  ⟨h.1, fun hne => by
    obtain ⟨b, o, e, hlt, hc⟩ := h.2 hne
    exact ⟨b, o, e, Nat.lt_of_lt_of_le hlt hb.size, fun j x hj => by rw [hb.cell (p := ⟨b, o + j, none⟩) hlt]; exact hc j x hj⟩⟩
/-- The texts, one behind the other. -/
def flatB (l : List ByteArray) : List UInt8 := l.flatMap fun x => x.data.toList
theorem flat_succ (l : List ByteArray) (k : Nat) (x : ByteArray) (h : l[k]? = some x) : flatB (l.take (k + 1)) = flatB (l.take k) ++ x.data.toList := by
  unfold flatB
  rw [List.take_add_one, h]; simp
def init : W := 4294967295#32
theorem sumFrom_take_succ (v : W) (l : List UInt8) (j : Nat) (x : UInt8) (h : l[j]? = some x) : Crc.sumFrom v (l.take (j + 1)) = Crc.steps 8 (Crc.sumFrom v (l.take j) ^^^ Crc.top x) := by
  rw [List.take_add_one, h]
  simp only [Option.toList]
  rw [Crc.sumFrom_append]; rfl
theorem byte_at (s : ByteArray) (j : Nat) (h : j < s.size) : s.data.toList[j]? = some s[j] := by
  have h2 : s.data.size = s.size := rfl
  rw [Array.getElem?_toList, Array.getElem?_eq_getElem (by omega)]
  rfl
theorem sum_byte (v : W) (s : ByteArray) (j : Nat) (h : j < s.size) :
    bits .xor .u32 (((Crc.sumFrom v (s.data.toList.take j)).toNat : Nat) : Int) ((s[j].toNat : Int) % (4294967296 : Int) * (16777216 : Int) % (4294967296 : Int)) = (((Crc.sumFrom v (s.data.toList.take j) ^^^ Crc.top s[j]).toNat : Nat) : Int) := by
  have e : (s[j].toNat : Int) % (4294967296 : Int) = (s[j].toNat : Int) := by have := s[j].toNat_lt; omega
  rw [e]; exact Crc.add_byte _ _
theorem take_all (s : ByteArray) : s.data.toList.take s.size = s.data.toList := List.take_of_length_le (Nat.le_of_eq (by simp))
set_option maxHeartbeats 2000000 in
theorem sum_any (a : Option Addr) (c : Nat) (l : List ByteArray) (w : World) (ht : HasTab w) (h : IsL w a c l) (hll : l.length ≤ 1000000) (hs : ∀ x ∈ l, x.size ≤ 1000000) :
    Calls Tryd.prog 11 #[.slice a l.length c] w fun e w' => e = .returned (U (Crc.sum (flatB l))) ∧ w' = w := by
  go_enter Tryd.func11, Tryd.ntmps11
  go_wp2
  go_loop [3, 9] (fun n i => ∃ k : Nat, k ≤ l.length ∧ i = .int .i64 k ∧ n = U (Crc.sumFrom init (flatB (l.take k)))) (fun _ i => l.length - (RowKit.intOf i).toNat)
  case atStart => exact ⟨0, Nat.zero_le _, rfl, rfl⟩
  case round =>
    obtain ⟨k, hk, rfl, rfl⟩ := hrel
    by_cases hkl : k < l.length
    · obtain ⟨b, o, rfl, hlt, hc⟩ := h.2 (fun e => by rw [e] at hkl; simp at hkl)
      obtain ⟨x, hx⟩ : ∃ x, l[k]? = some x := ⟨l[k], List.getElem?_eq_getElem hkl⟩
      have Hx := Lib.hid hx
      have hcell : w.cell? ⟨b, o + k, none⟩ = some (.string x) := hc k x hx
      have hsx := hs x (List.mem_of_getElem? hx)
      clear hx hc
      go_wp2
      obtain ⟨v, hv⟩ : ∃ v, Crc.sumFrom init (flatB (l.take k)) = v := ⟨_, rfl⟩
      rw [hv]
      go_loop [3, 15] (fun n i => ∃ j : Nat, j ≤ x.size ∧ i = .int .i64 j ∧ n = U (Crc.sumFrom v (x.data.toList.take j))) (fun _ i => x.size - (RowKit.intOf i).toNat)
      case atStart => exact ⟨0, Nat.zero_le _, rfl, rfl⟩
      case round =>
        obtain ⟨j, hj, rfl, rfl⟩ := hrel
        by_cases hjx : j < x.size
        · have hx8 := sum_byte v x j hjx
          have Hn := Lib.hid (sumFrom_take_succ v x.data.toList j _ (byte_at x j hjx))
          generalize Crc.sumFrom v (x.data.toList.take j) = v1 at hx8 Hn ⊢
          generalize Crc.top x[j] = tp at hx8 Hn
          obtain ⟨v2, hv2⟩ : ∃ v2, v1 ^^^ tp = v2 := ⟨_, rfl⟩
          rw [hv2] at hx8 Hn
          clear hv2
          go_wp2_with (go_at_call 18; refine (eight_any v2 _ ht).mono ?_; rintro e w1 ⟨rfl, rfl⟩)
          go_round
          case rel => exact ⟨j + 1, by omega, by go_num, by rw [Hn.out]⟩
          case measure => simp [RowKit.intOf]; omega
        · have e : j = x.size := by omega
          subst e
          rw [take_all]
          go_wp2
          go_round
          case rel => exact ⟨k + 1, by omega, by go_num, by rw [flat_succ _ _ _ Hx.out, Crc.sumFrom_append, hv]⟩
          case measure => simp [RowKit.intOf]; omega
    · have e : k = l.length := by omega
      subst e
      rw [List.take_length]
      go_wp2
      go_ret
      exact ⟨rfl, rfl⟩
theorem ref_round (v : W) (i : Nat) : Crc.steps (i + 1) v = Crc.step (Crc.steps i v) := by
  rw [Crc.steps_add]; rfl
set_option maxHeartbeats 2000000 in
theorem rsum_any (s : ByteArray) (w : World) (hs : s.size ≤ 1000000) :
    Calls Tryd.prog 12 #[.string s] w fun e w' => e = .returned (U (Crc.sum s.data.toList)) ∧ w' = w := by
  go_enter Tryd.func12, Tryd.ntmps12
  go_wp2
  go_loop [3, 4] (fun n i => ∃ j : Nat, j ≤ s.size ∧ i = .int .i64 j ∧ n = U (Crc.sumFrom init (s.data.toList.take j))) (fun _ i => s.size - (RowKit.intOf i).toNat)
  case atStart => exact ⟨0, Nat.zero_le _, rfl, rfl⟩
  case round =>
    obtain ⟨j, hj, rfl, rfl⟩ := hrel
    by_cases hjx : j < s.size
    · have hx8 := sum_byte init s j hjx
      have Hn := Lib.hid (sumFrom_take_succ init s.data.toList j _ (byte_at s j hjx))
      generalize Crc.sumFrom init (s.data.toList.take j) = v1 at hx8 Hn ⊢
      generalize Crc.top s[j] = tp at hx8 Hn
      obtain ⟨v2, hv2⟩ : ∃ v2, v1 ^^^ tp = v2 := ⟨_, rfl⟩
      rw [hv2] at hx8 Hn
      clear hv2
      go_wp2
      go_loop [3, 5] (fun n i => ∃ q : Nat, q ≤ 8 ∧ i = .int .i64 q ∧ n = U (Crc.steps q v2)) (fun _ i => 8 - (RowKit.intOf i).toNat)
      case atStart => exact ⟨0, Nat.zero_le _, rfl, rfl⟩
      case round =>
        obtain ⟨q, hq, rfl, rfl⟩ := hrel
        by_cases hq8 : q < 8
        · have Hq := Lib.hid (ref_round v2 q)
          generalize Crc.steps q v2 = v3 at Hq ⊢
          go_wp2_with (go_at_call 19; refine (rstep_any _ _).mono ?_; rintro e w1 ⟨rfl, rfl⟩)
          go_round
          case rel => exact ⟨q + 1, by omega, by go_num, by rw [Hq.out]⟩
          case measure => simp [RowKit.intOf]; omega
        · have e : q = 8 := by omega
          subst e
          go_wp2
          go_round
          case rel => exact ⟨j + 1, by omega, by go_num, by rw [Hn.out]⟩
          case measure => simp [RowKit.intOf]; omega
    · have e : j = s.size := by omega
      subst e
      rw [take_all]
      go_wp2
      go_ret
      exact ⟨rfl, rfl⟩
end Go.Proofs.YtoagcaldclljgaaDoor
