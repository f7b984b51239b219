/-
  The document's answers of layer 4: One, Size, Put, Take, Text, TakeText.
-/
import Derived.Test.YtnlhbaaoknbejaaByteTexts
namespace Go.Proofs.Ytnlhbaaoknbejaa
open Go.RowKit Go.Lib
set_option maxHeartbeats 2000000 in
theorem rone_any (n : Nat) (hn : n < 9223372036854775808) (w : World) :
    Calls Try.prog 21 #[.int .i64 n] w fun e w' => e = .returned (.string (ofL (Vlq.one n))) ∧ Below w.heap.size w w' := by
  obtain ⟨q, hq⟩ : ∃ q, n / 128 = q := ⟨_, rfl⟩
  have hq2 : (n : Int) / 128 = (q : Int) := by omega
  have hz := high_size q (by omega)
  obtain ⟨hs, hhs⟩ : ∃ s, ofL (Vlq.high q) = s := ⟨_, rfl⟩
  rw [hhs] at hz
  obtain ⟨x, hx⟩ : ∃ x, UInt8.ofNat (n % 128) = x := ⟨_, rfl⟩
  have hxn := Vlq.low_toNat n
  rw [hx] at hxn
  have hx2 : (n : Int) % 128 = ((x.toNat : Nat) : Int) := by omega
  have hz2 : ¬ 9223372036854775807 < (ofL (Vlq.high q)).size + (ofL [x]).size := by rw [hhs, ofL_size]; simp; omega
  have hres : ofL (Vlq.one n) = ofL (Vlq.high q) ++ ofL [x] := by unfold Vlq.one; rw [hq, ← ofL_append, hx]
  rw [hres]
  clear hhs hx hres hxn hz
  go_enter Try.func21, Try.ntmps21
  go_wp2_with fail
  refine wp_region_r (by kernel_rfl) (by kernel_rfl) ?_
  repeat (refine wpR_pure (fun K hK => ?_); go_simp; (try go_ints); refine hK _ ?_; clear hK K)
  refine wpR_pure (fun K hK => ?_)
  go_simp
  apply Exists.intro
  refine ⟨fun m => ?_, hK _ ?_⟩
  · go_at_call 25
    exact rhigh_any q (by omega) _
  clear hK K
  repeat (refine wpR_pure (fun K hK => ?_); go_simp; (try go_ints); refine hK _ ?_; clear hK K)
  refine wpR_make (IsBy [x]) (IsBy.stable _) (fun xs n _ => ?_) (fun K hK => ?_)
  · unfold relOp; go_simp; simp only [relUpon]
    exact ⟨isBy_new1 _ _ _, (Below.refl _ _).alloc (Nat.le_refl _) _⟩
  go_simp; (try go_ints); refine hK _ ?_; clear hK K
  repeat (refine wpR_pure (fun K hK => ?_); go_simp; (try go_ints); refine hK _ ?_; clear hK K)
  refine wpR_use (.string (ofL [x])) (fun xs n hf => ?_) (fun K hK => ?_)
  · obtain ⟨g, c, e, _, hc⟩ := fact_at hf 0 rfl (by kernel_rfl)
    have hr : (convert 41 9 (.slice (some ⟨g, 0, none⟩) 1 c)).run Try.prog n.w = .ok (.string (ofL [x])) n.w := text_of hc
    go_simp
  go_simp; (try go_ints); refine hK _ ?_; clear hK K
  repeat (refine wpR_pure (fun K hK => ?_); go_simp; (try go_ints); refine hK _ ?_; clear hK K)
  refine wpR_nil (fun xs n _ => ?_)
  have b2 := n.below
  generalize n.w = w2 at b2 ⊢
  go_wp2
  go_ret
  exact ⟨rfl, b2⟩
def sizeI (n : Int) : Int := if n < 0 then 0 else ((Vlq.one n.toNat).length : Nat)
set_option maxHeartbeats 2000000 in
theorem rsize_any (n : Int) (hn : n ≤ 9223372036854775807) (w : World) :
    Calls Try.prog 19 #[.int .i64 n] w fun e w' => e = .returned (.int .i64 (sizeI n)) ∧ Below w.heap.size w w' := by
  by_cases h : n < 0
  · have e : sizeI n = 0 := by unfold sizeI; rw [if_pos h]
    rw [e]
    go_enter Try.func19, Try.ntmps19
    go_wp2
    go_ret
    exact ⟨rfl, Below.refl _ _⟩
  · have e : sizeI n = ((Vlq.one n.toNat).length : Nat) := by unfold sizeI; rw [if_neg h]
    obtain ⟨k, rfl⟩ : ∃ k : Nat, n = (k : Int) := ⟨n.toNat, by omega⟩
    rw [e, Int.toNat_natCast]
    clear e
    go_enter Try.func19, Try.ntmps19
    go_wp2_with fail
    refine (rone_any k (by omega) _).mono ?_
    rintro e w1 ⟨rfl, b1⟩
    go_wp2
    go_ret
    exact ⟨by rw [← ofL_size]; rfl, b1⟩
/-- What a slice of ints that is read holds: the numbers l, and room for c. -/
def IsI (w : World) (a : Option Addr) (c : Nat) (l : List Int) : Prop :=
  l.length ≤ c ∧ (l ≠ [] → ∃ b o, a = some ⟨b, o, none⟩ ∧ b < w.heap.size ∧ ∀ j x, l[j]? = some x → w.cell? ⟨b, o + j, none⟩ = some (.int .i64 x))
theorem IsI.below {w w' : World} {a : Option Addr} {c : Nat} {l : List Int} (h : IsI w a c l) (hb : Below w.heap.size w w') : IsI w' a c l :=
  ⟨h.1, fun hne => by
    obtain ⟨b, o, e, hlt, hc⟩ := h.2 hne
    exact ⟨b, o, e, Nat.lt_of_lt_of_le hlt hb.size, fun j x hj => by rw [hb.cell (p := ⟨b, o + j, none⟩) hlt]; exact hc j x hj⟩⟩
def negB (l : List Int) : Bool := l.any fun n => decide (n < 0)
def putS (b : ByteArray) (l : List Int) : ByteArray := if negB l then ⟨#[]⟩ else b ++ ofL (Vlq.ones l)
def putE (l : List Int) : Int := if negB l then 40 else 0
theorem neg_take {l : List Int} {k : Nat} {x : Int} (h : l[k]? = some x) : negB (l.take (k + 1)) = (negB (l.take k) || decide (x < 0)) := by
  unfold negB
  rw [List.take_add_one, h]; simp
theorem neg_at {l : List Int} {k : Nat} {x : Int} (h : l[k]? = some x) (hx : x < 0) : negB l = true := by
  unfold negB
  rw [List.any_eq_true]
  exact ⟨x, List.mem_of_getElem? h, by simpa using hx⟩
theorem ones_take {l : List Int} {k : Nat} {x : Int} (h : l[k]? = some x) : Vlq.ones (l.take (k + 1)) = Vlq.ones (l.take k) ++ Vlq.one x.toNat := by
  rw [List.take_add_one, h]
  exact Vlq.ones_snoc _ _
theorem take_le {l : List Int} (h : ∀ x ∈ l, x ≤ 9223372036854775807) (k : Nat) : (Vlq.ones (l.take k)).length ≤ 9 * l.length := by
  have := Vlq.ones_len (l := l.take k) (fun x hx => h x (List.mem_of_mem_take hx))
  have h2 : (l.take k).length ≤ l.length := List.length_take_le' _ _
  omega
set_option maxHeartbeats 2000000 in
theorem rput_any (b : ByteArray) (a : Option Addr) (c : Nat) (l : List Int) (w : World) (hb : b.size ≤ 1000000) (h : IsI w a c l) (hl : l.length ≤ 1000000) (hi : ∀ x ∈ l, x ≤ 9223372036854775807) :
    Calls Try.prog 11 #[.string b, .slice a l.length c] w fun e w' => e = .returned (.tuple #[.string (putS b l), .int .i64 (putE l)]) ∧ Below w.heap.size w w' := by
  go_enter Try.func11, Try.ntmps11
  go_wp2
  go_loopw [0, 6] (fun s i w' => ∃ k : Nat, k ≤ l.length ∧ i = .int .i64 k ∧ s = .string (b ++ ofL (Vlq.ones (l.take k))) ∧ negB (l.take k) = false ∧ Below w.heap.size w w') (fun _ i _ => l.length - (RowKit.intOf i).toNat)
  case atStart => exact ⟨0, Nat.zero_le _, rfl, by congr 1; exact (by apply ByteArray.ext; simp [ofL, Vlq.ones]), rfl, Below.refl _ _⟩
  case round =>
    obtain ⟨k, hk, rfl, rfl, hng, ck⟩ := hrel
    have Hng := Lib.hid hng
    clear hng
    by_cases hkl : k < l.length
    · obtain ⟨g, o, rfl, hlt, hc⟩ := h.2 (fun e => by rw [e] at hkl; simp at hkl)
      obtain ⟨x, hx⟩ : ∃ x, l[k]? = some x := ⟨l[k], List.getElem?_eq_getElem hkl⟩
      have hcell : wr.cell? ⟨g, o + k, none⟩ = some (.int .i64 x) := by rw [ck.cell (p := ⟨g, o + k, none⟩) hlt]; exact hc k x hx
      have hxl := hi x (List.mem_of_getElem? hx)
      have Hx := Lib.hid hx
      clear hx hc
      by_cases hx0 : x < 0
      · have Hn := Lib.hid (neg_at Hx.out hx0)
        go_wp2
        go_ret2
        exact ⟨by unfold putS putE; rw [Hn.out]; rfl, ck⟩
      · have Hn := Lib.hid (neg_take Hx.out)
        have Ho := Lib.hid (ones_take Hx.out)
        obtain ⟨m, rfl⟩ : ∃ m : Nat, x = (m : Int) := ⟨x.toNat, by omega⟩
        have hm9 := Vlq.one_nine (n := m) (by omega)
        have hsz := take_le hi k
        obtain ⟨s, hs⟩ : ∃ s, b ++ ofL (Vlq.ones (l.take k)) = s := ⟨_, rfl⟩
        have hss : s.size ≤ 10000000 := by rw [← hs, ByteArray.size_append, ofL_size]; omega
        have hz : s.size + (ofL (Vlq.one m)).size ≤ 140737488355328 := by rw [ofL_size]; omega
        have HS := Lib.hid hs
        rw [hs]
        clear hs hsz
        go_wp2_with fail
        refine (rone_any m (by omega) _).mono ?_
        rintro e w1 ⟨rfl, c1⟩
        have b1 := step_b ck c1
        go_wp2_with fail
        go_roundw
        case rel => exact ⟨k + 1, by omega, by go_num, by rw [Ho.out, ← ofL_append, ← ByteArray.append_assoc, HS.out]; rfl, by rw [Hn.out, Hng.out]; simp, b1⟩
        case measure => simp [RowKit.intOf]; omega
    · have e : k = l.length := by omega
      subst e
      rw [List.take_length] at Hng ⊢
      go_wp2
      go_ret2
      exact ⟨by unfold putS putE; rw [Hng.out]; rfl, ck⟩
set_option maxHeartbeats 2000000 in
theorem rtext_any (b t : ByteArray) (w : World) (hb : b.size ≤ 1000000) (ht : t.size ≤ 1000000) :
    Calls Try.prog 17 #[.string b, .string t] w fun e w' => e = .returned (.string (b ++ ofL (Vlq.one t.size) ++ t)) ∧ Below w.heap.size w w' := by
  have h9 := Vlq.one_nine (n := t.size) (by omega)
  have hz : b.size + (ofL (Vlq.one t.size)).size ≤ 140737488355328 := by rw [ofL_size]; omega
  obtain ⟨s, hs⟩ : ∃ s, b ++ ofL (Vlq.one t.size) = s := ⟨_, rfl⟩
  have hss : s.size ≤ 10000000 := by rw [← hs, ByteArray.size_append, ofL_size]; omega
  have hz2 : s.size + t.size ≤ 140737488355328 := by omega
  rw [hs]
  go_enter Try.func17, Try.ntmps17
  go_wp2_with fail
  refine (rone_any t.size (by omega) _).mono ?_
  rintro e w1 ⟨rfl, b1⟩
  go_wp2
  go_ret
  exact ⟨rfl, b1⟩
end Go.Proofs.Ytnlhbaaoknbejaa
