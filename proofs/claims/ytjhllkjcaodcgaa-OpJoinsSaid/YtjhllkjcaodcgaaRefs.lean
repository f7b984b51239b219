/-
  The document's answers of layer 4: One, Size, Put, Take, Text, TakeText.
-/
import Derived.Test.YtjhllkjcaodcgaaByteTexts
namespace Go.Proofs.Ytjhllkjcaodcgaa
open Go.RowKit Go.Lib
set_option maxRecDepth 100000 in
set_option maxHeartbeats 2000000 in
theorem rone_any (n : Nat) (hn : n < 9223372036854775808) (w : World) :
    Calls Try.prog 46 #[.int .i64 n] w fun e w' => e = .returned (.string (ofL (Vlq.one n))) ∧ Below w.heap.size w w' := by
  obtain ⟨q, hq⟩ : ∃ q, n / 128 = q := ⟨_, rfl⟩
  have hq2 : (n : Int) / 128 = (q : Int) := by omega
  have hz := high_size q (by omega)
  obtain ⟨hs, hhs⟩ : ∃ s, ofL (Vlq.high q) = s := ⟨_, rfl⟩
  rw [hhs] at hz
  obtain ⟨x, hx⟩ : ∃ x, UInt8.ofNat (n % 128) = x := ⟨_, rfl⟩
  have hxn := Vlq.low_toNat n
  rw [hx] at hxn
  have hx2 : (n : Int) % 128 = ((x.toNat : Nat) : Int) := by omega
  have hz2 : ¬ 9223372036854775807 < (ofL (Vlq.high q)).size + (ofL [x]).size := by rw [hhs, ofL_size]; simp; omega
  have hres : ofL (Vlq.one n) = ofL (Vlq.high q) ++ ofL [x] := by unfold Vlq.one; rw [hq, ← ofL_append, hx]
  rw [hres]
  clear hhs hx hres hxn hz
  go_enter Try.func46, Try.ntmps46
  go_wp2_with fail
  refine wp_region_r (by kernel_rfl) (by kernel_rfl) ?_
  repeat (refine wpR_pure (fun K hK => ?_); go_simp; (try go_ints); refine hK _ ?_; clear hK K)
  refine wpR_pure (fun K hK => ?_)
  go_simp
  apply Exists.intro
  refine ⟨fun m => ?_, hK _ ?_⟩
  · go_at_call 55
    exact rhigh_any q (by omega) _
  clear hK K
  repeat (refine wpR_pure (fun K hK => ?_); go_simp; (try go_ints); refine hK _ ?_; clear hK K)
  refine wpR_make (IsBy [x]) (IsBy.stable _) (fun xs n _ => ?_) (fun K hK => ?_)
  · unfold relOp; go_simp; simp only [relUpon]
    exact ⟨isBy_new1 _ _ _, (Below.refl _ _).alloc (Nat.le_refl _) _⟩
  go_simp; (try go_ints); refine hK _ ?_; clear hK K
  repeat (refine wpR_pure (fun K hK => ?_); go_simp; (try go_ints); refine hK _ ?_; clear hK K)
  refine wpR_use (.string (ofL [x])) (fun xs n hf => ?_) (fun K hK => ?_)
  · obtain ⟨g, c, e, _, hc⟩ := fact_at hf 0 rfl (by kernel_rfl)
    have hr : (convert 62 9 (.slice (some ⟨g, 0, none⟩) 1 c)).run Try.prog n.w = .ok (.string (ofL [x])) n.w := text_of hc
    go_simp
  go_simp; (try go_ints); refine hK _ ?_; clear hK K
  repeat (refine wpR_pure (fun K hK => ?_); go_simp; (try go_ints); refine hK _ ?_; clear hK K)
  refine wpR_nil (fun xs n _ => ?_)
  have b2 := n.below
  generalize n.w = w2 at b2 ⊢
  go_wp2
  go_ret
  exact ⟨rfl, b2⟩
def sizeI (n : Int) : Int := if n < 0 then 0 else ((Vlq.one n.toNat).length : Nat)
/-- What a slice of ints that is read holds: the numbers l, and room for c. -/
def IsI (w : World) (a : Option Addr) (c : Nat) (l : List Int) : Prop :=
  l.length ≤ c ∧ (l ≠ [] → ∃ b o, a = some ⟨b, o, none⟩ ∧ b < w.heap.size ∧ ∀ j x, l[j]? = some x → w.cell? ⟨b, o + j, none⟩ = some (.int .i64 x))
theorem IsI.below {w w' : World} {a : Option Addr} {c : Nat} {l : List Int} (h : IsI w a c l) (hb : Below w.heap.size w w') : IsI w' a c l :=
  ⟨h.1, fun hne => by
    obtain ⟨b, o, e, hlt, hc⟩ := h.2 hne
    exact ⟨b, o, e, Nat.lt_of_lt_of_le hlt hb.size, fun j x hj => by rw [hb.cell (p := ⟨b, o + j, none⟩) hlt]; exact hc j x hj⟩⟩
def negB (l : List Int) : Bool := l.any fun n => decide (n < 0)
def putS (b : ByteArray) (l : List Int) : ByteArray := if negB l then ⟨#[]⟩ else b ++ ofL (Vlq.ones l)
def putE (l : List Int) : Int := if negB l then 40 else 0
theorem neg_take {l : List Int} {k : Nat} {x : Int} (h : l[k]? = some x) : negB (l.take (k + 1)) = (negB (l.take k) || decide (x < 0)) := by
  unfold negB
  rw [List.take_add_one, h]; simp
theorem neg_at {l : List Int} {k : Nat} {x : Int} (h : l[k]? = some x) (hx : x < 0) : negB l = true := by
  unfold negB
  rw [List.any_eq_true]
  exact ⟨x, List.mem_of_getElem? h, by simpa using hx⟩
theorem ones_take {l : List Int} {k : Nat} {x : Int} (h : l[k]? = some x) : Vlq.ones (l.take (k + 1)) = Vlq.ones (l.take k) ++ Vlq.one x.toNat := by
  rw [List.take_add_one, h]
  exact Vlq.ones_snoc _ _
theorem take_le {l : List Int} (h : ∀ x ∈ l, x ≤ 9223372036854775807) (k : Nat) : (Vlq.ones (l.take k)).length ≤ 9 * l.length := by
  have := Vlq.ones_len (l := l.take k) (fun x hx => h x (List.mem_of_mem_take hx))
  have h2 : (l.take k).length ≤ l.length := List.length_take_le' _ _
  omega
set_option maxRecDepth 100000 in
set_option maxHeartbeats 2000000 in
theorem rtext_any (b t : ByteArray) (w : World) (hb : b.size ≤ 1000000) (ht : t.size ≤ 1000000) :
    Calls Try.prog 47 #[.string b, .string t] w fun e w' => e = .returned (.string (b ++ ofL (Vlq.one t.size) ++ t)) ∧ Below w.heap.size w w' := by
  have h9 := Vlq.one_nine (n := t.size) (by omega)
  have hz : b.size + (ofL (Vlq.one t.size)).size ≤ 140737488355328 := by rw [ofL_size]; omega
  obtain ⟨s, hs⟩ : ∃ s, b ++ ofL (Vlq.one t.size) = s := ⟨_, rfl⟩
  have hss : s.size ≤ 10000000 := by rw [← hs, ByteArray.size_append, ofL_size]; omega
  have hz2 : s.size + t.size ≤ 140737488355328 := by omega
  rw [hs]
  go_enter Try.func47, Try.ntmps47
  go_wp2_with fail
  refine (rone_any t.size (by omega) _).mono ?_
  rintro e w1 ⟨rfl, b1⟩
  go_wp2
  go_ret
  exact ⟨rfl, b1⟩
end Go.Proofs.Ytjhllkjcaodcgaa
