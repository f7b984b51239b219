/-
  Slices of bytes that are made on the way, and the texts of them; the document's digits.
-/
import Derived.Test.YtjhllkjcaodcgaaChecked
import Derived.Test.YtjhllkjcaodcgaaRel
import Derived.Test.YtjhllkjcaodcgaaDigits
import Derived.WalkKit
import Derived.WalkLawsBesides
import Derived.WalkMore
import Derived.Lib.Hide
import Derived.Laws.BytesString
import Derived.Laws.IdiomStrings
import Derived.LoopTactic
import Derived.Deep.DeepCutAuto
namespace Go.Proofs.Ytjhllkjcaodcgaa
open Go.RowKit Go.Lib
theorem step_a {w W w1 : World} {o : Obj} (b : Below w.heap.size w W) (hb : Below (W.alloc o).heap.size (W.alloc o) w1) : Below w.heap.size w w1 :=
  (b.alloc b.size o).trans (hb.mono (by have := b.size; simp; omega))
theorem step_b {w W w1 : World} (b : Below w.heap.size w W) (hb : Below W.heap.size W w1) : Below w.heap.size w w1 := b.trans (hb.mono b.size)
def ofL (l : List UInt8) : ByteArray := ⟨l.toArray⟩
theorem ofL_size (l : List UInt8) : (ofL l).size = l.length := rfl
theorem ofL_append (a b : List UInt8) : ofL a ++ ofL b = ofL (a ++ b) := by
  apply ByteArray.ext; apply Array.ext'; simp [ofL]
theorem ofL_data (s : ByteArray) : ofL s.data.toList = s := by
  apply ByteArray.ext; apply Array.ext'; simp [ofL]
theorem data_ofL (l : List UInt8) : (ofL l).data.toList = l := by simp [ofL]
/-- A slice of these bytes. -/
def IsBy (l : List UInt8) (v : Value) (w : World) : Prop :=
  ∃ g c, v = .slice (some ⟨g, 0, none⟩) l.length c ∧ g < w.heap.size ∧ ∀ j y, l[j]? = some y → w.cell? ⟨g, j, none⟩ = some (.int .u8 ((y.toNat : Nat) : Int))
theorem IsBy.stable (l : List UInt8) (v : Value) (w w' : World) (h : IsBy l v w) (hb : Below w.heap.size w w') : IsBy l v w' := by
  obtain ⟨g, c, e, hg, hc⟩ := h
  exact ⟨g, c, e, Nat.lt_of_lt_of_le hg hb.size, fun j y hj => by rw [hb.cell (p := ⟨g, j, none⟩) hg]; exact hc j y hj⟩
theorem isBy_new1 (w : World) (x : UInt8) (t : TypeId) : IsBy [x] (.slice (some ⟨w.heap.size, 0, none⟩) 1 1) (w.alloc (.cells #[.int .u8 ((x.toNat : Nat) : Int)] t)) :=
  ⟨_, _, rfl, by simp, fun j y hj => by
    cases j with
    | zero => simp at hj; subst hj; rw [World.cell?_alloc_at _ _ _ _ rfl]; rfl
    | succ j => simp at hj⟩
/-- The text of a slice of known bytes. -/
theorem text_of {l : List UInt8} {g c : Nat} {w : World} (h : ∀ j y, l[j]? = some y → w.cell? ⟨g, j, none⟩ = some (.int .u8 ((y.toNat : Nat) : Int))) :
    (convert 62 9 (.slice (some ⟨g, 0, none⟩) l.length c)).run Try.prog w = .ok (.string (ofL l)) w := by
  refine run_convert_bytes_back w _ _ _ ⟨g, 0, none⟩ c l Try.underlying62 Try.underlying5 Try.underlying9 ?_
  intro j hj
  have hp : (⟨g, 0, none⟩ : Addr).add j = ⟨g, j, none⟩ := by unfold Addr.add; split <;> simp_all
  rw [hp]
  exact h j _ (List.getElem?_eq_getElem hj)
theorem high_size (n : Nat) (h : n < 9223372036854775808) : (ofL (Vlq.high n)).size ≤ 9 := by
  rw [ofL_size]
  exact Vlq.high_len n 9 (by have : (128 : Nat) ^ 9 = 9223372036854775808 := by decide
                             omega)
set_option maxRecDepth 100000 in
set_option maxHeartbeats 2000000 in
theorem rhigh_any (n : Nat) (hn : n < 9223372036854775808) (w : World) :
    Calls Try.prog 55 #[.int .i64 n] w fun e w' => e = .returned (.string (ofL (Vlq.high n))) ∧ Below w.heap.size w w' := by
  induction n using Nat.strongRecOn generalizing w with
  | _ n ih =>
    by_cases h : n = 0
    · subst h
      rw [Vlq.high_zero]
      go_enter Try.func55, Try.ntmps55
      go_wp2
      go_ret
      exact ⟨rfl, Below.refl _ _⟩
    · have hnz : ((n : Int) == 0) = false := by rw [beq_eq_false_iff_ne]; omega
      obtain ⟨q, hq⟩ : ∃ q, n / 128 = q := ⟨_, rfl⟩
      have hq2 : (n : Int) / 128 = (q : Int) := by omega
      have IH := Lib.hid (fun w => ih q (by omega) (by omega) w)
      have hz := high_size q (by omega)
      obtain ⟨hs, hhs⟩ : ∃ s, ofL (Vlq.high q) = s := ⟨_, rfl⟩
      rw [hhs] at hz IH
      obtain ⟨x, hx⟩ : ∃ x, UInt8.ofNat (n % 128 + 128) = x := ⟨_, rfl⟩
      have hxn := Vlq.up_toNat n
      rw [hx] at hxn
      have hx2 : (n : Int) % 128 + 128 = ((x.toNat : Nat) : Int) := by omega
      have hz2 : ¬ 9223372036854775807 < hs.size + (ofL [x]).size := by rw [ofL_size]; simp; omega
      have hres : ofL (Vlq.high n) = hs ++ ofL [x] := by rw [Vlq.high_pos h, hq, ← ofL_append, hhs, hx]
      rw [hres]
      clear hhs hx hres ih hxn hq
      go_enter Try.func55, Try.ntmps55
      go_wp2_with fail
      refine wp_region_r (by kernel_rfl) (by kernel_rfl) ?_
      repeat (refine wpR_pure (fun K hK => ?_); go_simp; (try go_ints); refine hK _ ?_; clear hK K)
      refine wpR_pure (fun K hK => ?_)
      go_simp
      apply Exists.intro
      refine ⟨fun m => ?_, hK _ ?_⟩
      · go_at_call 55
        exact IH.out _
      clear hK K
      repeat (refine wpR_pure (fun K hK => ?_); go_simp; (try go_ints); refine hK _ ?_; clear hK K)
      refine wpR_make (IsBy [x]) (IsBy.stable _) (fun xs n _ => ?_) (fun K hK => ?_)
      · unfold relOp; go_simp; simp only [relUpon]
        exact ⟨isBy_new1 _ x _, (Below.refl _ _).alloc (Nat.le_refl _) _⟩
      go_simp; (try go_ints); refine hK _ ?_; clear hK K
      repeat (refine wpR_pure (fun K hK => ?_); go_simp; (try go_ints); refine hK _ ?_; clear hK K)
      refine wpR_use (.string (ofL [x])) (fun xs n hf => ?_) (fun K hK => ?_)
      · obtain ⟨g, c, e, _, hc⟩ := fact_at hf 0 rfl (by kernel_rfl)
        have hr : (convert 62 9 (.slice (some ⟨g, 0, none⟩) 1 c)).run Try.prog n.w = .ok (.string (ofL [x])) n.w := text_of hc
        go_simp
      go_simp; (try go_ints); refine hK _ ?_; clear hK K
      repeat (refine wpR_pure (fun K hK => ?_); go_simp; (try go_ints); refine hK _ ?_; clear hK K)
      refine wpR_nil (fun xs n _ => ?_)
      have b2 := n.below
      generalize n.w = w2 at b2 ⊢
      go_wp2
      go_ret
      exact ⟨rfl, b2⟩
end Go.Proofs.Ytjhllkjcaodcgaa
