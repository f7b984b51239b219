/-
  sums.Seal, Open, and the document's.
-/
import Derived.Test.YtoagcaldclljgaaDoorSeals
import Derived.Test.YtoagcaldclljgaaDoorRel
namespace Go.Proofs.YtoagcaldclljgaaDoor
open Go.RowKit Go.Lib
open Crc (W)
theorem step_a {w W w1 : World} {o : Obj} (b : Below w.heap.size w W) (hb : Below (W.alloc o).heap.size (W.alloc o) w1) : Below w.heap.size w w1 :=
  (b.alloc b.size o).trans (hb.mono (by have := b.size; simp; omega))
theorem step_b {w W w1 : World} (b : Below w.heap.size w W) (hb : Below W.heap.size W w1) : Below w.heap.size w w1 := b.trans (hb.mono b.size)
/-- A slice of these texts. -/
def IsT (l : List ByteArray) (v : Value) (w : World) : Prop := ∃ a c, v = .slice a l.length c ∧ IsL w a c l
theorem IsT.stable (l : List ByteArray) (v : Value) (w w' : World) (h : IsT l v w) (hb : Below w.heap.size w w') : IsT l v w' := by
  obtain ⟨a, c, e, h⟩ := h
  exact ⟨a, c, e, h.below hb⟩
theorem isL_new (w : World) (l : List ByteArray) (t : TypeId) : IsL (w.alloc (.cells (l.map Value.string).toArray t)) (some ⟨w.heap.size, 0, none⟩) l.length l :=
  ⟨Nat.le_refl _, fun _ => ⟨w.heap.size, 0, rfl, by simp, fun j x hj => by
    rw [World.cell?_alloc_at _ _ _ _ rfl, Nat.zero_add, List.getElem?_toArray, List.getElem?_map, hj]; rfl⟩⟩
theorem isT_new1 (w : World) (s : ByteArray) (t : TypeId) : IsT [s] (.slice (some ⟨w.heap.size, 0, none⟩) 1 1) (w.alloc (.cells #[.string s] t)) := ⟨_, _, rfl, isL_new w [s] t⟩
theorem isT_new2 (w : World) (s1 s2 : ByteArray) (t : TypeId) : IsT [s1, s2] (.slice (some ⟨w.heap.size, 0, none⟩) 2 2) (w.alloc (.cells #[.string s1, .string s2] t)) := ⟨_, _, rfl, isL_new w [s1, s2] t⟩
theorem isT_new3 (w : World) (s1 s2 s3 : ByteArray) (t : TypeId) : IsT [s1, s2, s3] (.slice (some ⟨w.heap.size, 0, none⟩) 3 3) (w.alloc (.cells #[.string s1, .string s2, .string s3] t)) := ⟨_, _, rfl, isL_new w [s1, s2, s3] t⟩
def sealS (s : ByteArray) : ByteArray := ofL (Crc.sealOf s.data.toList)
theorem seal_eq (s : ByteArray) : s ++ ofL (Crc.bytes4 (Crc.sum s.data.toList)) = sealS s := by
  apply ByteArray.ext
  apply Array.ext'
  unfold sealS ofL Crc.sealOf
  simp
theorem flat1 (s : ByteArray) : flatB [s] = s.data.toList := by simp [flatB]
/-- Sum of what is in a slice of known texts, behind whatever else. -/
theorem sum_of {l : List ByteArray} {a : Option Addr} {c : Nat} {w : World} (ht : HasTab w) (h : IsL w a c l) (hll : l.length ≤ 1000000) (hs : ∀ x ∈ l, x.size ≤ 1000000) {v : W} (hv : Crc.sum (flatB l) = v) :
    Calls Tryd.prog 11 #[.slice a l.length c] w fun e w' => e = .returned (U v) ∧ Below w.heap.size w w' := by
  refine (sum_any a c l w ht h hll hs).mono ?_
  rintro e w' ⟨rfl, rfl⟩
  exact ⟨by rw [hv], Below.refl _ _⟩
theorem HasTab.alloc {w : World} (h : HasTab w) (o : Obj) : HasTab (w.alloc o) := h.below ((Below.refl _ _).alloc (Nat.le_refl _) o)
theorem sizes1 {s : ByteArray} (hs : s.size ≤ 1000000) : ∀ x ∈ [s], x.size ≤ 1000000 := fun x hx => by
  rw [List.mem_singleton.1 hx]; exact hs
set_option maxHeartbeats 2000000 in
theorem seal_any (s : ByteArray) (w : World) (ht : HasTab w) (hs : s.size ≤ 1000000) :
    Calls Tryd.prog 15 #[.string s] w fun e w' => e = .returned (.string (sealS s)) ∧ Below w.heap.size w w' := by
  obtain ⟨v, hv⟩ : ∃ v, Crc.sum s.data.toList = v := ⟨_, rfl⟩
  have hq := seal_eq s
  rw [hv] at hq
  have hz : s.size + (ofL (Crc.bytes4 v)).size ≤ 140737488355328 := by have : (ofL (Crc.bytes4 v)).size = 4 := rfl; omega
  have HV := Lib.hid (show Crc.sum (flatB [s]) = v by rw [flat1]; exact hv)
  clear hv
  go_enter Tryd.func15, Tryd.ntmps15
  go_wp2_with fail
  refine (sum_of (l := [s]) (ht.alloc _) (isL_new _ [s] 9) (by simp) (sizes1 hs) HV.out).mono ?_
  rintro e w1 ⟨rfl, c1⟩
  have b1 := step_a (Below.refl _ _) c1
  clear c1
  go_wp2_with fail
  refine (bytes_any v _).mono ?_
  rintro e w2 ⟨rfl, c2⟩
  have b2 := step_b b1 c2
  clear c2 b1
  go_wp2
  go_ret
  exact ⟨rfl, b2⟩
set_option maxHeartbeats 2000000 in
theorem rseal_any (s : ByteArray) (w : World) (hs : s.size ≤ 1000000) :
    Calls Tryd.prog 16 #[.string s] w fun e w' => e = .returned (.string (sealS s)) ∧ Below w.heap.size w w' := by
  have hq := seal_eq s
  obtain ⟨v, hv⟩ : ∃ v, Crc.sum s.data.toList = v := ⟨_, rfl⟩
  rw [hv] at hq
  have hz : s.size + (ofL (Crc.bytes4 v)).size ≤ 140737488355328 := by have : (ofL (Crc.bytes4 v)).size = 4 := rfl; omega
  have HV := Lib.hid hv
  clear hv
  go_enter Tryd.func16, Tryd.ntmps16
  go_wp2_with fail
  refine (rsum_any s _ hs).mono ?_
  rintro e w1 ⟨rfl, rfl⟩
  rw [HV.out]
  go_wp2_with fail
  refine (rbytes_any v _).mono ?_
  rintro e w2 ⟨rfl, c2⟩
  go_wp2
  go_ret
  exact ⟨rfl, c2⟩
def headB (s : ByteArray) : ByteArray := s.extract 0 (s.size - 4)
def openB (s : ByteArray) : Bool := decide (4 ≤ s.size ∧ s = sealS (headB s))
def openS (s : ByteArray) : ByteArray := if openB s then headB s else ⟨#[]⟩
set_option maxHeartbeats 2000000 in
theorem ropen_any (s : ByteArray) (w : World) (hs : s.size ≤ 1000000) :
    Calls Tryd.prog 10 #[.string s] w fun e w' => e = .returned (.tuple #[.string (openS s), .bool (openB s)]) ∧ Below w.heap.size w w' := by
  by_cases h4 : s.size < 4
  · have e1 : openB s = false := decide_eq_false (by omega)
    have e2 : openS s = ⟨#[]⟩ := by unfold openS; rw [e1]; rfl
    rw [e1, e2]
    go_enter Tryd.func10, Tryd.ntmps10
    go_wp2
    go_ret2
    exact ⟨rfl, Below.refl _ _⟩
  · obtain ⟨n, hn⟩ : ∃ n, s.size = n + 4 := ⟨s.size - 4, by omega⟩
    have hni : ((s.size : Nat) : Int) - 4 = (n : Int) := by omega
    obtain ⟨p, hp⟩ : ∃ p, s.extract 0 n = p := ⟨_, rfl⟩
    have hh : headB s = p := by unfold headB; rw [hn, ← hp]; rfl
    have hhs : p.size ≤ 1000000 := by rw [← hp, ByteArray.size_extract]; omega
    have d4 : decide ((n : Int) + 4 < 4) = false := decide_eq_false (by omega)
    by_cases he : s = sealS p
    · have e1 : openB s = true := decide_eq_true ⟨by omega, by rw [hh]; exact he⟩
      have e2 : openS s = p := by unfold openS; rw [e1, if_pos rfl, hh]
      have q1 : ((sealS p).toList == s.toList) = true := by rw [← he]; simp
      rw [e1, e2]
      clear e1 e2 he hh
      go_enter Tryd.func10, Tryd.ntmps10
      go_wp2_with fail
      refine (rseal_any p _ hhs).mono ?_
      rintro e w1 ⟨rfl, c1⟩
      go_wp2
      go_ret2
      exact ⟨rfl, c1⟩
    · have e1 : openB s = false := decide_eq_false (fun h => he (by rw [← hh]; exact h.2))
      have e2 : openS s = ⟨#[]⟩ := by unfold openS; rw [e1]; rfl
      have q1 : ((sealS p).toList == s.toList) = false := by
        rw [beq_eq_false_iff_ne]
        intro h
        refine he (ByteArray.ext (Array.ext' ?_))
        rw [← ByteArray.toList_eq, ← ByteArray.toList_eq]; exact h.symm
      rw [e1, e2]
      clear e1 e2 he hh
      go_enter Tryd.func10, Tryd.ntmps10
      go_wp2_with fail
      refine (rseal_any p _ hhs).mono ?_
      rintro e w1 ⟨rfl, c1⟩
      go_wp2
      go_ret2
      exact ⟨rfl, c1⟩
theorem cut_two (s : ByteArray) (n : Nat) : s = s.extract 0 n ++ s.extract n s.size := by
  apply ByteArray.ext
  apply Array.ext'
  simp
theorem tail_eq {s p t : ByteArray} {v : W} (hs : s = p ++ t) (hv : Crc.sum p.data.toList = v) : s = sealS p ↔ t = ofL (Crc.bytes4 v) := by
  rw [← seal_eq, hv, hs]
  constructor
  · intro h
    have h2 := congrArg (fun z : ByteArray => z.data.toList) h
    simp at h2
    exact ByteArray.ext (Array.ext' (by simpa using h2))
  · rintro rfl; rfl
set_option maxHeartbeats 2000000 in
theorem open_any (s : ByteArray) (w : World) (ht : HasTab w) (hs : s.size ≤ 1000000) :
    Calls Tryd.prog 9 #[.string s] w fun e w' => e = .returned (.tuple #[.string (openS s), .bool (openB s)]) ∧ Below w.heap.size w w' := by
  by_cases h4 : s.size < 4
  · have e1 : openB s = false := decide_eq_false (by omega)
    have e2 : openS s = ⟨#[]⟩ := by unfold openS; rw [e1]; rfl
    have d4 : ((s.size : Nat) : Int) - 4 < 0 := by omega
    rw [e1, e2]
    go_enter Tryd.func9, Tryd.ntmps9
    go_wp2_with fail
    refine wp_region_r (by kernel_rfl) (by kernel_rfl) ?_
    repeat (refine wpR_pure (fun K hK => ?_); go_simp; refine hK _ ?_; clear hK K)
    refine wpR_nil (fun x n _ => ?_)
    have b1 := n.below
    generalize n.w = w1 at b1 ⊢
    go_wp2
    go_ret2
    exact ⟨rfl, b1⟩
  · obtain ⟨n, hn⟩ : ∃ n, s.size = n + 4 := ⟨s.size - 4, by omega⟩
    have hni : ((s.size : Nat) : Int) - 4 = (n : Int) := by omega
    obtain ⟨p, hp⟩ : ∃ p, s.extract 0 n = p := ⟨_, rfl⟩
    obtain ⟨t, ht2⟩ : ∃ t, s.extract n s.size = t := ⟨_, rfl⟩
    have hcut := cut_two s n
    rw [hp, ht2] at hcut
    obtain ⟨v, hv⟩ : ∃ v, Crc.sum p.data.toList = v := ⟨_, rfl⟩
    have hte := tail_eq hcut hv
    have hh : headB s = p := by unfold headB; rw [hn, ← hp]; rfl
    have hhs : p.size ≤ 1000000 := by rw [← hp, ByteArray.size_extract]; omega
    rw [hn] at ht2
    have HV := Lib.hid (show Crc.sum (flatB [p]) = v by rw [flat1]; exact hv)
    have g1 : (n : Int) ≤ (n : Int) + 4 := by omega
    have d0 : decide ((n : Int) < 0) = false := decide_eq_false (by omega)
    clear hcut hv
    by_cases he : s = sealS p
    · have e1 : openB s = true := decide_eq_true ⟨by omega, by rw [hh]; exact he⟩
      have e2 : openS s = p := by unfold openS; rw [e1, if_pos rfl, hh]
      have q1 : (t.toList == (ofL (Crc.bytes4 v)).toList) = true := by rw [hte.1 he]; simp
      rw [e1, e2]
      clear e1 e2 he hh hte
      go_enter Tryd.func9, Tryd.ntmps9
      go_wp2_with fail
      refine wp_region_r (by kernel_rfl) (by kernel_rfl) ?_
      repeat (refine wpR_pure (fun K hK => ?_); go_simp; refine hK _ ?_; clear hK K)
      refine wpR_make (IsT [p]) (IsT.stable _) (fun x n _ => ?_) (fun K hK => ?_)
      · unfold relOp; go_simp; simp only [relUpon]
        exact ⟨isT_new1 _ _ _, (Below.refl _ _).alloc (Nat.le_refl _) _⟩
      go_simp; refine hK _ ?_; clear hK K
      refine wpR_use (U v) (fun x n hf => ?_) (fun K hK => ?_)
      · obtain ⟨a, c, e, h⟩ := fact_at hf 0 rfl (by kernel_rfl)
        go_simp
        go_at_call 11
        refine sum_of (l := [p]) (ht.below n.below) h (by simp) (sizes1 hhs) HV.out
      go_simp; refine hK _ ?_; clear hK K
      refine wpR_pure (fun K hK => ?_)
      go_simp
      apply Exists.intro
      refine ⟨fun m => ?_, hK _ ?_⟩
      · go_at_call 13
        exact bytes_any v _
      clear hK K
      repeat (refine wpR_pure (fun K hK => ?_); go_simp; refine hK _ ?_; clear hK K)
      refine wpR_nil (fun x n _ => ?_)
      have b1 := n.below
      generalize n.w = w1 at b1 ⊢
      go_wp2_with fail
      refine (clone_any p _ hhs).mono ?_
      rintro e w2 ⟨rfl, c2⟩
      have b2 := step_b b1 c2
      clear c2 b1
      go_wp2
      go_ret2
      exact ⟨rfl, b2⟩
    · have e1 : openB s = false := decide_eq_false (fun h => he (by rw [← hh]; exact h.2))
      have e2 : openS s = ⟨#[]⟩ := by unfold openS; rw [e1]; rfl
      have q1 : (t.toList == (ofL (Crc.bytes4 v)).toList) = false := by
        rw [beq_eq_false_iff_ne]
        intro h
        refine he (hte.2 (ByteArray.ext (Array.ext' ?_)))
        rw [← ByteArray.toList_eq, ← ByteArray.toList_eq]; exact h
      rw [e1, e2]
      clear e1 e2 he hh hte
      go_enter Tryd.func9, Tryd.ntmps9
      go_wp2_with fail
      refine wp_region_r (by kernel_rfl) (by kernel_rfl) ?_
      repeat (refine wpR_pure (fun K hK => ?_); go_simp; refine hK _ ?_; clear hK K)
      refine wpR_make (IsT [p]) (IsT.stable _) (fun x n _ => ?_) (fun K hK => ?_)
      · unfold relOp; go_simp; simp only [relUpon]
        exact ⟨isT_new1 _ _ _, (Below.refl _ _).alloc (Nat.le_refl _) _⟩
      go_simp; refine hK _ ?_; clear hK K
      refine wpR_use (U v) (fun x n hf => ?_) (fun K hK => ?_)
      · obtain ⟨a, c, e, h⟩ := fact_at hf 0 rfl (by kernel_rfl)
        go_simp
        go_at_call 11
        refine sum_of (l := [p]) (ht.below n.below) h (by simp) (sizes1 hhs) HV.out
      go_simp; refine hK _ ?_; clear hK K
      refine wpR_pure (fun K hK => ?_)
      go_simp
      apply Exists.intro
      refine ⟨fun m => ?_, hK _ ?_⟩
      · go_at_call 13
        exact bytes_any v _
      clear hK K
      repeat (refine wpR_pure (fun K hK => ?_); go_simp; refine hK _ ?_; clear hK K)
      refine wpR_nil (fun x n _ => ?_)
      have b1 := n.below
      generalize n.w = w1 at b1 ⊢
      go_wp2
      go_ret2
      exact ⟨rfl, b1⟩
end Go.Proofs.YtoagcaldclljgaaDoor
