/-
  The document's Fold.
-/
import Derived.Test.YtefbkhgnhcllbaaRSorted
import Derived.Test.YtefbkhgnhcllbaaRBack
namespace Go.Proofs.Ytefbkhgnhcllbaa
open Go.RowKit Go.Lib
theorem insN_len (n : Nod) : ∀ l : List Nod, (insN n l).length = l.length + 1
  | [] => rfl
  | x :: r => by
    unfold insN
    split
    · rw [List.length_cons, insN_len n r, List.length_cons]
    · rfl
theorem withN_len (l : List Nod) (n : Nod) : (withN l n).length ≤ l.length + 1 := by
  unfold withN
  rw [insN_len]
  have := without_len l n.id
  omega
theorem doN_len (l : List Nod) (o : Opn) : (doN l o).1.length ≤ l.length + 1 := by
  rcases doN_cases l o with h | ⟨_, _, n, _, _, h, _⟩
  · rw [h]; exact Nat.le_succ _
  · rw [h]; exact withN_len _ _
theorem doAll_take {s : List Opn} {k : Nat} {x : Opn} (h : s[k]? = some x) : doAll [] (s.take (k + 1)) = (doN (doAll [] (s.take k)) x).1 := by
  rw [List.take_add_one, h]
  exact doAll_snoc _ _ _
theorem doAll_len (s : List Opn) : (doAll [] s).length ≤ s.length := by
  refine list_snoc (P := fun s => (doAll [] s).length ≤ s.length) (Nat.le_refl _) (fun s x ih => ?_) s
  rw [doAll_snoc, List.length_append, List.length_singleton]
  have := doN_len (doAll [] s) x
  omega
def NodsPost (r : List Nod) (w : World) (e : Ending) (w' : World) : Prop := ∃ a c, e = .returned (.slice a r.length c) ∧ IsNd w' a c r ∧ Below w.heap.size w w'
set_option maxRecDepth 100000 in
set_option maxHeartbeats 8000000 in
theorem rfold_any (a : Option Addr) (c : Nat) (l : List Opn) (w : World) (h : IsOp w a c l) (hl : l.length ≤ 100000) (hsm : ∀ o ∈ l, o.s.size ≤ 1000000) :
    Calls Try.prog 26 #[.slice a l.length c] w (NodsPost (foldN l) w) := by
  have hs := Lib.hid (rsorted_any a c l w h hl hsm)
  have hsl := sort_len l
  have HSm := Lib.hid (show ∀ o ∈ sortO l, o.s.size ≤ 1000000 from fun o ho => hsm o (sortO_may ho).2)
  have HF := Lib.hid (show foldN l = doAll [] (sortO l) from rfl)
  clear hsm
  generalize sortO l = s at hs hsl HSm HF
  go_enter Try.func26, Try.ntmps26
  go_wp2_with fail
  refine hs.out.mono ?_
  rintro e w1 ⟨v, rfl, hown, b1⟩
  obtain ⟨ar, cr, rfl, hR, _⟩ := hown.isR2 op_len
  have HR := Lib.hid hR
  have hsl2 : s.length ≤ 100000 := by omega
  clear hown hR hs hsl
  go_wp2_with fail
  go_loopw [4, 5] (fun out u w' => ∃ k : Nat, k ≤ s.length ∧ u = .int .i64 k ∧ (∃ a c, out = .slice a (doAll [] (s.take k)).length c ∧ IsNd w' a c (doAll [] (s.take k))) ∧ Below w1.heap.size w1 w') (fun _ u _ => s.length - (RowKit.intOf u).toNat)
  case atStart => exact ⟨0, Nat.zero_le _, rfl, ⟨none, 0, rfl, isR_nil _ _ _⟩, Below.refl _ _⟩
  case round =>
    obtain ⟨k, hk, rfl, ⟨at_, ct, rfl, ht⟩, ck⟩ := hrel
    have hHR := HR.out.below ck
    by_cases hks : k < s.length
    · obtain ⟨o, ho⟩ : ∃ o, s[k]? = some o := ⟨s[k], List.getElem?_eq_getElem hks⟩
      obtain ⟨g, off, rfl, hlt, hc⟩ := hHR.opn ho
      obtain ⟨m0, m1, m2, m3, m4, m5, m6⟩ := hc k o ho
      have hks2 : (k : Int) < (s.length : Int) := by omega
      have hT := doAll_take ho
      have htl := doAll_len (s.take k)
      rw [List.length_take] at htl
      have hos := HSm.out o (List.mem_of_getElem? ho)
      obtain ⟨t, hte⟩ : ∃ t, doAll [] (s.take k) = t := ⟨_, rfl⟩
      rw [hte] at ht hT htl
      rw [hte]
      have HDo := Lib.hid (fun w hh => rdo_any at_ ct t o w hh (by omega) hos)
      have HT := Lib.hid hT
      have Ht := Lib.hid ht
      clear hT ht hte hc ho hHR htl
      go_wp2_with fail
      refine (HDo.out _ Ht.out).mono ?_
      rintro e w2 ⟨a2, c2, rfl, h2, d2⟩
      have bB := ck.trans (d2.mono ck.size)
      have H2 := Lib.hid h2
      clear h2
      go_wp2_with fail
      go_roundw
      case rel => exact ⟨k + 1, by omega, by go_num, ⟨a2, c2, by rw [HT.out], by rw [HT.out]; exact H2.out⟩, bB⟩
      case measure => simp [RowKit.intOf]; omega
    · have hke : k = s.length := by omega
      rw [hke, List.take_length, ← HF.out] at ht
      rw [hke, List.take_length, ← HF.out]
      have Ht := Lib.hid ht
      clear ht
      have b2 := step_b b1 ck
      go_wp2_with fail
      go_ret
      exact ⟨_, _, rfl, Ht.out, b2⟩
end Go.Proofs.Ytefbkhgnhcllbaa
