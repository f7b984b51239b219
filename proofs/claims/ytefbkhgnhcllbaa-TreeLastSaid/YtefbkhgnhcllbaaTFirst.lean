/-
  first: is the operation at a place the first one of its At that may be?
-/
import Derived.Test.YtefbkhgnhcllbaaTOrder
namespace Go.Proofs.Ytefbkhgnhcllbaa
open Go.RowKit Go.Lib
def notSo (z y : Opn) : Bool := !(decide (eqA y z) && mayO y)
def firstB (l : List Opn) (k : Nat) (z : Opn) : Bool := (l.take k).all (notSo z)
set_option maxRecDepth 100000 in
theorem firstB_iff {l : List Opn} {k : Nat} {z : Opn} (hz : l[k]? = some z) (hm : mayO z = true) : firstB l k z = true ↔ FirstO l k z := by
  unfold firstB FirstO notSo
  rw [List.all_eq_true]
  constructor
  · intro h
    refine ⟨hz, hm, fun i y hi hy hmy he => ?_⟩
    have hmem : y ∈ l.take k := by
      have : (l.take k)[i]? = some y := by rw [List.getElem?_take, if_pos hi]; exact hy
      exact List.mem_of_getElem? this
    have := h y hmem
    rw [decide_eq_true he, hmy] at this
    simp at this
  · intro ⟨_, _, h⟩ y hy
    obtain ⟨i, hi, rfl⟩ := List.mem_iff_getElem.1 hy
    rw [List.length_take] at hi
    rw [List.getElem_take]
    have h1 := h i l[i] (by omega) (List.getElem?_eq_getElem (by omega))
    cases hmy : mayO l[i] with
    | false => simp
    | true =>
      have := h1 hmy
      rw [decide_eq_false this]; rfl
set_option maxRecDepth 100000 in
set_option maxHeartbeats 8000000 in
theorem first_any (a : Option Addr) (c : Nat) (l : List Opn) (k : Nat) (z : Opn) (hz : l[k]? = some z) (w : World) (h : IsOp w a c l) (hl : l.length ≤ 1000) (hsm : ∀ o ∈ l, o.s.size ≤ 1000 ∧ o.d.size ≤ 1000) (hrg : RgOs l) :
    Calls Try.prog 29 #[.slice a l.length c, .int .i64 k] w fun e w' => e = .returned (.bool (firstB l k z)) ∧ Below w.heap.size w w' := by
  obtain ⟨g, off, rfl, hlt, _⟩ := h.opn hz
  have HI := Lib.hid h
  have hkl : k < l.length := (List.getElem?_eq_some_iff.1 hz).1
  have Hz := Lib.hid hz
  have HSm := Lib.hid hsm
  have GOs := Lib.hid hrg
  clear h hz hsm hrg
  go_enter Try.func29, Try.ntmps29
  go_wp2_with fail
  go_loopw [5] (fun u w' => ∃ i : Nat, i ≤ k ∧ u = .int .i64 i ∧ (l.take i).all (notSo z) = true ∧ Below w.heap.size w w') (fun u _ => k - (RowKit.intOf u).toNat)
  case atStart => exact ⟨0, Nat.zero_le _, rfl, rfl, Below.refl _ _⟩
  case round =>
    obtain ⟨i, hik, rfl, ha, ck⟩ := hrel
    have Ha := Lib.hid ha
    clear ha
    by_cases hi : i < k
    · obtain ⟨y, hy⟩ : ∃ y, l[i]? = some y := ⟨l[i], List.getElem?_eq_getElem (by omega)⟩
      obtain ⟨g', off', he, _, hc⟩ := (HI.out.below ck).opn Hz.out
      simp only [Option.some.injEq, Addr.mk.injEq, and_true] at he
      obtain ⟨rfl, rfl⟩ := he
      obtain ⟨m0, m1, m2, m3, m4, m5, m6⟩ := hc k z Hz.out
      obtain ⟨n0, n1, n2, n3, n4, n5, n6⟩ := hc i y hy
      have hi2 : (i : Int) < (k : Int) := by omega
      have hil2 : (i : Int) < (l.length : Int) := by omega
      have hkl2 : (k : Int) < (l.length : Int) := by omega
      have HT := Lib.hid (all_take_succ (notSo z) l i y hy)
      have HFl := Lib.hid (fun (hf : notSo z y = false) => show firstB l k z = false by
        unfold firstB
        rw [List.all_eq_false]
        refine ⟨y, ?_, by rw [hf]; simp⟩
        have : (l.take k)[i]? = some y := by rw [List.getElem?_take, if_pos hi]; exact hy
        exact List.mem_of_getElem? this)
      have HCk := Lib.hid (fun w => ochk_any y w (by have := (HSm.out y (List.mem_of_getElem? hy)).1; unfold maxLen; omega) (GOs.out y (List.mem_of_getElem? hy)).2.2.2.1 (GOs.out y (List.mem_of_getElem? hy)).2.2.2.2)
      obtain ⟨may, hmay⟩ : ∃ b, mayO y = b := ⟨_, rfl⟩
      rw [hmay] at HCk
      have Hmay := Lib.hid hmay
      clear hy hc hmay
      rcases stamp_ways y z with ⟨dc, dr, he⟩ | ⟨dc, he⟩ | ⟨dc, dr, he⟩
      · have He := Lib.hid he
        clear he
        cases may with
        | true =>
          have hf := HFl.out (by unfold notSo; rw [decide_eq_true He.out, Hmay.out]; rfl)
          have Hf := Lib.hid hf
          clear hf
          go_wp2_with fail
          refine wp_region_later (by kernel_rfl) (by kernel_rfl) (fun hL => ?_)
          repeat (go_big_quiet_step ((go_at_call 28; with_reducible refine later_calls (HCk.out _))))
          intro w' hw
          have c3 := ck.trans ((later_out hw).mono ck.size)
          clear hw hL
          go_wp2_with fail
          go_ret
          exact ⟨by rw [Hf.out]; rfl, c3⟩
        | false =>
          go_wp2_with fail
          refine wp_region_later (by kernel_rfl) (by kernel_rfl) (fun hL => ?_)
          repeat (go_big_quiet_step ((go_at_call 28; with_reducible refine later_calls (HCk.out _))))
          intro w' hw
          have c3 := ck.trans ((later_out hw).mono ck.size)
          clear hw hL
          go_wp2_with fail
          go_roundw
          case rel => exact ⟨i + 1, by omega, by go_num, by rw [HT.out, Ha.out]; unfold notSo; rw [Hmay.out]; simp, c3⟩
          case measure => simp [RowKit.intOf]; omega
      all_goals
        have He := Lib.hid he
        clear he
        go_wp2_with fail
        refine wp_region_later (by kernel_rfl) (by kernel_rfl) (fun hL => ?_)
        repeat (go_big_quiet_step ((go_at_call 28; with_reducible refine later_calls (HCk.out _))))
        intro w' hw
        have c3 := ck.trans ((later_out hw).mono ck.size)
        clear hw hL
        go_wp2_with fail
        go_roundw
        case rel => exact ⟨i + 1, by omega, by go_num, by rw [HT.out, Ha.out]; unfold notSo; rw [decide_eq_false He.out]; rfl, c3⟩
        case measure => simp [RowKit.intOf]; omega
    · obtain rfl : i = k := by omega
      have hf : firstB l i z = true := Ha.out
      have Hf := Lib.hid hf
      clear hf
      go_wp2_with fail
      go_ret
      exact ⟨by rw [Hf.out]; rfl, ck⟩
end Go.Proofs.Ytefbkhgnhcllbaa
