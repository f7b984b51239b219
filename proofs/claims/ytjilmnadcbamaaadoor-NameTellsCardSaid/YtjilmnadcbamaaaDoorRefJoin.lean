import Derived.Test.YtjilmnadcbamaaaDoorRefCheck
namespace Go.Proofs.YtjilmnadcbamaaaDoor
open Go.RowKit Go.Lib Go.PlainAid
theorem join_tail {l : List (List UInt8)} (hne : l ≠ []) : 47 :: join l [47] = joinTail [47] l := by
  match l, hne with
  | x :: r, _ => rw [join_cons]; simp [joinTail]
theorem joinTail_snoc (l : List (List UInt8)) (x : List UInt8) : joinTail [47] (l ++ [x]) = joinTail [47] l ++ 47 :: x := by simp [joinTail]
def joinV (l : List ByteArray) : Value := if namesB l then .tuple #[.string (joinS l), .int .i64 0] else .tuple #[.string ⟨#[]⟩, .int .i64 10]
theorem joinV_yes {l : List ByteArray} (h : namesB l = true) : joinV l = .tuple #[.string (joinS l), .int .i64 0] := by unfold joinV; rw [if_pos h]
theorem joinV_no {l : List ByteArray} (h : namesB l = false) : joinV l = .tuple #[.string ⟨#[]⟩, .int .i64 10] := by unfold joinV; rw [if_neg (by rw [h]; simp)]
set_option maxHeartbeats 2000000 in
theorem refJoin_any (a : Option Addr) (c : Nat) (l : List ByteArray) (w : World) (h : IsL w a c l) (hs : ∀ x ∈ l, x.size ≤ 1000000) (hll : l.length ≤ 1000000) :
    Calls Tryd.prog 16 #[.slice a l.length c] w fun e w' => e = .returned (joinV l) ∧ Below w.heap.size w w' := by
  by_cases hne : l = []
  · subst hne
    go_enter Tryd.func16, Tryd.ntmps16
    go_wp2
    go_ret2
    exact ⟨by rw [joinV_yes (by decide)]; rfl, Below.refl _ _⟩
  have hpos : 0 < l.length := List.length_pos_iff.2 hne
  have hlz : ((l.length : Int) == 0) = false := beq_eq_false_iff_ne.2 (by omega)
  have HS := Lib.hid hs
  have HI := Lib.hid h
  have HNE := Lib.hid hne
  clear hs h hne
  go_enter Tryd.func16, Tryd.ntmps16
  go_wp2
  go_loopw [4, 5] (fun o i w' => ∃ (k : Nat) (out : ByteArray), k ≤ l.length ∧ k ≤ 16 ∧ o = .string out ∧ i = .int .i64 k ∧ (l.take k).all (fun s => chk s.data.toList) = true ∧ out.data.toList = joinTail [47] ((l.take k).map (·.data.toList)) ∧ out.size ≤ k * 1000001 ∧ Below w.heap.size w w') (fun _ i _ => l.length - (RowKit.intOf i).toNat)
  case atStart => exact ⟨0, ⟨#[]⟩, Nat.zero_le _, Nat.zero_le _, rfl, rfl, rfl, rfl, Nat.zero_le _, Below.refl _ _⟩
  case round =>
    obtain ⟨k, out, hk, hk16, rfl, rfl, ha, ho, hz, hb⟩ := hrel
    have Ha := Lib.hid ha
    have Ho := Lib.hid ho
    clear ha ho
    by_cases hkl : k < l.length
    · obtain ⟨b, o, rfl, hlt, hc⟩ := HI.out.2 HNE.out
      obtain ⟨x, hx⟩ : ∃ x, l[k]? = some x := ⟨l[k], List.getElem?_eq_getElem hkl⟩
      have Hx := Lib.hid hx
      have hcell : wr.cell? ⟨b, o + k, none⟩ = some (.string x) := by rw [hb.cell (p := ⟨b, o + k, none⟩) hlt]; exact hc k x hx
      have hsx := HS.out x (List.mem_of_getElem? hx)
      clear hx hc
      cases hcx : chk x.data.toList with
      | false =>
        have Hc := Lib.hid hcx
        clear hcx
        go_wp2_with (go_at_call 18; refine (refCheck_any _ _ hsx).mono ?_; rintro e w1 ⟨rfl, hb1⟩; rw [Hc.out])
        go_ret2
        exact ⟨by rw [joinV_no (by unfold namesB; rw [all_false _ l k x Hx.out Hc.out, Bool.and_false])]; rfl, hb.trans (hb1.mono hb.size)⟩
      | true =>
        have Hc := Lib.hid hcx
        clear hcx
        by_cases h16 : k = 16
        · have q16 : ((k : Int) == 16) = true := beq_iff_eq.2 (by omega)
          have H16 := Lib.hid h16
          clear h16
          go_wp2_with (go_at_call 18; refine (refCheck_any _ _ hsx).mono ?_; rintro e w1 ⟨rfl, hb1⟩; rw [Hc.out])
          go_ret2
          exact ⟨by rw [joinV_no (by unfold namesB; rw [decide_eq_false (by have := H16.out; omega)]; rfl)]; rfl, hb.trans (hb1.mono hb.size)⟩
        · have q16 : ((k : Int) == 16) = false := beq_eq_false_iff_ne.2 (by omega)
          go_wp2_with fail
          refine (refCheck_any _ _ hsx).mono ?_
          rintro e w1 ⟨rfl, hb1⟩
          rw [Hc.out]
          have hb2 := hb.trans (hb1.mono hb.size)
          have hcell1 : w1.cell? ⟨b, o + k, none⟩ = some (.string x) := by rw [hb1.cell (p := ⟨b, o + k, none⟩) (Nat.lt_of_lt_of_le hlt hb.size)]; exact hcell
          go_wp2
          go_roundw
          case rel => exact ⟨k + 1, out ++ ⟨#[47]⟩ ++ x, by omega, by omega, rfl, by go_num, by rw [all_take_succ _ l k x Hx.out, Ha.out]; exact Hc.out, by rw [List.take_add_one, Hx.out]; simp only [Option.toList, List.map_append, List.map_cons, List.map_nil]; rw [joinTail_snoc, ← Ho.out]; simp [ByteArray.data_append], by rw [ByteArray.size_append, ByteArray.size_append]; show _ + 1 + _ ≤ _; omega, hb2⟩
          case measure => simp [RowKit.intOf]; omega
    · have e : k = l.length := by omega
      have ha := Ha.out
      have ho := Ho.out
      rw [e, List.take_length] at ha ho
      have hn : namesB l = true := by unfold namesB; rw [ha, decide_eq_true (by omega)]; rfl
      have hj : out = joinS l := by
        apply ByteArray.ext
        apply Array.ext'
        rw [joinS_data, ho, join_tail (by simpa using HNE.out)]
      subst hj
      have HN := Lib.hid hn
      clear ha ho hn e
      go_wp2
      go_ret2
      exact ⟨by rw [joinV_yes HN.out]; rfl, hb⟩
end Go.Proofs.YtjilmnadcbamaaaDoor
