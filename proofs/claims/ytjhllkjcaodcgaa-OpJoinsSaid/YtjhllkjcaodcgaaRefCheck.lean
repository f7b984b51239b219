import Derived.Test.YtjhllkjcaodcgaaAll
namespace Go.Proofs.Ytjhllkjcaodcgaa
open Go.RowKit Go.Lib Go.PlainAid
theorem all_none (s : ByteArray) (w : World) (hs : s.size ≤ 1000000) (hr : runes s.data.toList = none) :
    Calls Try.prog 51 #[.string s] w fun e w' => e = .returned (.tuple #[.slice none 0 0, .bool false]) ∧ Below w.heap.size w w' := by
  refine (all_any s w hs).mono ?_
  intro e w' h
  rw [hr] at h
  exact h
theorem all_some (s : ByteArray) (w : World) (hs : s.size ≤ 1000000) (rs : List Nat) (hr : runes s.data.toList = some rs) :
    Calls Try.prog 51 #[.string s] w fun e w' => ∃ a c, e = .returned (.tuple #[.slice a rs.length c, .bool true]) ∧ IsN w' a c rs ∧ Below w.heap.size w w' := by
  refine (all_any s w hs).mono ?_
  intro e w' h
  rw [hr] at h
  exact h
set_option maxHeartbeats 4000000 in
theorem refCheck_any (s : ByteArray) (w : World) (hs : s.size ≤ 1000000) :
    Calls Try.prog 42 #[.string s] w fun e w' => e = .returned (.bool (chk s.data.toList)) ∧ Below w.heap.size w w' := by
  cases hr : runes s.data.toList with
  | none =>
    have Hr := Lib.hid hr
    clear hr
    go_enter Try.func42, Try.ntmps42
    go_wp2_with fail
    refine (all_none _ _ hs Hr.out).mono ?_
    rintro e w1 ⟨rfl, hb⟩
    go_wp2
    go_ret
    exact ⟨by simp [chk, Hr.out], hb⟩
  | some rs =>
    have Hr := Lib.hid hr
    have hlen := runes_length _ rs hr
    have hls : s.data.toList.length = s.size := by simp
    clear hr
    by_cases hn : 1 ≤ rs.length ∧ rs.length ≤ 20 ∧ s.toList ≠ [46] ∧ s.toList ≠ [46, 46]
    · obtain ⟨h1, h20, hd, hdd⟩ := hn
      have q1 : (s.toList == [46]) = false := beq_eq_false_iff_ne.2 hd
      have q2 : (s.toList == [46, 46]) = false := beq_eq_false_iff_ne.2 hdd
      have HC := Lib.hid (show chk s.data.toList = rs.all goodR by
        unfold chk; rw [Hr.out, ← ByteArray.toList_eq]; simp [h1, h20, q1, q2])
      clear hd hdd
      go_enter Try.func42, Try.ntmps42
      go_wp2_with fail
      refine (all_some _ _ hs rs Hr.out).mono ?_
      rintro e w1 ⟨a, c, rfl, hl, hb⟩
      have HL := Lib.hid hl
      clear hl
      go_wp2
      go_loop [5] (fun i => ∃ k : Nat, k ≤ rs.length ∧ i = .int .i64 k ∧ (rs.take k).all goodR = true) (fun i => rs.length - (RowKit.intOf i).toNat)
      case atStart => exact ⟨0, Nat.zero_le _, rfl, rfl⟩
      case round =>
        obtain ⟨k, hk, rfl, ha⟩ := hrel
        have Ha := Lib.hid ha
        clear ha
        by_cases hkl : k < rs.length
        · obtain ⟨b, o, rfl, hlt, hc⟩ := HL.out.2 (fun e => by rw [e] at hkl; simp at hkl)
          obtain ⟨x, hx⟩ : ∃ x, rs[k]? = some x := ⟨rs[k], List.getElem?_eq_getElem hkl⟩
          have Hx := Lib.hid hx
          have hcell : w1.cell? ⟨b, o + k, none⟩ = some (.int .i64 (x : Nat)) := hc k x hx
          clear hx hc
          cases hg : goodR x with
          | true =>
            have hx3 : 32 ≤ x ∧ x ≠ 47 ∧ x ≠ 127 := by unfold goodR at hg; simp at hg; omega
            obtain ⟨x1, x2, x3⟩ := hx3
            have p2 : ((x : Int) == 47) = false := beq_eq_false_iff_ne.2 (by omega)
            have p3 : ((x : Int) == 127) = false := beq_eq_false_iff_ne.2 (by omega)
            have Hg := Lib.hid hg
            clear hg
            go_wp2
            go_round
            case rel => exact ⟨k + 1, by omega, by go_num, by rw [all_take_succ _ rs k x Hx.out, Ha.out]; exact Hg.out⟩
            case measure => simp [RowKit.intOf]; omega
          | false =>
            have hx3 : x < 32 ∨ x = 47 ∨ x = 127 := by unfold goodR at hg; simp at hg; omega
            have Hg := Lib.hid hg
            clear hg
            by_cases x1 : x < 32
            · clear hx3
              go_wp2
              go_ret
              exact ⟨ret_bool (by rw [HC.out, all_false _ rs k x Hx.out Hg.out]), hb⟩
            · by_cases x2 : x = 47
              · have p2 : ((x : Int) == 47) = true := beq_iff_eq.2 (by omega)
                clear hx3 x2
                go_wp2
                go_ret
                exact ⟨ret_bool (by rw [HC.out, all_false _ rs k x Hx.out Hg.out]), hb⟩
              · have p2 : ((x : Int) == 47) = false := beq_eq_false_iff_ne.2 (by omega)
                have p3 : ((x : Int) == 127) = true := beq_iff_eq.2 (by omega)
                clear hx3
                go_wp2
                go_ret
                exact ⟨ret_bool (by rw [HC.out, all_false _ rs k x Hx.out Hg.out]), hb⟩
        · go_wp2
          go_ret
          have e : k = rs.length := by omega
          exact ⟨ret_bool (by have := Ha.out; rw [e, List.take_length] at this; rw [HC.out, this]), hb⟩
    · have HC := Lib.hid (show chk s.data.toList = false by
        unfold chk; rw [Hr.out, ← ByteArray.toList_eq]
        simp only [Bool.and_eq_false_iff, Bool.not_eq_false', decide_eq_false_iff_not, beq_iff_eq]
        by_cases c1 : 1 ≤ rs.length
        · by_cases c2 : rs.length ≤ 20
          · by_cases c3 : s.toList = [46]
            · simp [c3]
            · by_cases c4 : s.toList = [46, 46]
              · simp [c4]
              · exact absurd ⟨c1, c2, c3, c4⟩ hn
          · simp [c2]
        · simp [c1])
      have Hn := Lib.hid hn
      clear hn
      go_enter Try.func42, Try.ntmps42
      go_wp2_with fail
      refine (all_some _ _ hs rs Hr.out).mono ?_
      rintro e w1 ⟨a, c, rfl, hl, hb⟩
      have HL := Lib.hid hl
      clear hl
      by_cases c1 : 1 ≤ rs.length
      · by_cases c2 : rs.length ≤ 20
        · by_cases c3 : s.toList = [46]
          · have q1 : (s.toList == [46]) = true := by rw [c3]; rfl
            clear c3
            go_wp2
            go_ret
            exact ⟨ret_bool HC.out.symm, hb⟩
          · have q1 : (s.toList == [46]) = false := beq_eq_false_iff_ne.2 c3
            by_cases c4 : s.toList = [46, 46]
            · have q2 : (s.toList == [46, 46]) = true := by rw [c4]; rfl
              clear c3 c4
              go_wp2
              go_ret
              exact ⟨ret_bool HC.out.symm, hb⟩
            · exact absurd ⟨c1, c2, c3, c4⟩ Hn.out
        · go_wp2
          go_ret
          exact ⟨ret_bool HC.out.symm, hb⟩
      · go_wp2
        go_ret
        exact ⟨ret_bool HC.out.symm, hb⟩
end Go.Proofs.Ytjhllkjcaodcgaa
