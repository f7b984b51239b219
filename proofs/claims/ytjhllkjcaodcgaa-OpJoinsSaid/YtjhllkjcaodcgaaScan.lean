import Derived.Test.YtjhllkjcaodcgaaChecked
import Derived.Test.YtjhllkjcaodcgaaShelf
import Derived.Test.YtjhllkjcaodcgaaPlain
import Derived.WalkKit
import Derived.WalkLawsBesides
import Derived.WalkMore
import Derived.Lib.Hide
import Derived.Lib.IndexBytes
import Derived.Lib.TrimUEq
import Derived.Laws.RangeString
import Derived.Laws.RangeAny
import Derived.LoopTactic
namespace Go.Proofs.Ytjhllkjcaodcgaa
open Go.RowKit Go.Lib
def scanV : Option (List Nat) → Value
  | none => .tuple #[.int .i64 0, .bool false, .bool false]
  | some rs => .tuple #[.int .i64 rs.length, .bool true, .bool (rs.all goodR)]
/-- The runes rs have been met up to the place pos. -/
def SoFar (s : ByteArray) (pos : Nat) (rs : List Nat) : Prop := runes s.data.toList = (runes (s.data.toList.drop pos)).map (rs ++ ·)
theorem sofar_start (s : ByteArray) : SoFar s 0 [] := by simp [SoFar]
theorem drop_ne (s : ByteArray) (pos : Nat) (h : pos < s.size) : s.data.toList.drop pos ≠ [] := by
  intro e
  have := congrArg List.length e
  simp at this
  have h2 : s.data.size = s.size := rfl
  omega
theorem sofar_bad {s : ByteArray} {pos : Nat} {rs : List Nat} (h : SoFar s pos rs) (hlt : pos < s.size) (hb : BadHead (s.data.toList.drop pos)) : runes s.data.toList = none := by
  rw [h, runes_bad _ (drop_ne s pos hlt) hb]; rfl
theorem sofar_step {s : ByteArray} {pos : Nat} {rs : List Nat} (h : SoFar s pos rs) (hlt : pos < s.size) (hb : ¬ BadHead (s.data.toList.drop pos)) :
    SoFar s (pos + (Utf8.decode s pos).2) (rs ++ [(Utf8.decode s pos).1]) := by
  unfold SoFar at h ⊢
  rw [h, runes_step _ (drop_ne s pos hlt) hb, decodeL_drop, List.drop_drop]
  cases runes (List.drop (pos + (Utf8.decode s pos).2) s.data.toList) <;> simp
theorem sofar_end {s : ByteArray} {pos : Nat} {rs : List Nat} (h : SoFar s pos rs) (hge : ¬ pos < s.size) : runes s.data.toList = some rs := by
  have e : s.data.toList.drop pos = [] := List.drop_eq_nil_of_le (by have h2 : s.data.size = s.size := rfl; simp; omega)
  rw [h, e, runes_nil]; simp
theorem width_le (s : ByteArray) (pos : Nat) (hlt : pos < s.size) : pos + (Utf8.decode s pos).2 ≤ s.size := by
  have := decodeL_le _ (drop_ne s pos hlt)
  rw [decodeL_drop] at this
  simp at this
  have h2 : s.data.size = s.size := rfl
  omega
theorem bad_iff (s : ByteArray) (pos : Nat) : BadHead (s.data.toList.drop pos) ↔ (Utf8.decode s pos).1 = 65533 ∧ (Utf8.decode s pos).2 = 1 := by
  unfold BadHead; rw [decodeL_drop]
theorem prefix_at (s : ByteArray) (pos : Nat) (hlt : pos < s.size) (hr : (Utf8.decode s pos).1 = 65533) : hasPrefix (s.extract pos s.size).data.toList [239, 191, 189] = !decide (BadHead (s.data.toList.drop pos)) := by
  rw [Lib.extract_to_end]
  exact repl _ (drop_ne s pos hlt) (by rw [decodeL_drop]; exact hr)
theorem all_snoc (rs : List Nat) (r : Nat) (b : Bool) (h : goodR r = b) : (rs ++ [r]).all goodR = (rs.all goodR && b) := by simp [h]
theorem good_no {r : Nat} (h : r < 32 ∨ r = 47 ∨ r = 127) : goodR r = false := by
  rcases h with h | h | h
  · simp [goodR, h]
  · subst h; rfl
  · subst h; rfl
theorem good_yes {r : Nat} (h1 : 32 ≤ r) (h2 : r ≠ 47) (h3 : r ≠ 127) : goodR r = true := by
  simp [goodR, h2, h3]; omega
theorem num_snoc (rs : List Nat) (r : Nat) : Value.int .i64 ((rs.length : Int) + 1) = Value.int .i64 ((rs ++ [r]).length : Nat) := by simp
theorem pl_no (rs : List Nat) (r : Nat) (h : goodR r = false) : Value.bool false = Value.bool ((rs ++ [r]).all goodR) := by rw [all_snoc rs r _ h]; simp
theorem pl_yes (rs : List Nat) (r : Nat) (h : goodR r = true) : Value.bool (rs.all goodR) = Value.bool ((rs ++ [r]).all goodR) := by rw [all_snoc rs r _ h]; simp
set_option maxHeartbeats 1000000 in
theorem scan_far (s : ByteArray) (w : World) (hs : s.size ≤ 9223372036854775807) :
    Calls Try.prog 85 #[.string s] w fun e w' => e = .returned (scanV (runes s.data.toList)) ∧ Below w.heap.size w w' := by
  go_enter Try.func85, Try.ntmps85
  go_wp2
  go_step3
  go_wp2
  go_step3
  go_wp2
  go_loopw [2, 3, 4] (fun n ok pl w' => ∃ (pos : Nat) (rs : List Nat), w' = w.iter s pos ∧ pos ≤ s.size ∧ rs.length ≤ pos ∧ SoFar s pos rs ∧ n = .int .i64 rs.length ∧ ok = .bool true ∧ pl = .bool (rs.all goodR)) (fun _ _ _ w' => s.size - w'.iterPos w.heap.size)
  case atStart => exact ⟨0, [], rfl, Nat.zero_le _, Nat.le_refl _, sofar_start s, rfl, rfl, rfl⟩
  case round =>
    obtain ⟨pos, rs, rfl, hp, hl, hso, rfl, rfl, rfl⟩ := hrel
    have Hso := Lib.hid hso
    clear hso
    by_cases hlt : pos < s.size
    · have hnx : ∀ ty, (Instr.next (.pointer (some ⟨w.heap.size, 0, none⟩)) true ty).run Try.prog (w.iter s pos) = _ := fun ty => run_next_any w s pos ty hlt
      have hwd := Lib.width_pos s pos
      have hle := width_le s pos hlt
      by_cases hb : (Utf8.decode s pos).1 = 65533 ∧ (Utf8.decode s pos).2 = 1
      · have Hn := Lib.hid (sofar_bad Hso.out hlt ((bad_iff s pos).2 hb))
        have Hp := Lib.hid (prefix_at s pos hlt hb.1)
        rw [decide_eq_true ((bad_iff s pos).2 hb)] at Hp
        have hr := hb.1
        clear hb
        go_wp2_with (go_at_call 86; refine (Try.strings_HasPrefix _ _ _).mono ?_; rintro e w' ⟨rfl, rfl⟩; rw [Hp.out])
        rw [Exit.noGoto_ret]
        go_ret3
        exact ⟨by rw [Hn.out]; rfl, (Below.refl _ _).alloc (Nat.le_refl _) _⟩
      · have Hs := Lib.hid (sofar_step Hso.out hlt (fun h => hb ((bad_iff s pos).1 h)))
        by_cases hr : (Utf8.decode s pos).1 = 65533
        · have Hp := Lib.hid (prefix_at s pos hlt hr)
          rw [decide_eq_false (fun h => hb ((bad_iff s pos).1 h))] at Hp
          clear hb
          go_wp2_with (go_at_call 86; refine (Try.strings_HasPrefix _ _ _).mono ?_; rintro e w' ⟨rfl, rfl⟩; rw [Hp.out])
          go_roundw
          case rel => exact ⟨_, _, rfl, hle, by simp only [List.length_append, List.length_singleton]; omega, Hs.out, num_snoc _ _, rfl, pl_yes _ _ (good_yes (by omega) (by omega) (by omega))⟩
          case measure => simp; omega
        · clear hb
          by_cases h1 : (Utf8.decode s pos).1 < 32
          · go_wp2
            go_roundw
            case rel => exact ⟨_, _, rfl, hle, by simp only [List.length_append, List.length_singleton]; omega, Hs.out, num_snoc _ _, rfl, pl_no _ _ (good_no (.inl h1))⟩
            case measure => simp; omega
          · by_cases h2 : (Utf8.decode s pos).1 = 47
            · have H2 := Lib.hid h2
              have b2 : (((Utf8.decode s pos).1 : Int) == 47) = true := beq_iff_eq.2 (by omega)
              clear h2
              go_wp2
              go_roundw
              case rel => exact ⟨_, _, rfl, hle, by simp only [List.length_append, List.length_singleton]; omega, Hs.out, num_snoc _ _, rfl, pl_no _ _ (good_no (.inr (.inl H2.out)))⟩
              case measure => simp; omega
            · have b2 : (((Utf8.decode s pos).1 : Int) == 47) = false := beq_eq_false_iff_ne.2 (by omega)
              by_cases h3 : (Utf8.decode s pos).1 = 127
              · have H3 := Lib.hid h3
                have b3 : (((Utf8.decode s pos).1 : Int) == 127) = true := beq_iff_eq.2 (by omega)
                clear h3
                go_wp2
                go_roundw
                case rel => exact ⟨_, _, rfl, hle, by simp only [List.length_append, List.length_singleton]; omega, Hs.out, num_snoc _ _, rfl, pl_no _ _ (good_no (.inr (.inr H3.out)))⟩
                case measure => simp; omega
              · have b3 : (((Utf8.decode s pos).1 : Int) == 127) = false := beq_eq_false_iff_ne.2 (by omega)
                go_wp2
                go_roundw
                case rel => exact ⟨_, _, rfl, hle, by simp only [List.length_append, List.length_singleton]; omega, Hs.out, num_snoc _ _, rfl, pl_yes _ _ (good_yes (by omega) h2 h3)⟩
                case measure => simp; omega
    · have hnx : ∀ ty, (Instr.next (.pointer (some ⟨w.heap.size, 0, none⟩)) true ty).run Try.prog (w.iter s pos) = _ := fun ty => run_next_end w s pos ty hlt
      have Hn := Lib.hid (sofar_end Hso.out hlt)
      go_wp2
      rw [Exit.noGoto_ret]
      go_ret3
      exact ⟨by rw [Hn.out]; rfl, (Below.refl _ _).alloc (Nat.le_refl _) _⟩
theorem scan_any (s : ByteArray) (w : World) (hs : s.size ≤ 1000000) :
    Calls Try.prog 85 #[.string s] w fun e w' => e = .returned (scanV (runes s.data.toList)) ∧ Below w.heap.size w w' := scan_far s w (by omega)
end Go.Proofs.Ytjhllkjcaodcgaa
