import Derived.Test.YtjilmnadcbamaaaDoorAwake
namespace Go.Proofs.YtjilmnadcbamaaaDoor
open Go.RowKit Go.Lib
theorem from_below {P : Program} {f : FuncId} {args : Array Value} {w0 w : World} {Q : Ending → Prop} (h : Calls P f args w fun e w' => Q e ∧ Below w.heap.size w w') (hb : Below w0.heap.size w0 w) :
    Calls P f args w fun e w' => Q e ∧ Below w0.heap.size w0 w' :=
  h.mono fun _ _ ⟨q, b⟩ => ⟨q, hb.trans (b.mono hb.size)⟩
theorem ord_no1 {a b : List UInt8} (hne : a ≠ b) (h : lessB a b = true) (k : lessB b a = true) : False := by
  have := lessB_total a b hne; rw [h, k] at this; cases this
theorem ord_no2 {a b : List UInt8} (hne : a ≠ b) (h : ¬ lessB a b = true) (k : ¬ lessB b a = true) : False := by
  have := lessB_total a b hne; rw [Bool.not_eq_true] at h k; rw [h, k] at this; cases this
theorem bytes_ne {a b : ByteArray} (h : a ≠ b) : a.data.toList ≠ b.data.toList := fun e => h (ByteArray.ext (Array.ext' e))
set_option maxHeartbeats 2000000 in
theorem order_walk (a b c : ByteArray) (w : World) (hm : HasMax w) (ha : a.size ≤ maxLen) (hb : b.size ≤ maxLen) (hc : c.size ≤ maxLen) :
    Calls Tryd.prog 5 #[.string a, .string b, .string c] w fun e w' => e = .returned (.bool true) ∧ Below w.heap.size w w' := by
  unfold maxLen at ha hb hc
  have HM := Lib.hid hm
  clear hm
  by_cases h1 : a.size ≤ 1000 ∧ b.size ≤ 1000 ∧ c.size ≤ 1000
  · obtain ⟨ha1, hb1, hc1⟩ := h1
    by_cases hab : a = b
    · subst hab
      have hirr := lessB_irrefl a.data.toList
      go_enter Tryd.func5, Tryd.ntmps5
      go_wp2_with (first | (go_at_call 9; refine (awake_any _ HM.out).mono ?_; rintro e w' ⟨rfl, hw⟩) | (go_at_call 19; refine (from_below (less_any _ _ _ (by omega) (by omega)) ‹_›).mono ?_; rintro e w' ⟨rfl, hw⟩))
      go_ret
      exact ⟨rfl, by assumption⟩
    · have hq : (a.toList == b.toList) = false := beq_eq_false_iff_ne.2 (fun e => hab (by rw [ByteArray.toList_eq, ByteArray.toList_eq] at e; exact ByteArray.ext (Array.ext' e)))
      have Hab := Lib.hid (bytes_ne hab)
      clear hab
      go_enter Tryd.func5, Tryd.ntmps5
      go_wp2_with (first | (go_at_call 9; refine (awake_any _ HM.out).mono ?_; rintro e w' ⟨rfl, hw⟩) | (go_at_call 19; refine (from_below (less_any _ _ _ (by omega) (by omega)) ‹_›).mono ?_; rintro e w' ⟨rfl, hw⟩))
      all_goals first
        | exact (ord_no1 Hab.out ‹lessB a.data.toList b.data.toList = true› ‹lessB b.data.toList a.data.toList = true›).elim
        | exact (ord_no2 Hab.out ‹¬ lessB a.data.toList b.data.toList = true› ‹¬ lessB b.data.toList a.data.toList = true›).elim
        | (go_ret; exact ⟨ret_bool (lessB_trans _ _ _ ‹lessB a.data.toList b.data.toList = true› ‹lessB b.data.toList c.data.toList = true›), by assumption⟩)
        | (go_ret; exact ⟨rfl, by assumption⟩)
  · go_enter Tryd.func5, Tryd.ntmps5
    go_wp2_with (first | (go_at_call 9; refine (awake_any _ HM.out).mono ?_; rintro e w' ⟨rfl, hw⟩) | (go_at_call 19; exfalso; omega))
    all_goals (go_ret; exact ⟨rfl, by assumption⟩)
end Go.Proofs.YtjilmnadcbamaaaDoor
