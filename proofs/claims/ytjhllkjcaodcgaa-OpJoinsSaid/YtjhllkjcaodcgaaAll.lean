import Derived.Test.YtjhllkjcaodcgaaTaken
import Derived.Deep.QuietTactic
import Derived.BigQuiet
namespace Go.Proofs.Ytjhllkjcaodcgaa
open Go.RowKit Go.Lib Go.PlainAid
def vi (n : Nat) : Value := .int .i64 n
/-- What a slice of numbers that is read holds. -/
def IsN (w : World) (a : Option Addr) (c : Nat) (l : List Nat) : Prop :=
  l.length ≤ c ∧ (l ≠ [] → ∃ b o, a = some ⟨b, o, none⟩ ∧ b < w.heap.size ∧ ∀ j x, l[j]? = some x → w.cell? ⟨b, o + j, none⟩ = some (.int .i64 (x : Nat)))
theorem IsN.below {w w' : World} {a : Option Addr} {c : Nat} {l : List Nat} (h : IsN w a c l) (hb : Below w.heap.size w w') : IsN w' a c l :=
  ⟨h.1, fun hne => by
    obtain ⟨b, o, e, hlt, hc⟩ := h.2 hne
    exact ⟨b, o, e, Nat.lt_of_lt_of_le hlt hb.size, fun j x hj => by rw [hb.cell (p := ⟨b, o + j, none⟩) hlt]; exact hc j x hj⟩⟩
theorem own_isN {w : World} {base : Nat} {e : TypeId} {v : Value} {n : Nat} {l : List Nat} (h : w.ownsRow base e 1 v n (l.map vi)) (hnl : l.length = n) : ∃ a c, v = .slice a l.length c ∧ IsN w a c l := by
  subst hnl
  have hc : ∀ g, v.ownBlock = some g → ∀ j u, (l.map vi)[j]? = some u → w.cell? ((⟨g, 0, none⟩ : Addr).add j) = some u := fun g hg => h.cells hg
  have hlt := h.lt
  obtain ⟨hn, ⟨rfl, h0⟩ | ⟨g, cap, cur, rfl, hb, hg, hcap, hm, hs, hx⟩⟩ := h
  · have : l = [] := List.eq_nil_of_length_eq_zero h0
    subst this
    exact ⟨none, 0, rfl, Nat.le_refl _, fun h => absurd rfl h⟩
  · refine ⟨_, cap, rfl, hcap, fun _ => ⟨g, 0, rfl, (hlt g rfl).2, fun j x hj => ?_⟩⟩
    have := hc g rfl j (vi x) (by rw [List.getElem?_map, hj]; rfl)
    have e : (⟨g, 0, none⟩ : Addr).add j = ⟨g, 0 + j, none⟩ := by unfold Addr.add; split <;> simp_all
    rw [e] at this
    exact this
theorem info3 : (Try.prog.info? 3).map (fun i => (i.zero, i.size, i.bytes)) = some (some (.int .i64 0), 1, 8) := by kernel_rfl
theorem tk_bad {l : List UInt8} (h : BadHead l) : tk l = (0, 0) := by unfold tk; rw [if_pos h]
theorem tk_ok {l : List UInt8} (h : ¬ BadHead l) : tk l = decodeL l := by unfold tk; rw [if_neg h]
def AllPost (o : Option (List Nat)) (w : World) (e : Ending) (w' : World) : Prop := match o with
  | none => e = .returned (.tuple #[.slice none 0 0, .bool false]) ∧ Below w.heap.size w w'
  | some rs => ∃ a c, e = .returned (.tuple #[.slice a rs.length c, .bool true]) ∧ IsN w' a c rs ∧ Below w.heap.size w w'
set_option maxHeartbeats 2000000 in
theorem all_any (s : ByteArray) (w : World) (hs : s.size ≤ 1000000) :
    Calls Try.prog 51 #[.string s] w (AllPost (runes s.data.toList) w) := by
  obtain ⟨i3, hi3, hz0, hz1, hz2⟩ := info_parts info3
  go_enter Try.func51, Try.ntmps51
  go_wp2
  go_loopw [4, 5] (fun v p w' => ∃ (pos : Nat) (rs : List Nat), pos ≤ s.size ∧ rs.length ≤ pos ∧ SoFar s pos rs ∧ p = .int .i64 pos ∧ w'.ownsRow w.heap.size 3 1 v rs.length (rs.map vi) ∧ Below w.heap.size w w') (fun _ p _ => s.size - (RowKit.intOf p).toNat)
  case atStart => exact ⟨0, [], Nat.zero_le _, Nat.le_refl _, sofar_start s, rfl, World.ownsRow_nil _ _ _ _, Below.refl _ _⟩
  case round =>
    obtain ⟨pos, rs, hp, hl, hso, rfl, how, hb⟩ := hrel
    have Hso := Lib.hid hso
    have HO := Lib.hid how
    have hws := hb.size
    clear hso how
    by_cases hlt : pos < s.size
    · by_cases hbad : BadHead (s.data.toList.drop pos)
      · have Hn := Lib.hid (sofar_bad Hso.out hlt hbad)
        have Ht := Lib.hid (tk_bad hbad)
        clear hbad
        go_wp2_with fail
        refine (take_any s pos _ hs hlt).mono ?_
        rintro e w1 ⟨rfl, rfl⟩
        rw [Ht.out]
        go_wp2
        go_ret2
        show AllPost (runes s.data.toList) w _ _
        rw [Hn.out]
        exact ⟨rfl, hb⟩
      · have Hs := Lib.hid (sofar_step Hso.out hlt hbad)
        have hwd := Lib.width_pos s pos
        have hle := width_le s pos hlt
        have hwz : (((Utf8.decode s pos).2 : Int) == 0) = false := beq_eq_false_iff_ne.2 (by omega)
        have Ht := Lib.hid ((tk_ok hbad).trans (decodeL_drop s pos))
        clear hbad
        go_wp2_with (first | (go_at_call 58; refine (take_any s pos _ hs hlt).mono ?_; rintro e w1 ⟨rfl, rfl⟩; rw [Ht.out]) | (at_builtin; refine wpList_append_own _ rfl _ _ 87 rfl w.heap.size 3 i3 (.int .i64 0) 1 8 Try.underlying87 hi3 hz0 hz1 hz2 rfl (by decide) _ _ _ rfl (HO.out.alloc _) ⟨wr.heap.size, 0, none⟩ 1 1 [vi (Utf8.decode s pos).1] rfl rfl ?c1 ?c2 ?c3 ?c4 ?c5 ?_))
        case c1 =>
          intro j u hj
          match j, hj with
          | 0, hj => simp at hj; subst hj; simp [Addr.add, vi]
        case c2 => intro u hu; simp at hu; subst hu; rfl
        case c3 => unfold maxLen; omega
        case c4 => omega
        case c5 => simp; omega
        intro v' w2 hown' hgrow _
        have b2 := ((hb.alloc hws _).grown hgrow (by simp; omega) (fun r hr => (HO.out.lt r hr).1))
        have HO2 := Lib.hid hown'
        clear hown' hgrow
        go_wp2
        go_roundw
        case rel => exact ⟨pos + (Utf8.decode s pos).2, rs ++ [(Utf8.decode s pos).1], hle, by simp only [List.length_append, List.length_singleton]; omega, Hs.out, by go_num, by rw [List.length_append, List.map_append]; exact HO2.out, b2⟩
        case measure => simp [RowKit.intOf]; omega
    · have Hn := Lib.hid (sofar_end Hso.out hlt)
      obtain ⟨a, c, rfl, hl2⟩ := own_isN HO.out rfl
      go_wp2
      go_ret2
      show AllPost (runes s.data.toList) w _ _
      rw [Hn.out]
      exact ⟨a, c, rfl, hl2, hb⟩
end Go.Proofs.Ytjhllkjcaodcgaa
