/-
  Slices of operations, as records.
-/
import Derived.Test.YtnndanpahcdmaaaRNod
namespace Go.Proofs.Ytnndanpahcdmaaa
open Go.RowKit Go.Lib
def cellsOp (o : Opn) : List Value := [.int .i64 o.c, .int .i64 o.r, .int .i64 o.k, .int .i64 o.n, .int .i64 o.p, .string o.s, .string o.d]
theorem op_len (o : Opn) : (cellsOp o).length = 7 := rfl
theorem op_one (o : Opn) : ∀ u ∈ cellsOp o, u.oneCell' = true := by
  intro u hu
  simp only [cellsOp, List.mem_cons, List.not_mem_nil, or_false] at hu
  obtain rfl | rfl | rfl | rfl | rfl | rfl | rfl := hu <;> rfl
abbrev IsOp (w : World) (a : Option Addr) (c : Nat) (l : List Opn) : Prop := IsR cellsOp 7 w a c l
abbrev OwnOp (B : Nat) (l : List Opn) (v : Value) (w : World) : Prop := OwnR cellsOp 7 B l v w
/-- An operation's cells, one by one. -/
def AtOp (w : World) (b off : Nat) (o : Opn) : Prop :=
  w.cell? ⟨b, off, none⟩ = some (.int .i64 o.c) ∧ w.cell? ⟨b, off + 1, none⟩ = some (.int .i64 o.r) ∧ w.cell? ⟨b, off + 2, none⟩ = some (.int .i64 o.k) ∧ w.cell? ⟨b, off + 3, none⟩ = some (.int .i64 o.n) ∧
  w.cell? ⟨b, off + 4, none⟩ = some (.int .i64 o.p) ∧ w.cell? ⟨b, off + 5, none⟩ = some (.string o.s) ∧ w.cell? ⟨b, off + 6, none⟩ = some (.string o.d)
theorem atOp_of {w : World} {b off : Nat} {o : Opn} (h : AtC (cellsOp o) w b off) : AtOp w b off o := ⟨h 0 _ rfl, h 1 _ rfl, h 2 _ rfl, h 3 _ rfl, h 4 _ rfl, h 5 _ rfl, h 6 _ rfl⟩
theorem IsR.opn {w : World} {a : Option Addr} {c : Nat} {l : List Opn} (h : IsOp w a c l) {k : Nat} {x : Opn} (hx : l[k]? = some x) : ∃ b o, a = some ⟨b, o, none⟩ ∧ b < w.heap.size ∧ ∀ j y, l[j]? = some y → AtOp w b (o + j * 7) y := by
  have hne : l ≠ [] := by intro e; subst e; simp at hx
  obtain ⟨b, o, e, hlt, hc⟩ := h.2.2 hne
  exact ⟨b, o, e, hlt, fun j y hj => atOp_of (hc j y hj)⟩
theorem infoOp : (Try.prog.info? 26).map (fun i => (i.zero, i.size, i.bytes)) = some (some (.agg #[.int .i64 0, .int .i64 0, .int .i64 0, .int .i64 0, .int .i64 0, .string ByteArray.empty, .string ByteArray.empty]), 7, 72) := by kernel_rfl
def smallO (o : Opn) : Bool := decide (o.s.size ≤ 1000) && decide (o.d.size ≤ 1000)
def fewOp (l : List Opn) (n : Int) : Bool := l.all smallO && decide ((l.length : Int) ≤ n)
theorem fewOp_of {l : List Opn} {n : Int} (h : fewOp l n = true) : (∀ o ∈ l, o.s.size ≤ 1000 ∧ o.d.size ≤ 1000) ∧ (l.length : Int) ≤ n := by
  unfold fewOp at h
  rw [Bool.and_eq_true, List.all_eq_true] at h
  exact ⟨fun o ho => by simpa [smallO] using h.1 o ho, of_decide_eq_true h.2⟩
set_option maxRecDepth 100000 in
set_option maxHeartbeats 2000000 in
theorem ofew_any (a : Option Addr) (c : Nat) (l : List Opn) (n : Int) (w : World) (h : IsOp w a c l) (hl : l.length ≤ maxLen) :
    Calls Try.prog 10 #[.slice a l.length c, .int .i64 n] w fun e w' => e = .returned (.bool (fewOp l n)) ∧ w' = w := by
  unfold maxLen at hl
  go_enter Try.func10, Try.ntmps10
  go_wp2
  go_loop [5] (fun i => ∃ k : Nat, k ≤ l.length ∧ i = .int .i64 k ∧ (l.take k).all smallO = true) (fun i => l.length - (RowKit.intOf i).toNat)
  case atStart => exact ⟨0, Nat.zero_le _, rfl, rfl⟩
  case round =>
    obtain ⟨k, hk, rfl, ha⟩ := hrel
    have Ha := Lib.hid ha
    clear ha
    by_cases hkl : k < l.length
    · obtain ⟨x, hx⟩ : ∃ x, l[k]? = some x := ⟨l[k], List.getElem?_eq_getElem hkl⟩
      obtain ⟨g, o, rfl, hlt, hc⟩ := h.opn hx
      obtain ⟨k0, k1, k2, k3, k4, k5, k6⟩ := hc k x hx
      have HA := Lib.hid (all_take_succ smallO l k x hx)
      have HF := Lib.hid (all_false smallO l k x hx)
      clear hx hc
      by_cases h1 : x.s.size ≤ 1000
      · have d1 : decide ((1000 : Int) < (x.s.size : Int)) = false := decide_eq_false (by omega)
        by_cases h2 : x.d.size ≤ 1000
        · have d2 : decide ((1000 : Int) < (x.d.size : Int)) = false := decide_eq_false (by omega)
          go_wp2_with fail
          go_round
          case rel => exact ⟨k + 1, by omega, by go_num, by rw [HA.out, Ha.out]; unfold smallO; rw [decide_eq_true h1, decide_eq_true h2]; rfl⟩
          case measure => simp [RowKit.intOf]; omega
        · have d2 : decide ((1000 : Int) < (x.d.size : Int)) = true := decide_eq_true (by omega)
          have HN := Lib.hid (HF.out (by unfold smallO; rw [decide_eq_false h2, Bool.and_false]))
          go_wp2_with fail
          go_ret
          exact ⟨by unfold fewOp; rw [HN.out]; rfl, rfl⟩
      · have d1 : decide ((1000 : Int) < (x.s.size : Int)) = true := decide_eq_true (by omega)
        have HN := Lib.hid (HF.out (by unfold smallO; rw [decide_eq_false h1, Bool.false_and]))
        go_wp2_with fail
        go_ret
        exact ⟨by unfold fewOp; rw [HN.out]; rfl, rfl⟩
    · have e : k = l.length := by omega
      subst e
      rw [List.take_length] at Ha
      go_wp2
      go_ret
      exact ⟨by unfold fewOp; rw [Ha.out, Bool.true_and]; rfl, rfl⟩
theorem sort_take {l : List Opn} {k : Nat} {x : Opn} (h : l[k]? = some x) : sortO (l.take (k + 1)) = addS (sortO (l.take k)) x := by
  rw [List.take_add_one, h]
  exact sortO_snoc _ _
theorem sort_len (l : List Opn) : (sortO l).length ≤ l.length := by
  refine list_snoc (P := fun l => (sortO l).length ≤ l.length) (Nat.le_refl _) (fun l x ih => ?_) l
  rw [sortO_snoc, List.length_append, List.length_singleton]
  have : ∀ (o : Opn) (s : List Opn), (insS o s).length ≤ s.length + 1 := by
    intro o s
    induction s with
    | nil => simp [insS]
    | cons y r ih =>
      unfold insS
      split
      · simp only [List.length_cons]; omega
      · split
        · simp
        · simp
  unfold addS
  split
  · have := this x (sortO l); omega
  · omega
/-- Where the search from behind ends. -/
theorem ins_place {s : List Opn} (hs : Srt s) {o : Opn} {k : Nat} (hk : k ≤ s.length) (hb : ∀ (j : Nat) y, k ≤ j → s[j]? = some y → ltA o y = true) (ha : ∀ y, 0 < k → s[k - 1]? = some y → ltA o y = false) (hne : ∀ y, 0 < k → s[k - 1]? = some y → ¬ eqA y o) :
    insS o s = s.take k ++ o :: s.drop k := by
  conv => lhs; rw [← List.take_append_drop k s]
  refine insS_at (fun x hx => ?_) (fun x hx => ?_)
  · obtain ⟨j, hj, rfl⟩ := List.mem_iff_getElem.1 hx
    rw [List.length_take] at hj
    have hk0 : 0 < k := by omega
    have hl : s[k - 1]? = some s[k - 1] := List.getElem?_eq_getElem (by omega)
    have h1 := ha _ hk0 hl
    have h2 := hne _ hk0 hl
    have h3 : ltA s[k - 1] o = true := by
      rcases ltA_no h1 with h | h
      · exact absurd ⟨h.1.symm, h.2.symm⟩ h2
      · exact h
    rw [List.getElem_take]
    by_cases e : j = k - 1
    · subst e; exact h3
    · exact ltA_trans (List.pairwise_iff_getElem.1 hs j (k - 1) (by omega) (by omega) (by omega)) h3
  · obtain ⟨j, hj, rfl⟩ := List.mem_iff_getElem.1 hx
    rw [List.length_drop] at hj
    rw [List.getElem_drop]
    exact hb (k + j) _ (by omega) (List.getElem?_eq_getElem (by omega))
end Go.Proofs.Ytnndanpahcdmaaa
