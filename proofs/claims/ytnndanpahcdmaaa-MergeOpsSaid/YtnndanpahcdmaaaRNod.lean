/-
  Slices of nodes; the document's Few, Check, at, Find.
-/
import Derived.Test.YtnndanpahcdmaaaPkR
import Derived.Test.YtnndanpahcdmaaaPkP
import Derived.Test.YtnndanpahcdmaaaRChk
import Derived.Deep.QuietTactic
import Derived.BigQuiet
namespace Go.Proofs.Ytnndanpahcdmaaa
open Go.RowKit Go.Lib
/-- A node's cells. -/
def cellsNd (x : Nod) : List Value := [.int .i64 x.id, .int .i64 x.p, .string x.s, .int .i64 x.mc, .int .i64 x.mr, .string x.d, .int .i64 x.wc, .int .i64 x.wr]
/-- A node, as a slot holds it. -/
abbrev NV (x : Nod) : Value := .agg #[.int .i64 x.id, .int .i64 x.p, .string x.s, .int .i64 x.mc, .int .i64 x.mr, .string x.d, .int .i64 x.wc, .int .i64 x.wr]
theorem nd_len (x : Nod) : (cellsNd x).length = 8 := rfl
theorem nd_one (x : Nod) : ∀ u ∈ cellsNd x, u.oneCell' = true := by
  intro u hu
  simp only [cellsNd, List.mem_cons, List.not_mem_nil, or_false] at hu
  obtain rfl | rfl | rfl | rfl | rfl | rfl | rfl | rfl := hu <;> rfl
abbrev IsNd (w : World) (a : Option Addr) (c : Nat) (l : List Nod) : Prop := IsR cellsNd 8 w a c l
abbrev OwnNd (B : Nat) (l : List Nod) (v : Value) (w : World) : Prop := OwnR cellsNd 8 B l v w
/-- A node's cells, one by one. -/
def AtN (w : World) (b off : Nat) (x : Nod) : Prop :=
  w.cell? ⟨b, off, none⟩ = some (.int .i64 x.id) ∧ w.cell? ⟨b, off + 1, none⟩ = some (.int .i64 x.p) ∧ w.cell? ⟨b, off + 2, none⟩ = some (.string x.s) ∧ w.cell? ⟨b, off + 3, none⟩ = some (.int .i64 x.mc) ∧
  w.cell? ⟨b, off + 4, none⟩ = some (.int .i64 x.mr) ∧ w.cell? ⟨b, off + 5, none⟩ = some (.string x.d) ∧ w.cell? ⟨b, off + 6, none⟩ = some (.int .i64 x.wc) ∧ w.cell? ⟨b, off + 7, none⟩ = some (.int .i64 x.wr)
theorem atN_of {w : World} {b off : Nat} {x : Nod} (h : AtC (cellsNd x) w b off) : AtN w b off x :=
  ⟨h 0 _ rfl, h 1 _ rfl, h 2 _ rfl, h 3 _ rfl, h 4 _ rfl, h 5 _ rfl, h 6 _ rfl, h 7 _ rfl⟩
theorem atC_ofN {w : World} {b off : Nat} {x : Nod} (h : AtN w b off x) : AtC (cellsNd x) w b off := by
  obtain ⟨h0, h1, h2, h3, h4, h5, h6, h7⟩ := h
  intro i u hu
  match i, hu with
  | 0, hu => cases hu; exact h0
  | 1, hu => cases hu; exact h1
  | 2, hu => cases hu; exact h2
  | 3, hu => cases hu; exact h3
  | 4, hu => cases hu; exact h4
  | 5, hu => cases hu; exact h5
  | 6, hu => cases hu; exact h6
  | 7, hu => cases hu; exact h7
  | n + 8, hu => simp [cellsNd] at hu
/-- The place of a slice's k-th node. -/
theorem IsR.nod {w : World} {a : Option Addr} {c : Nat} {l : List Nod} (h : IsNd w a c l) {k : Nat} {x : Nod} (hx : l[k]? = some x) : ∃ b o, a = some ⟨b, o, none⟩ ∧ b < w.heap.size ∧ ∀ j y, l[j]? = some y → AtN w b (o + j * 8) y := by
  have hne : l ≠ [] := by intro e; subst e; simp at hx
  obtain ⟨b, o, e, hlt, hc⟩ := h.2.2 hne
  exact ⟨b, o, e, hlt, fun j y hj => atN_of (hc j y hj)⟩
theorem infoN : (Try.prog.info? 45).map (fun i => (i.zero, i.size, i.bytes)) = some (some (.agg #[.int .i64 0, .int .i64 0, .string ByteArray.empty, .int .i64 0, .int .i64 0, .string ByteArray.empty, .int .i64 0, .int .i64 0]), 8, 80) := by kernel_rfl
def smallN (x : Nod) : Bool := decide (x.s.size ≤ 1000) && decide (x.d.size ≤ 1000)
def fewN (l : List Nod) (n : Int) : Bool := l.all smallN && decide ((l.length : Int) ≤ n)
theorem may_take {l : List Nod} {k : Nat} {x : Nod} (hx : l[k]? = some x) (h : MayN (l.take k)) (hi : isN x.id = true) (hp : ∀ y, 0 < k → l[k - 1]? = some y → y.id < x.id) : MayN (l.take (k + 1)) := by
  rw [List.take_add_one, hx]
  refine ⟨fun z hz => ?_, ?_⟩
  · rcases List.mem_append.1 hz with hz | hz
    · exact h.1 z hz
    · simp at hz; subst hz; exact hi
  · rw [List.pairwise_append]
    refine ⟨h.2, by simp, fun z hz y hy => ?_⟩
    simp at hy; subst hy
    obtain ⟨j, hj, rfl⟩ := List.mem_iff_getElem.1 hz
    rw [List.length_take] at hj
    have hkl := (List.getElem?_eq_some_iff.1 hx).1
    have hlast : l[k - 1]? = some l[k - 1] := List.getElem?_eq_getElem (by omega)
    have h1 := hp _ (by omega) hlast
    rw [List.getElem_take]
    by_cases e : j = k - 1
    · subst e; exact h1
    · have h2 := List.pairwise_iff_getElem.1 h.2 j (k - 1) (by rw [List.length_take]; omega) (by rw [List.length_take]; omega) (by omega)
      rw [List.getElem_take, List.getElem_take] at h2
      omega
theorem not_may {l : List Nod} {k : Nat} {x : Nod} (hx : l[k]? = some x) (h : isN x.id = false ∨ ∃ y, 0 < k ∧ l[k - 1]? = some y ∧ ¬ y.id < x.id) : chkN l = false := by
  unfold chkN
  refine decide_eq_false fun hm => ?_
  rcases h with h | ⟨y, hk, hy, hn⟩
  · rw [hm.1 x (List.mem_of_getElem? hx)] at h; cases h
  · obtain ⟨h1, e1⟩ := List.getElem?_eq_some_iff.1 hx
    obtain ⟨h2, e2⟩ := List.getElem?_eq_some_iff.1 hy
    have := List.pairwise_iff_getElem.1 hm.2 (k - 1) k h2 h1 (by omega)
    rw [e1, e2] at this
    exact hn this
set_option maxRecDepth 100000 in
set_option maxHeartbeats 4000000 in
theorem rnchk_any (a : Option Addr) (c : Nat) (l : List Nod) (w : World) (h : IsNd w a c l) (hl : l.length ≤ maxLen) :
    Calls Try.prog 70 #[.slice a l.length c] w fun e w' => e = .returned (.bool (chkN l)) ∧ Below w.heap.size w w' := by
  unfold maxLen at hl
  go_enter Try.func70, Try.ntmps70
  go_wp2
  go_loopw [3] (fun i w' => ∃ k : Nat, k ≤ l.length ∧ i = .int .i64 k ∧ MayN (l.take k) ∧ Below w.heap.size w w') (fun i _ => l.length - (RowKit.intOf i).toNat)
  case atStart => exact ⟨0, Nat.zero_le _, rfl, ⟨fun _ h => (by cases h), List.Pairwise.nil⟩, Below.refl _ _⟩
  case round =>
    obtain ⟨k, hk, rfl, ha, ck⟩ := hrel
    have Ha := Lib.hid ha
    clear ha
    by_cases hkl : k < l.length
    · obtain ⟨x, hx⟩ : ∃ x, l[k]? = some x := ⟨l[k], List.getElem?_eq_getElem hkl⟩
      obtain ⟨g, o, rfl, hlt, hc⟩ := (h.below ck).nod hx
      obtain ⟨k0, k1, k2, k3, k4, k5, k6, k7⟩ := hc k x hx
      have Hx := Lib.hid hx
      have Hc := Lib.hid hc
      obtain ⟨is, his⟩ : ∃ b, isN x.id = b := ⟨_, rfl⟩
      have Hi := Lib.hid his
      have H2 := Lib.hid (fun w => rof_any x.id w)
      rw [his] at H2
      clear hx hc his
      go_wp2_with fail
      refine (H2.out _).mono ?_
      rintro e w1 ⟨rfl, c1⟩
      have b1 := step_b ck c1
      cases is with
      | false =>
        have HN := Lib.hid (not_may Hx.out (.inl Hi.out))
        go_wp2_with fail
        refine wp_region_later (by kernel_rfl) (by kernel_rfl) (fun hL => ?_)
        repeat (go_big_quiet_step (fail))
        intro w' hw
        have bB := step_a b1 (later_out hw)
        clear hw hL
        go_wp2_with fail
        go_ret
        exact ⟨by rw [HN.out]; rfl, bB⟩
      | true =>
        rcases k with _ | j
        · have HA := Lib.hid (may_take Hx.out Ha.out Hi.out (fun y h0 => absurd h0 (Nat.lt_irrefl _)))
          go_wp2_with fail
          refine wp_region_later (by kernel_rfl) (by kernel_rfl) (fun hL => ?_)
          repeat (go_big_quiet_step (fail))
          intro w' hw
          have bB := step_a b1 (later_out hw)
          clear hw hL
          go_wp2_with fail
          go_roundw
          case rel => exact ⟨1, by omega, rfl, HA.out, bB⟩
          case measure => simp [RowKit.intOf]; omega
        · obtain ⟨y, hy⟩ : ∃ y, l[j]? = some y := ⟨l[j], List.getElem?_eq_getElem (by omega)⟩
          have q1 := below_alloc w1 (.cells #[.int .i64 (ofC x.id), .int .i64 (ofR x.id)] 24)
          have X := (atC_ofN (Hc.out (j + 1) x Hx.out)).keep ((step_b c1 q1).block g hlt)
          have Y := (atC_ofN (Hc.out j y hy)).keep ((step_b c1 q1).block g hlt)
          have hltw := Nat.lt_of_lt_of_le hlt (step_b c1 q1).size
          have hx0 := (atN_of X).1
          have hy0 := (atN_of Y).1
          have gj : (j : Int) < (l.length : Int) := by omega
          have gj1 : (j : Int) + 1 < (l.length : Int) := by omega
          have g0 : (0 : Int) < (j : Int) + 1 := by omega
          clear k0 k1 k2 k3 k4 k5 k6 k7 X Y c1
          by_cases hlt2 : y.id < x.id
          · have HA := Lib.hid (may_take Hx.out Ha.out Hi.out (fun z _ hz => by rw [show j + 1 - 1 = j from rfl, hy] at hz; cases hz; exact hlt2))
            have d1 : decide (x.id ≤ y.id) = false := decide_eq_false (by omega)
            go_wp2_with fail
            generalize w1.alloc (.cells #[.int .i64 (ofC x.id), .int .i64 (ofR x.id)] 24) = W2 at q1 hx0 hy0 hltw ⊢
            refine wp_region_later (by kernel_rfl) (by kernel_rfl) (fun hL => ?_)
            repeat (go_big_quiet_step (fail))
            intro w' hw
            have bB := b1.trans ((q1.mono b1.size).trans ((later_out hw).mono (Nat.le_trans b1.size q1.size)))
            clear hw hL
            go_wp2_with fail
            go_roundw
            case rel => exact ⟨j + 2, by omega, by go_num, HA.out, bB⟩
            case measure => simp [RowKit.intOf]; omega
          · have HN := Lib.hid (not_may Hx.out (.inr ⟨y, by omega, hy, hlt2⟩))
            have d1 : decide (x.id ≤ y.id) = true := decide_eq_true (by omega)
            go_wp2_with fail
            generalize w1.alloc (.cells #[.int .i64 (ofC x.id), .int .i64 (ofR x.id)] 24) = W2 at q1 hx0 hy0 hltw ⊢
            refine wp_region_later (by kernel_rfl) (by kernel_rfl) (fun hL => ?_)
            repeat (go_big_quiet_step (fail))
            intro w' hw
            have bB := b1.trans ((q1.mono b1.size).trans ((later_out hw).mono (Nat.le_trans b1.size q1.size)))
            clear hw hL
            go_wp2_with fail
            go_ret
            exact ⟨by rw [HN.out]; rfl, bB⟩
    · obtain rfl : k = l.length := by omega
      rw [List.take_length] at Ha
      go_wp2
      go_ret
      exact ⟨by rw [chkN_iff.2 Ha.out]; rfl, ck⟩
/-- The place of a number: the first node of it. -/
def AtPost (l : List Nod) (x : Nod) (w : World) (e : Ending) (w' : World) : Prop := ∃ k : Nat, e = .returned (.int .i64 k) ∧ l[k]? = some x ∧ w' = w
set_option maxRecDepth 100000 in
set_option maxHeartbeats 2000000 in
theorem rat_some {a : Option Addr} {c : Nat} {l : List Nod} {i : Int} {x : Nod} (w : World) (h : IsNd w a c l) (hl : l.length ≤ maxLen) (hg : getN l i = some x) :
    Calls Try.prog 80 #[.slice a l.length c, .int .i64 i] w (AtPost l x w) := by
  unfold maxLen at hl
  have HG := Lib.hid hg
  clear hg
  go_enter Try.func80, Try.ntmps80
  go_wp2
  go_loop [5] (fun u => ∃ k : Nat, k ≤ l.length ∧ u = .int .i64 k ∧ ∀ j y, j < k → l[j]? = some y → y.id ≠ i) (fun u => l.length - (RowKit.intOf u).toNat)
  case atStart => exact ⟨0, Nat.zero_le _, rfl, fun j _ hj => absurd hj (Nat.not_lt_zero _)⟩
  case round =>
    obtain ⟨k, hk, rfl, ha⟩ := hrel
    have Ha := Lib.hid ha
    clear ha
    by_cases hkl : k < l.length
    · obtain ⟨y, hy⟩ : ∃ y, l[k]? = some y := ⟨l[k], List.getElem?_eq_getElem hkl⟩
      obtain ⟨g, o, rfl, hlt, hc⟩ := h.nod hy
      obtain ⟨k0, k1, k2, k3, k4, k5, k6, k7⟩ := hc k y hy
      have Hy := Lib.hid hy
      clear hy hc k1 k2 k3 k4 k5 k6 k7
      by_cases he : y.id = i
      · have he2 : (y.id == i) = true := by rw [beq_iff_eq]; exact he
        have Hf := Lib.hid (show l[k]? = some x from by
          have hg := HG.out
          have : y = x := by
            have h1 : getN l i = some y := by
              unfold getN
              rw [List.find?_eq_some_iff_getElem]
              obtain ⟨hkl2, e⟩ := List.getElem?_eq_some_iff.1 Hy.out
              refine ⟨by simpa using he, k, hkl2, e, fun j hj => ?_⟩
              have := Ha.out j l[j] hj (List.getElem?_eq_getElem (by omega))
              simpa using this
            rw [h1] at hg; cases hg; rfl
          rw [← this]; exact Hy.out)
        clear he
        go_wp2_with fail
        go_ret
        exact ⟨k, rfl, Hf.out, rfl⟩
      · have he2 : (y.id == i) = false := by rw [beq_eq_false_iff_ne]; exact he
        have Hn := Lib.hid he
        clear he
        go_wp2_with fail
        go_round
        case rel => exact ⟨k + 1, by omega, by go_num, fun j z hj hz => by
          by_cases e : j = k
          · subst e; rw [Hy.out] at hz; cases hz; exact Hn.out
          · exact Ha.out j z (by omega) hz⟩
        case measure => simp [RowKit.intOf]; omega
    · exfalso
      obtain ⟨h1, h2⟩ := getN_some HG.out
      obtain ⟨j, hj, rfl⟩ := List.mem_iff_getElem.1 h1
      exact Ha.out j l[j] (by omega) (List.getElem?_eq_getElem hj) h2
set_option maxRecDepth 100000 in
set_option maxHeartbeats 2000000 in
theorem rat_none {a : Option Addr} {c : Nat} {l : List Nod} {i : Int} (w : World) (h : IsNd w a c l) (hl : l.length ≤ maxLen) (hg : getN l i = none) :
    Calls Try.prog 80 #[.slice a l.length c, .int .i64 i] w fun e w' => e = .returned (.int .i64 (-1)) ∧ w' = w := by
  unfold maxLen at hl
  have HG := Lib.hid (getN_none hg)
  clear hg
  go_enter Try.func80, Try.ntmps80
  go_wp2
  go_loop [5] (fun u => ∃ k : Nat, k ≤ l.length ∧ u = .int .i64 k) (fun u => l.length - (RowKit.intOf u).toNat)
  case atStart => exact ⟨0, Nat.zero_le _, rfl⟩
  case round =>
    obtain ⟨k, hk, rfl⟩ := hrel
    by_cases hkl : k < l.length
    · obtain ⟨y, hy⟩ : ∃ y, l[k]? = some y := ⟨l[k], List.getElem?_eq_getElem hkl⟩
      obtain ⟨g, o, rfl, hlt, hc⟩ := h.nod hy
      obtain ⟨k0, k1, k2, k3, k4, k5, k6, k7⟩ := hc k y hy
      have he2 : (y.id == i) = false := by rw [beq_eq_false_iff_ne]; exact HG.out y (List.mem_of_getElem? hy)
      clear hy hc k1 k2 k3 k4 k5 k6 k7
      go_wp2_with fail
      go_round
      case rel => exact ⟨k + 1, by omega, by go_num⟩
      case measure => simp [RowKit.intOf]; omega
    · go_wp2_with fail
      go_ret
      exact ⟨rfl, rfl⟩
end Go.Proofs.Ytnndanpahcdmaaa
