/-
  The document's loops, without, with.
-/
import Derived.Test.YtnndanpahcdmaaaRUp
namespace Go.Proofs.Ytnndanpahcdmaaa
open Go.RowKit Go.Lib
theorem hasO_cells {w : World} {g : Nat} {o : Opn} (h : HasO w g o) :
    w.cell? ⟨g, 0, none⟩ = some (.int .i64 o.c) ∧ w.cell? ⟨g, 1, none⟩ = some (.int .i64 o.r) ∧ w.cell? ⟨g, 2, none⟩ = some (.int .i64 o.k) ∧ w.cell? ⟨g, 3, none⟩ = some (.int .i64 o.n) ∧
    w.cell? ⟨g, 4, none⟩ = some (.int .i64 o.p) ∧ w.cell? ⟨g, 5, none⟩ = some (.string o.s) ∧ w.cell? ⟨g, 6, none⟩ = some (.string o.d) := h
theorem loops_has {l : List Nod} {o : Opn} {k : Nat} (h : (aboveN l o.p)[k]? = some o.n) : loopsN l o = true := by
  unfold loopsN
  have hm := List.mem_of_getElem? h
  rw [Bool.or_eq_true]
  left
  rw [List.contains_eq_mem]
  simpa using hm
theorem loops_none {l : List Nod} {o : Opn} (h : ∀ (j : Nat) y, (aboveN l o.p)[j]? = some y → y ≠ o.n) : loopsN l o = decide (o.p = o.n) := by
  unfold loopsN
  have : (aboveN l o.p).contains o.n = false := by
    rw [List.contains_eq_mem]
    simp only [decide_eq_false_iff_not]
    intro hm
    obtain ⟨j, hj, e⟩ := List.mem_iff_getElem.1 hm
    exact h j _ (List.getElem?_eq_getElem hj) e
  rw [this, Bool.false_or]
theorem above_len (l : List Nod) (i : Int) : (aboveN l i).length ≤ l.length := by
  unfold aboveN
  split
  · have : ∀ k j, (upN l k j).length ≤ k := by
      intro k
      induction k with
      | zero => intro j; simp [upN]
      | succ k ih =>
        intro j
        rw [upN_succ]
        cases parN l j with
        | none => simp
        | some q => simp only [List.length_cons]; have := ih q; omega
    exact this _ _
  · simp
set_option maxRecDepth 100000 in
set_option maxHeartbeats 4000000 in
theorem rloops_any (a : Option Addr) (c : Nat) (l : List Nod) (o : Opn) (w : World) (h : IsNd w a c l) (hl : l.length ≤ 1000000) :
    Calls Try.prog 73 #[.slice a l.length c, OV o] w fun e w' => e = .returned (.bool (loopsN l o)) ∧ Below w.heap.size w w' := by
  have q0 := below_alloc w (.cells #[.int .i64 o.c, .int .i64 o.r, .int .i64 o.k, .int .i64 o.n, .int .i64 o.p, .string o.s, .string o.d] 26)
  have h0 := Lib.hid (hasO_new w o 26)
  have h1 := Lib.hid (h.below q0)
  have hal := above_len l o.p
  obtain ⟨m0, m1, m2, m3, m4, m5, m6⟩ := h0.out
  go_enter Try.func73, Try.ntmps73
  go_wp2_with fail
  refine (rabove_any a c l o.p _ h1.out hl).mono ?_
  rintro e w1 ⟨v, rfl, hown, c1⟩
  obtain ⟨av, cv, rfl, hint⟩ := hown.isR ci_len
  have b1 := step_b q0 c1
  have HV := Lib.hid hint
  have HH := Lib.hid (h0.out.below c1)
  obtain ⟨up, hup⟩ : ∃ up, aboveN l o.p = up := ⟨_, rfl⟩
  have HUp := Lib.hid hup
  have HLo := Lib.hid (fun k (hk : up[k]? = some o.n) => loops_has (l := l) (o := o) (k := k) (by rw [hup]; exact hk))
  have HNo := Lib.hid (fun (hk : ∀ (j : Nat) y, up[j]? = some y → y ≠ o.n) => loops_none (l := l) (o := o) (by rw [hup]; exact hk))
  rw [hup] at HV hal ⊢
  obtain ⟨n0, n1, n2, n3, n4, n5, n6⟩ := HH.out
  have hlt := HH.out.lt
  clear m0 m1 m2 m3 m4 m5 m6 h0 hown hint hup c1
  go_wp2_with fail
  go_loopw [6] (fun u w' => ∃ k : Nat, k ≤ up.length ∧ u = .int .i64 k ∧ (∀ (j : Nat) y, j < k → up[j]? = some y → y ≠ o.n) ∧ Below w1.heap.size w1 w') (fun u _ => up.length - (RowKit.intOf u).toNat)
  case atStart => exact ⟨0, Nat.zero_le _, rfl, fun j _ hj => absurd hj (Nat.not_lt_zero _), Below.refl _ _⟩
  case round =>
    obtain ⟨k, hk, rfl, ha, ck⟩ := hrel
    have Ha := Lib.hid ha
    clear ha
    obtain ⟨r0, r1, r2, r3, r4, r5, r6⟩ := HH.out.below ck
    have hltr : w.heap.size < wr.heap.size := Nat.lt_of_lt_of_le hlt ck.size
    by_cases hkl : k < up.length
    · obtain ⟨y, hy⟩ : ∃ y, up[k]? = some y := ⟨up[k], List.getElem?_eq_getElem hkl⟩
      obtain ⟨g, off, rfl, hlg, hcell⟩ := (HV.out.below ck).int hy
      have hcy := hcell k y hy
      have hkl2 : (k : Int) < (up.length : Int) := by omega
      have Hy := Lib.hid hy
      clear hy hcell
      by_cases he : y = o.n
      · have he2 : (y == o.n) = true := by rw [beq_iff_eq]; exact he
        have HR := Lib.hid (HLo.out k (by rw [← he]; exact Hy.out))
        clear he
        go_wp2_with fail
        refine wp_region_later (by kernel_rfl) (by kernel_rfl) (fun hL => ?_)
        repeat (go_big_quiet_step (fail))
        intro w' hw
        have bB := step_b b1 (ck.trans ((later_out hw).mono ck.size))
        clear hw hL
        go_wp2_with fail
        go_ret
        exact ⟨by rw [HR.out]; rfl, bB⟩
      · have he2 : (y == o.n) = false := by rw [beq_eq_false_iff_ne]; exact he
        have Hn := Lib.hid he
        clear he
        go_wp2_with fail
        refine wp_region_later (by kernel_rfl) (by kernel_rfl) (fun hL => ?_)
        repeat (go_big_quiet_step (fail))
        intro w' hw
        have bB := ck.trans ((later_out hw).mono ck.size)
        clear hw hL
        go_wp2_with fail
        go_roundw
        case rel => exact ⟨k + 1, by omega, by go_num, fun j z hj hz => by
          by_cases e : j = k
          · subst e; rw [Hy.out] at hz; cases hz; exact Hn.out
          · exact Ha.out j z (by omega) hz, bB⟩
        case measure => simp [RowKit.intOf]; omega
    · have hkl2 : ¬ (k : Int) < (up.length : Int) := by omega
      have HR := Lib.hid (HNo.out fun j y hy => Ha.out j y (by have := (List.getElem?_eq_some_iff.1 hy).1; omega) hy)
      have bB := step_b b1 ck
      obtain ⟨t, ht⟩ : ∃ t, (o.p == o.n) = t := ⟨_, rfl⟩
      have HT := Lib.hid ht
      go_wp2_with fail
      go_ret
      exact ⟨by rw [HR.out, show decide (o.p = o.n) = t from HT.out]; rfl, bB⟩
theorem without_take {l : List Nod} {k : Nat} {x : Nod} (hx : l[k]? = some x) (i : Int) : without (l.take (k + 1)) i = if x.id = i then without (l.take k) i else without (l.take k) i ++ [x] := by
  unfold without
  rw [List.take_add_one, hx, List.filter_append]
  by_cases h : x.id = i
  · rw [if_pos h]; simp [h]
  · rw [if_neg h]; simp [h]
theorem without_len (l : List Nod) (i : Int) : (without l i).length ≤ l.length := List.length_filter_le _ _
def NdPost (l : List Nod) (w : World) (e : Ending) (w' : World) : Prop := ∃ v, e = .returned v ∧ OwnNd w.heap.size l v w' ∧ Below w.heap.size w w'
theorem atC_nod (w : World) (x : Nod) (t : TypeId) : AtC (cellsNd x) (w.alloc (.cells #[.int .i64 x.id, .int .i64 x.p, .string x.s, .int .i64 x.mc, .int .i64 x.mr, .string x.d, .int .i64 x.wc, .int .i64 x.wr] t)) w.heap.size 0 := atC_new w _ t
set_option maxRecDepth 100000 in
set_option maxHeartbeats 4000000 in
theorem rwithout_any (a : Option Addr) (c : Nat) (l : List Nod) (i : Int) (w : World) (h : IsNd w a c l) (hl : l.length ≤ 1000000) :
    Calls Try.prog 81 #[.slice a l.length c, .int .i64 i] w (NdPost (without l i) w) := by
  obtain ⟨ii, hi, hz, hsz, hby⟩ := info_parts infoN
  go_enter Try.func81, Try.ntmps81
  go_wp2_with fail
  go_loopw [5, 6] (fun out u w' => ∃ k : Nat, k ≤ l.length ∧ u = .int .i64 k ∧ OwnNd w.heap.size (without (l.take k) i) out w' ∧ Below w.heap.size w w') (fun _ u _ => l.length - (RowKit.intOf u).toNat)
  case atStart => exact ⟨0, Nat.zero_le _, rfl, ownR_nil _ _ _ _, Below.refl _ _⟩
  case round =>
    obtain ⟨k, hk, rfl, hown, ck⟩ := hrel
    have HO := Lib.hid hown
    have hwb := ck.size
    have hwl := without_len (l.take k) i
    rw [List.length_take] at hwl
    clear hown
    by_cases hkl : k < l.length
    · obtain ⟨x, hx⟩ : ∃ x, l[k]? = some x := ⟨l[k], List.getElem?_eq_getElem hkl⟩
      obtain ⟨g, o, rfl, hlt, hc⟩ := (h.below ck).nod hx
      obtain ⟨k0, k1, k2, k3, k4, k5, k6, k7⟩ := hc k x hx
      have HT := Lib.hid (without_take hx i)
      have hkl2 : (k : Int) < (l.length : Int) := by omega
      clear hx hc
      obtain ⟨ls, hls⟩ : ∃ ls, without (l.take k) i = ls := ⟨_, rfl⟩
      rw [hls] at HO HT hwl
      clear hls
      by_cases he : x.id = i
      · have he2 : (x.id != i) = false := by simp [he]
        have HF := Lib.hid (show without (l.take (k + 1)) i = ls by rw [HT.out, if_pos he])
        clear he
        go_wp2_with fail
        go_roundw
        case rel => exact ⟨k + 1, by omega, by go_num, by rw [HF.out]; exact HO.out, ck⟩
        case measure => simp [RowKit.intOf]; omega
      · have he2 : (x.id != i) = true := by simp [he]
        have HF := Lib.hid (show without (l.take (k + 1)) i = ls ++ [x] by rw [HT.out, if_neg he])
        clear he
        have q0 := below_alloc wr (.cells #[.int .i64 x.id, .int .i64 x.p, .string x.s, .int .i64 x.mc, .int .i64 x.mr, .string x.d, .int .i64 x.wc, .int .i64 x.wr] 45)
        have qs := q0.size
        have HL2 := Lib.hid (show ls.length ≤ 1000000 by omega)
        go_wp2_with (at_builtin; refine wpList_append_rec cellsNd rfl _ _ 30 rfl w.heap.size 45 ii _ 80 Try.underlying30 hi hz hsz hby rfl _ ls [x] rfl (HO.out.below q0) _ rfl (src_one nd_len nd_one Try.underlying30 (atC_nod wr x 45)) (by have := HL2.out; unfold maxLen; simp; omega) (by have := HL2.out; simp; omega) (by omega) ?_)
        intro v3 w3 ho3 c3
        have b3 := (ck.trans (q0.mono hwb)).trans c3
        go_wp2_with fail
        go_roundw
        case rel => exact ⟨k + 1, by omega, by go_num, by rw [HF.out]; exact ho3, b3⟩
        case measure => simp [RowKit.intOf]; omega
    · obtain rfl : k = l.length := by omega
      rw [List.take_length] at HO
      go_wp2_with fail
      go_ret
      exact ⟨_, rfl, HO.out, ck⟩
theorem insN_split (n : Nod) : ∀ (l : List Nod) (k : Nat), k ≤ l.length → (∀ (j : Nat) y, j < k → l[j]? = some y → y.id < n.id) → (∀ y, l[k]? = some y → ¬ y.id < n.id) → insN n l = l.take k ++ n :: l.drop k
  | [], k, hk, _, _ => by
    obtain rfl : k = 0 := by simpa using hk
    rfl
  | x :: r, 0, _, _, h => by
    have := h x rfl
    unfold insN
    rw [if_neg this]; rfl
  | x :: r, k + 1, hk, h, h2 => by
    have := h 0 x (by omega) rfl
    unfold insN
    rw [if_pos this, insN_split n r k (by simpa using hk) (fun j y hj hy => h (j + 1) y (by omega) (by simpa using hy)) (fun y hy => h2 y (by simpa using hy))]
    rfl
set_option maxRecDepth 100000 in
set_option maxHeartbeats 8000000 in
theorem rwith_any (a : Option Addr) (c : Nat) (l : List Nod) (n : Nod) (w : World) (h : IsNd w a c l) (hl : l.length ≤ 100000) :
    Calls Try.prog 72 #[.slice a l.length c, NV n] w (NdPost (withN l n) w) := by
  obtain ⟨ii, hi, hz, hsz, hby⟩ := info_parts infoN
  have q0 := below_alloc w (.cells #[.int .i64 n.id, .int .i64 n.p, .string n.s, .int .i64 n.mc, .int .i64 n.mr, .string n.d, .int .i64 n.wc, .int .i64 n.wr] 45)
  have hN := Lib.hid (show AtN _ _ 0 n from atN_of (atC_nod w n 45))
  have h1 := Lib.hid (h.below q0)
  have hlg : w.heap.size < (w.alloc (.cells #[.int .i64 n.id, .int .i64 n.p, .string n.s, .int .i64 n.mc, .int .i64 n.mr, .string n.d, .int .i64 n.wc, .int .i64 n.wr] 45)).heap.size := by simp
  obtain ⟨m0, m1, m2, m3, m4, m5, m6, m7⟩ := hN.out
  go_enter Try.func72, Try.ntmps72
  go_wp2_with fail
  refine (rwithout_any a c l n.id _ h1.out (by omega)).mono ?_
  rintro e w1 ⟨v, rfl, hown, c1⟩
  have b1 := step_b q0 c1
  have hN1 := Lib.hid (show AtN w1 w.heap.size 0 n from atN_of ((atC_ofN hN.out).keep (c1.block _ hlg)))
  have hlg1 := Nat.lt_of_lt_of_le hlg c1.size
  obtain ⟨rest, hrest⟩ : ∃ r, without l n.id = r := ⟨_, rfl⟩
  have HW := Lib.hid (show withN l n = insN n rest by unfold withN; rw [hrest])
  have HRl := Lib.hid (show rest.length ≤ 100000 by rw [← hrest]; exact Nat.le_trans (without_len l n.id) hl)
  rw [hrest] at hown
  obtain ⟨ar, cr, rfl, hR, hash⟩ := hown.isR2 nd_len
  have HSh := Lib.hid hash
  have HR := Lib.hid hR
  clear hash m0 m1 m2 m3 m4 m5 m6 m7 hN h1 hlg hown hrest hR c1 q0
  go_wp2_with fail
  go_loopw [6] (fun u w' => ∃ k : Nat, k ≤ rest.length ∧ u = .int .i64 k ∧ (∀ (j : Nat) y, j < k → rest[j]? = some y → y.id < n.id) ∧ Below w1.heap.size w1 w') (fun u _ => rest.length - (RowKit.intOf u).toNat)
  case atStart => exact ⟨0, Nat.zero_le _, rfl, fun j _ hj => absurd hj (Nat.not_lt_zero _), Below.refl _ _⟩
  case round =>
    obtain ⟨k, hk, rfl, ha, ck⟩ := hrel
    have Ha := Lib.hid ha
    have hrl := HRl.out
    clear ha
    obtain ⟨r0, r1, r2, r3, r4, r5, r6, r7⟩ := show AtN wr w.heap.size 0 n from atN_of ((atC_ofN hN1.out).keep (ck.block _ hlg1))
    rw [Nat.zero_add] at r1 r2 r3 r4 r5 r6 r7
    have hltr : w.heap.size < wr.heap.size := Nat.lt_of_lt_of_le hlg1 ck.size
    have HRr := Lib.hid (HR.out.below ck)
    by_cases hgo : ∃ y, rest[k]? = some y ∧ y.id < n.id
    · obtain ⟨y, hy, hyn⟩ := hgo
      obtain ⟨g, off, rfl, hlg2, hcell⟩ := HRr.out.nod hy
      have hcy := (hcell k y hy).1
      have hkl : k < rest.length := (List.getElem?_eq_some_iff.1 hy).1
      have hkl2 : (k : Int) < (rest.length : Int) := by omega
      have hd : decide (y.id < n.id) = true := decide_eq_true hyn
      have Hy := Lib.hid hy
      have Hn := Lib.hid hyn
      clear hy hcell hyn
      go_wp2_with fail
      refine wp_region_later (by kernel_rfl) (by kernel_rfl) (fun hL => ?_)
      repeat (go_big_quiet_step (fail))
      intro w' hw
      have bB := ck.trans ((later_out hw).mono ck.size)
      clear hw hL
      go_wp2_with fail
      go_roundw
      case rel => exact ⟨k + 1, by omega, by go_num, fun j z hj hz => by
        by_cases e : j = k
        · subst e; rw [Hy.out] at hz; cases hz; exact Hn.out
        · exact Ha.out j z (by omega) hz, bB⟩
      case measure => simp [RowKit.intOf]; omega
    · have HS := Lib.hid (show withN l n = rest.take k ++ n :: rest.drop k by rw [HW.out]; exact insN_split n rest k hk Ha.out (fun y hy hn => hgo ⟨y, hy, hn⟩))
      have HGo := Lib.hid hgo
      clear hgo
      rcases Nat.lt_or_ge k rest.length with hkl | hkl
      · obtain ⟨y, hy⟩ : ∃ y, rest[k]? = some y := ⟨rest[k], List.getElem?_eq_getElem hkl⟩
        obtain ⟨g, off, rfl, hlg2, hcell⟩ := HRr.out.nod hy
        have hcy := (hcell k y hy).1
        have hkl2 : (k : Int) < (rest.length : Int) := by omega
        have hd : decide (y.id < n.id) = false := decide_eq_false (fun hn => HGo.out ⟨y, hy, hn⟩)
        have hcr : ¬ cr = k := by have := HRr.out.1; omega
        have hcr2 : k ≤ cr := by have := HRr.out.1; omega
        clear hy hcell
        go_wp2_with fail
        refine wp_region_later (by kernel_rfl) (by kernel_rfl) (fun hL => ?_)
        repeat (go_big_quiet_step (fail))
        intro w2 hw
        have c2 := ck.trans ((later_out hw).mono ck.size)
        have b2 := step_b b1 c2
        have HR2 := Lib.hid (HR.out.below c2)
        have hN2 := Lib.hid (show AtN w2 w.heap.size 0 n from atN_of ((atC_ofN hN1.out).keep (c2.block _ hlg1)))
        have hlg3 := Nat.lt_of_lt_of_le hlg1 c2.size
        clear hw hL r0 r1 r2 r3 r4 r5 r6 r7 hltr HRr hcy hlg2 ck
        have q0 := below_alloc w2 (.cells #[] 45)
        have qs := q0.size
        have qb := b2.size
        have SD := Lib.hid (src_at nd_len nd_one Try.underlying30 (isR_drop (HR2.out.below (below_alloc w2 (.cells #[] 45))) k) (L := rest.length - k) (by rw [List.length_drop]))
        go_wp2_with (at_builtin; refine wpList_append_rec cellsNd rfl _ _ 30 rfl w2.heap.size 45 ii _ 80 Try.underlying30 hi hz hsz hby rfl _ [] (rest.drop k) rfl (ownR_empty cellsNd 8 45 w2 w2.heap.size (Nat.le_refl _)) _ rfl SD.out (by rw [List.length_drop]; unfold maxLen; (try simp) <;> (try omega)) (by rw [List.length_drop]; (try simp) <;> (try omega)) qs ?_)
        intro v3 w3 ho3 c3
        have c3' := q0.trans c3
        have b3 := step_b b2 c3'
        have HR3 := Lib.hid (HR2.out.below c3')
        have hN3 := Lib.hid (show AtN w3 w.heap.size 0 n from atN_of ((atC_ofN hN2.out).keep (c3'.block _ hlg3)))
        have hlg4 := Nat.lt_of_lt_of_le hlg3 c3'.size
        have HD3 := Lib.hid (show OwnNd w2.heap.size (rest.drop k) v3 w3 from ho3)
        obtain ⟨ad, cd, rfl, hD⟩ := HD3.out.isR nd_len
        have HD := Lib.hid hD
        clear ho3 c3 q0 qs SD HR2 hN2 hlg3 c3' hD HD3 c2
        go_wp2_with fail
        refine wp_region_l (by kernel_rfl) (by kernel_rfl) ?_
        refine wpL_make (OwnNd w3.heap.size []) (fun v w w' h hk => h.stay v w w' hk) (fun xs n _ => ?_) (fun K hK => ?_)
        · unfold relOp; go_simp; simp only [relUpon]
          exact ⟨ownR_empty cellsNd 8 _ _ _ n.below.size, below_alloc _ _, new_own _ _ _ _⟩
        go_simp; (try go_ints); refine hK _ ?_; clear hK K
        refine wpL_pure (fun K hK => ?_); go_simp; refine hK _ ?_; clear hK K
        refine wpL_pure (fun K hK => ?_); go_simp; refine hK _ ?_; clear hK K
        refine wpL_pure (fun K hK => ?_); go_simp; (try go_ints); refine hK _ ?_; clear hK K
        refine wpL_take 0 (OwnNd w3.heap.size (rest.take k)) (fun v w w' h hk => h.stay v w w' hk) rfl (by kernel_rfl) (by kernel_rfl) (fun xs n hf => ?_) (fun K hK => ?_)
        · rw [if_pos (by rfl)]
          have h0 := factL hf 0 rfl (by kernel_rfl)
          obtain ⟨v', w', hrun, q1, q2, q3⟩ := run_append_rec (m := rest.take k) cellsNd n.w 30 30 45 ii _ 80 Try.underlying30 hi hz hsz hby rfl h0 _ (src_at nd_len nd_one Try.underlying30 (isR_take (HR3.out.below n.below) k) (L := k) (by rw [List.length_take]; omega)) (by rw [List.length_take]; unfold maxLen; (try simp) <;> (try omega)) (by rw [List.length_take]; (try simp) <;> (try omega)) n.below.size
          exact relOp_append _ _ _ _ rfl rfl rfl hrun ⟨q1, q2, q3⟩
        go_simp; (try go_ints); refine hK _ ?_; clear hK K
        refine wpL_use (NV n) (fun xs m _ => ?_) (fun K hK => ?_)
        · obtain ⟨k0, k1, k2, k3, k4, k5, k6, k7⟩ := show AtN m.w w.heap.size 0 n from atN_of ((atC_ofN hN3.out).keep (m.below.block _ hlg4))
          rw [Nat.zero_add] at k1 k2 k3 k4 k5 k6 k7
          go_simp
        go_simp; (try go_ints); refine hK _ ?_; clear hK K
        refine wpL_make (OwnNd w3.heap.size [n]) (fun v w w' h hk => h.stay v w w' hk) (fun xs m _ => ?_) (fun K hK => ?_)
        · unfold relOp; go_simp; simp only [relUpon]
          exact ⟨ownR_made nd_len _ m.w _ m.below.size [n] (by simp) _ rfl, below_alloc _ _, new_own _ _ _ _⟩
        go_simp; (try go_ints); refine hK _ ?_; clear hK K
        refine wpL_take 1 (OwnNd w3.heap.size (rest.take k ++ [n])) (fun v w w' h hk => h.stay v w w' hk) rfl (by kernel_rfl) (by kernel_rfl) (fun xs m hf => ?_) (fun K hK => ?_)
        · rw [if_pos (by rfl)]
          have h0 := factL hf 1 rfl (by kernel_rfl)
          obtain ⟨a5, c5, e5, hi5⟩ := (factL hf 0 rfl (by kernel_rfl)).isR nd_len
          obtain ⟨v', w', hrun, q1, q2, q3⟩ := run_append_rec (m := [n]) cellsNd m.w 30 30 45 ii _ 80 Try.underlying30 hi hz hsz hby rfl h0 _ (src_rec nd_len nd_one Try.underlying30 hi5) (by rw [List.length_take]; unfold maxLen; (try simp) <;> (try omega)) (by rw [List.length_take]; (try simp) <;> (try omega)) m.below.size
          exact relOp_append _ _ _ _ rfl rfl e5 hrun ⟨q1, q2, q3⟩
        go_simp; (try go_ints); refine hK _ ?_; clear hK K
        refine wpL_pure (fun K hK => ?_); go_simp; refine hK _ ?_; clear hK K
        refine wpL_take 0 (OwnNd w3.heap.size (withN l n)) (fun v w w' h hk => h.stay v w w' hk) rfl (by kernel_rfl) (by kernel_rfl) (fun xs m hf => ?_) (fun K hK => ?_)
        · rw [if_pos (by rfl)]
          have h0 := factL hf 0 rfl (by kernel_rfl)
          obtain ⟨v', w', hrun, q1, q2, q3⟩ := run_append_rec (m := rest.drop k) cellsNd m.w 30 30 45 ii _ 80 Try.underlying30 hi hz hsz hby rfl h0 _ (src_at nd_len nd_one Try.underlying30 (HD.out.below m.below) (L := _) rfl) (by rw [List.length_append, List.length_take, List.length_drop]; unfold maxLen; (try simp) <;> (try omega)) (by rw [List.length_append, List.length_take, List.length_drop]; (try simp) <;> (try omega)) m.below.size
          exact relOp_append _ _ _ _ rfl rfl (by first | rfl | (simp; rfl) | simp) hrun ⟨by rw [HS.out, List.append_cons]; exact q1, q2, q3⟩
        go_simp; (try go_ints); refine hK _ ?_; clear hK K
        refine wpL_take 0 (OwnNd w3.heap.size (withN l n)) (fun v w w' h hk => h.stay v w w' hk) rfl (by kernel_rfl) (by kernel_rfl) (fun xs m hf => ?_) (fun K hK => ?_)
        · have h0 := factL hf 0 rfl (by kernel_rfl)
          unfold relOp; go_simp; simp only [relUpon]
          exact own_moved h0
        go_simp; (try go_ints); refine hK _ ?_; clear hK K
        refine wpL_nil (fun xs m hf => ?_)
        have hfin := hf _ (List.mem_cons_self)
        have b4 := step_b b3 m.below
        go_wp2_with fail
        go_ret
        exact ⟨_, rfl, OwnR.mono hfin b3.size, b4⟩
      · have HDK := Lib.hid (show rest.drop k = [] from List.drop_of_length_le hkl)
        have hke : k = rest.length := by omega
        have hkl2 : ¬ (k : Int) < (rest.length : Int) := by omega
        have hcr2 : k ≤ cr := by have := HRr.out.1; omega
        cases ar with
        | none =>
          have hc0 : cr = 0 := HRr.out.2.1 rfl
          have hr0 : rest = [] := List.eq_nil_of_length_eq_zero (by have := HRr.out.1; omega)
          have hk0 : k = 0 := by omega
          subst hc0
          go_wp2_with fail
          refine wp_region_later (by kernel_rfl) (by kernel_rfl) (fun hL => ?_)
          repeat (go_big_quiet_step (fail))
          intro w2 hw
          have c2 := ck.trans ((later_out hw).mono ck.size)
          have b2 := step_b b1 c2
          have HR2 := Lib.hid (HR.out.below c2)
          have hN2 := Lib.hid (show AtN w2 w.heap.size 0 n from atN_of ((atC_ofN hN1.out).keep (c2.block _ hlg1)))
          have hlg3 := Nat.lt_of_lt_of_le hlg1 c2.size
          clear hw hL r0 r1 r2 r3 r4 r5 r6 r7 hltr HRr ck
          have q0 := below_alloc w2 (.cells #[] 45)
          have qs := q0.size
          have qb := b2.size
          have SD := Lib.hid (show Src Try.prog 8 30 (.slice none 0 0) ([] : List Nod).length (cellsR cellsNd ([] : List Nod)) (w2.alloc (.cells #[] 45)) from src_at nd_len nd_one Try.underlying30 (isR_nil _ _ _) rfl)
          go_wp2_with (at_builtin; refine wpList_append_rec cellsNd rfl _ _ 30 rfl w2.heap.size 45 ii _ 80 Try.underlying30 hi hz hsz hby rfl _ [] ([] : List Nod) rfl (ownR_empty cellsNd 8 45 w2 w2.heap.size (Nat.le_refl _)) _ rfl SD.out (by decide) (by decide) qs ?_)
          intro v3 w3 ho3 c3
          have c3' := q0.trans c3
          have b3 := step_b b2 c3'
          have HR3 := Lib.hid (HR2.out.below c3')
          have hN3 := Lib.hid (show AtN w3 w.heap.size 0 n from atN_of ((atC_ofN hN2.out).keep (c3'.block _ hlg3)))
          have hlg4 := Nat.lt_of_lt_of_le hlg3 c3'.size
          have HD3 := Lib.hid (show OwnNd w2.heap.size ([] : List Nod) v3 w3 from ho3)
          obtain ⟨ad, cd, rfl, hD⟩ := HD3.out.isR nd_len
          have HD := Lib.hid hD
          clear ho3 c3 q0 qs SD HR2 hN2 hlg3 c3' hD HD3 c2
          go_wp2_with fail
          refine wp_region_l (by kernel_rfl) (by kernel_rfl) ?_
          refine wpL_make (OwnNd w3.heap.size []) (fun v w w' h hk => h.stay v w w' hk) (fun xs n _ => ?_) (fun K hK => ?_)
          · unfold relOp; go_simp; simp only [relUpon]
            exact ⟨ownR_empty cellsNd 8 _ _ _ n.below.size, below_alloc _ _, new_own _ _ _ _⟩
          go_simp; (try go_ints); refine hK _ ?_; clear hK K
          refine wpL_pure (fun K hK => ?_); go_simp; refine hK _ ?_; clear hK K
          refine wpL_pure (fun K hK => ?_); go_simp; refine hK _ ?_; clear hK K
          refine wpL_pure (fun K hK => ?_); go_simp; (try go_ints); refine hK _ ?_; clear hK K
          refine wpL_take 0 (OwnNd w3.heap.size (rest.take k)) (fun v w w' h hk => h.stay v w w' hk) rfl (by kernel_rfl) (by kernel_rfl) (fun xs n hf => ?_) (fun K hK => ?_)
          · rw [if_pos (by rfl)]
            have h0 := factL hf 0 rfl (by kernel_rfl)
            obtain ⟨v', w', hrun, q1, q2, q3⟩ := run_append_rec (m := rest.take k) cellsNd n.w 30 30 45 ii _ 80 Try.underlying30 hi hz hsz hby rfl h0 _ (src_at nd_len nd_one Try.underlying30 (isR_take (HR3.out.below n.below) k) (L := 0) (by rw [List.length_take]; omega)) (by rw [List.length_take]; unfold maxLen; (try simp) <;> (try omega)) (by rw [List.length_take]; (try simp) <;> (try omega)) n.below.size
            exact relOp_append _ _ _ _ rfl rfl rfl hrun ⟨q1, q2, q3⟩
          go_simp; (try go_ints); refine hK _ ?_; clear hK K
          refine wpL_use (NV n) (fun xs m _ => ?_) (fun K hK => ?_)
          · obtain ⟨k0, k1, k2, k3, k4, k5, k6, k7⟩ := show AtN m.w w.heap.size 0 n from atN_of ((atC_ofN hN3.out).keep (m.below.block _ hlg4))
            rw [Nat.zero_add] at k1 k2 k3 k4 k5 k6 k7
            go_simp
          go_simp; (try go_ints); refine hK _ ?_; clear hK K
          refine wpL_make (OwnNd w3.heap.size [n]) (fun v w w' h hk => h.stay v w w' hk) (fun xs m _ => ?_) (fun K hK => ?_)
          · unfold relOp; go_simp; simp only [relUpon]
            exact ⟨ownR_made nd_len _ m.w _ m.below.size [n] (by simp) _ rfl, below_alloc _ _, new_own _ _ _ _⟩
          go_simp; (try go_ints); refine hK _ ?_; clear hK K
          refine wpL_take 1 (OwnNd w3.heap.size (rest.take k ++ [n])) (fun v w w' h hk => h.stay v w w' hk) rfl (by kernel_rfl) (by kernel_rfl) (fun xs m hf => ?_) (fun K hK => ?_)
          · rw [if_pos (by rfl)]
            have h0 := factL hf 1 rfl (by kernel_rfl)
            obtain ⟨a5, c5, e5, hi5⟩ := (factL hf 0 rfl (by kernel_rfl)).isR nd_len
            obtain ⟨v', w', hrun, q1, q2, q3⟩ := run_append_rec (m := [n]) cellsNd m.w 30 30 45 ii _ 80 Try.underlying30 hi hz hsz hby rfl h0 _ (src_rec nd_len nd_one Try.underlying30 hi5) (by rw [List.length_take]; unfold maxLen; (try simp) <;> (try omega)) (by rw [List.length_take]; (try simp) <;> (try omega)) m.below.size
            exact relOp_append _ _ _ _ rfl rfl e5 hrun ⟨q1, q2, q3⟩
          go_simp; (try go_ints); refine hK _ ?_; clear hK K
          refine wpL_pure (fun K hK => ?_); go_simp; refine hK _ ?_; clear hK K
          refine wpL_take 0 (OwnNd w3.heap.size (withN l n)) (fun v w w' h hk => h.stay v w w' hk) rfl (by kernel_rfl) (by kernel_rfl) (fun xs m hf => ?_) (fun K hK => ?_)
          · rw [if_pos (by rfl)]
            have h0 := factL hf 0 rfl (by kernel_rfl)
            obtain ⟨v', w', hrun, q1, q2, q3⟩ := run_append_rec (m := ([] : List Nod)) cellsNd m.w 30 30 45 ii _ 80 Try.underlying30 hi hz hsz hby rfl h0 _ (src_at nd_len nd_one Try.underlying30 (HD.out.below m.below) (L := _) rfl) (by rw [List.length_append, List.length_take]; unfold maxLen; (try simp) <;> (try omega)) (by rw [List.length_append, List.length_take]; (try simp) <;> (try omega)) m.below.size
            exact relOp_append _ _ _ _ rfl rfl (by first | rfl | (simp; rfl) | simp) hrun ⟨by rw [HS.out, HDK.out, List.append_cons]; exact q1, q2, q3⟩
          go_simp; (try go_ints); refine hK _ ?_; clear hK K
          refine wpL_take 0 (OwnNd w3.heap.size (withN l n)) (fun v w w' h hk => h.stay v w w' hk) rfl (by kernel_rfl) (by kernel_rfl) (fun xs m hf => ?_) (fun K hK => ?_)
          · have h0 := factL hf 0 rfl (by kernel_rfl)
            unfold relOp; go_simp; simp only [relUpon]
            exact own_moved h0
          go_simp; (try go_ints); refine hK _ ?_; clear hK K
          refine wpL_nil (fun xs m hf => ?_)
          have hfin := hf _ (List.mem_cons_self)
          have b4 := step_b b3 m.below
          go_wp2_with fail
          go_ret
          exact ⟨_, rfl, OwnR.mono hfin b3.size, b4⟩
        | some ad0 =>
          obtain ⟨g, hg⟩ : ∃ g, some ad0 = some ⟨g, 0, none⟩ := by
            rcases HSh.out with h | h
            · cases h
            · exact h
          simp only [Option.some.injEq] at hg
          subst hg
          subst hke
          by_cases hcr : cr = rest.length
          · go_wp2_with fail
            refine wp_region_later (by kernel_rfl) (by kernel_rfl) (fun hL => ?_)
            repeat (go_big_quiet_step (fail))
            intro w2 hw
            have c2 := ck.trans ((later_out hw).mono ck.size)
            have b2 := step_b b1 c2
            have HR2 := Lib.hid (HR.out.below c2)
            have hN2 := Lib.hid (show AtN w2 w.heap.size 0 n from atN_of ((atC_ofN hN1.out).keep (c2.block _ hlg1)))
            have hlg3 := Nat.lt_of_lt_of_le hlg1 c2.size
            clear hw hL r0 r1 r2 r3 r4 r5 r6 r7 hltr HRr ck
            have q0 := below_alloc w2 (.cells #[] 45)
            have qs := q0.size
            have qb := b2.size
            have SD := Lib.hid (show ∀ ad c, Src Try.prog 8 30 (.slice (some ad) 0 c) ([] : List Nod).length (cellsR cellsNd ([] : List Nod)) (w2.alloc (.cells #[] 45)) from fun ad c => src_at nd_len nd_one Try.underlying30 (isR_empty _ _ _ _ _) rfl)
            go_wp2_with (at_builtin; refine wpList_append_rec cellsNd rfl _ _ 30 rfl w2.heap.size 45 ii _ 80 Try.underlying30 hi hz hsz hby rfl _ [] ([] : List Nod) rfl (ownR_empty cellsNd 8 45 w2 w2.heap.size (Nat.le_refl _)) _ rfl (SD.out _ _) (by decide) (by decide) qs ?_)
            intro v3 w3 ho3 c3
            have c3' := q0.trans c3
            have b3 := step_b b2 c3'
            have HR3 := Lib.hid (HR2.out.below c3')
            have hN3 := Lib.hid (show AtN w3 w.heap.size 0 n from atN_of ((atC_ofN hN2.out).keep (c3'.block _ hlg3)))
            have hlg4 := Nat.lt_of_lt_of_le hlg3 c3'.size
            have HD3 := Lib.hid (show OwnNd w2.heap.size ([] : List Nod) v3 w3 from ho3)
            obtain ⟨ad, cd, rfl, hD⟩ := HD3.out.isR nd_len
            have HD := Lib.hid hD
            clear ho3 c3 q0 qs SD HR2 hN2 hlg3 c3' hD HD3 c2
            go_wp2_with fail
            refine wp_region_l (by kernel_rfl) (by kernel_rfl) ?_
            refine wpL_make (OwnNd w3.heap.size []) (fun v w w' h hk => h.stay v w w' hk) (fun xs n _ => ?_) (fun K hK => ?_)
            · unfold relOp; go_simp; simp only [relUpon]
              exact ⟨ownR_empty cellsNd 8 _ _ _ n.below.size, below_alloc _ _, new_own _ _ _ _⟩
            go_simp; (try go_ints); refine hK _ ?_; clear hK K
            refine wpL_pure (fun K hK => ?_); go_simp; refine hK _ ?_; clear hK K
            refine wpL_pure (fun K hK => ?_); go_simp; refine hK _ ?_; clear hK K
            refine wpL_pure (fun K hK => ?_); go_simp; (try go_ints); refine hK _ ?_; clear hK K
            refine wpL_take 0 (OwnNd w3.heap.size (rest)) (fun v w w' h hk => h.stay v w w' hk) rfl (by kernel_rfl) (by kernel_rfl) (fun xs n hf => ?_) (fun K hK => ?_)
            · rw [if_pos (by rfl)]
              have h0 := factL hf 0 rfl (by kernel_rfl)
              obtain ⟨v', w', hrun, q1, q2, q3⟩ := run_append_rec (m := rest) cellsNd n.w 30 30 45 ii _ 80 Try.underlying30 hi hz hsz hby rfl h0 _ (src_at nd_len nd_one Try.underlying30 (HR3.out.below n.below) (L := _) rfl) (by unfold maxLen; (try simp) <;> (try omega)) (by (try simp) <;> (try omega)) n.below.size
              exact relOp_append _ _ _ _ rfl rfl rfl hrun ⟨q1, q2, q3⟩
            go_simp; (try go_ints); refine hK _ ?_; clear hK K
            refine wpL_use (NV n) (fun xs m _ => ?_) (fun K hK => ?_)
            · obtain ⟨k0, k1, k2, k3, k4, k5, k6, k7⟩ := show AtN m.w w.heap.size 0 n from atN_of ((atC_ofN hN3.out).keep (m.below.block _ hlg4))
              rw [Nat.zero_add] at k1 k2 k3 k4 k5 k6 k7
              go_simp
            go_simp; (try go_ints); refine hK _ ?_; clear hK K
            refine wpL_make (OwnNd w3.heap.size [n]) (fun v w w' h hk => h.stay v w w' hk) (fun xs m _ => ?_) (fun K hK => ?_)
            · unfold relOp; go_simp; simp only [relUpon]
              exact ⟨ownR_made nd_len _ m.w _ m.below.size [n] (by simp) _ rfl, below_alloc _ _, new_own _ _ _ _⟩
            go_simp; (try go_ints); refine hK _ ?_; clear hK K
            refine wpL_take 1 (OwnNd w3.heap.size (rest ++ [n])) (fun v w w' h hk => h.stay v w w' hk) rfl (by kernel_rfl) (by kernel_rfl) (fun xs m hf => ?_) (fun K hK => ?_)
            · rw [if_pos (by rfl)]
              have h0 := factL hf 1 rfl (by kernel_rfl)
              obtain ⟨a5, c5, e5, hi5⟩ := (factL hf 0 rfl (by kernel_rfl)).isR nd_len
              obtain ⟨v', w', hrun, q1, q2, q3⟩ := run_append_rec (m := [n]) cellsNd m.w 30 30 45 ii _ 80 Try.underlying30 hi hz hsz hby rfl h0 _ (src_rec nd_len nd_one Try.underlying30 hi5) (by unfold maxLen; (try simp) <;> (try omega)) (by (try simp) <;> (try omega)) m.below.size
              exact relOp_append _ _ _ _ rfl rfl e5 hrun ⟨q1, q2, q3⟩
            go_simp; (try go_ints); refine hK _ ?_; clear hK K
            refine wpL_pure (fun K hK => ?_); go_simp; refine hK _ ?_; clear hK K
            refine wpL_take 0 (OwnNd w3.heap.size (withN l n)) (fun v w w' h hk => h.stay v w w' hk) rfl (by kernel_rfl) (by kernel_rfl) (fun xs m hf => ?_) (fun K hK => ?_)
            · rw [if_pos (by rfl)]
              have h0 := factL hf 0 rfl (by kernel_rfl)
              obtain ⟨v', w', hrun, q1, q2, q3⟩ := run_append_rec (m := ([] : List Nod)) cellsNd m.w 30 30 45 ii _ 80 Try.underlying30 hi hz hsz hby rfl h0 _ (src_at nd_len nd_one Try.underlying30 (HD.out.below m.below) (L := _) rfl) (by rw [List.length_append]; unfold maxLen; (try simp) <;> (try omega)) (by rw [List.length_append]; (try simp) <;> (try omega)) m.below.size
              exact relOp_append _ _ _ _ rfl rfl (by first | rfl | (simp; rfl) | simp) hrun ⟨by rw [HS.out, HDK.out, List.take_length, List.append_cons]; exact q1, q2, q3⟩
            go_simp; (try go_ints); refine hK _ ?_; clear hK K
            refine wpL_take 0 (OwnNd w3.heap.size (withN l n)) (fun v w w' h hk => h.stay v w w' hk) rfl (by kernel_rfl) (by kernel_rfl) (fun xs m hf => ?_) (fun K hK => ?_)
            · have h0 := factL hf 0 rfl (by kernel_rfl)
              unfold relOp; go_simp; simp only [relUpon]
              exact own_moved h0
            go_simp; (try go_ints); refine hK _ ?_; clear hK K
            refine wpL_nil (fun xs m hf => ?_)
            have hfin := hf _ (List.mem_cons_self)
            have b4 := step_b b3 m.below
            go_wp2_with fail
            go_ret
            exact ⟨_, rfl, OwnR.mono hfin b3.size, b4⟩

          · go_wp2_with fail
            refine wp_region_later (by kernel_rfl) (by kernel_rfl) (fun hL => ?_)
            repeat (go_big_quiet_step (fail))
            intro w2 hw
            have c2 := ck.trans ((later_out hw).mono ck.size)
            have b2 := step_b b1 c2
            have HR2 := Lib.hid (HR.out.below c2)
            have hN2 := Lib.hid (show AtN w2 w.heap.size 0 n from atN_of ((atC_ofN hN1.out).keep (c2.block _ hlg1)))
            have hlg3 := Nat.lt_of_lt_of_le hlg1 c2.size
            clear hw hL r0 r1 r2 r3 r4 r5 r6 r7 hltr HRr ck
            have q0 := below_alloc w2 (.cells #[] 45)
            have qs := q0.size
            have qb := b2.size
            have SD := Lib.hid (show ∀ ad c, Src Try.prog 8 30 (.slice (some ad) 0 c) ([] : List Nod).length (cellsR cellsNd ([] : List Nod)) (w2.alloc (.cells #[] 45)) from fun ad c => src_at nd_len nd_one Try.underlying30 (isR_empty _ _ _ _ _) rfl)
            go_wp2_with (at_builtin; refine wpList_append_rec cellsNd rfl _ _ 30 rfl w2.heap.size 45 ii _ 80 Try.underlying30 hi hz hsz hby rfl _ [] ([] : List Nod) rfl (ownR_empty cellsNd 8 45 w2 w2.heap.size (Nat.le_refl _)) _ rfl (SD.out _ _) (by decide) (by decide) qs ?_)
            intro v3 w3 ho3 c3
            have c3' := q0.trans c3
            have b3 := step_b b2 c3'
            have HR3 := Lib.hid (HR2.out.below c3')
            have hN3 := Lib.hid (show AtN w3 w.heap.size 0 n from atN_of ((atC_ofN hN2.out).keep (c3'.block _ hlg3)))
            have hlg4 := Nat.lt_of_lt_of_le hlg3 c3'.size
            have HD3 := Lib.hid (show OwnNd w2.heap.size ([] : List Nod) v3 w3 from ho3)
            obtain ⟨ad, cd, rfl, hD⟩ := HD3.out.isR nd_len
            have HD := Lib.hid hD
            clear ho3 c3 q0 qs SD HR2 hN2 hlg3 c3' hD HD3 c2
            go_wp2_with fail
            refine wp_region_l (by kernel_rfl) (by kernel_rfl) ?_
            refine wpL_make (OwnNd w3.heap.size []) (fun v w w' h hk => h.stay v w w' hk) (fun xs n _ => ?_) (fun K hK => ?_)
            · unfold relOp; go_simp; simp only [relUpon]
              exact ⟨ownR_empty cellsNd 8 _ _ _ n.below.size, below_alloc _ _, new_own _ _ _ _⟩
            go_simp; (try go_ints); refine hK _ ?_; clear hK K
            refine wpL_pure (fun K hK => ?_); go_simp; refine hK _ ?_; clear hK K
            refine wpL_pure (fun K hK => ?_); go_simp; refine hK _ ?_; clear hK K
            refine wpL_pure (fun K hK => ?_); go_simp; (try go_ints); refine hK _ ?_; clear hK K
            refine wpL_take 0 (OwnNd w3.heap.size (rest)) (fun v w w' h hk => h.stay v w w' hk) rfl (by kernel_rfl) (by kernel_rfl) (fun xs n hf => ?_) (fun K hK => ?_)
            · rw [if_pos (by rfl)]
              have h0 := factL hf 0 rfl (by kernel_rfl)
              obtain ⟨v', w', hrun, q1, q2, q3⟩ := run_append_rec (m := rest) cellsNd n.w 30 30 45 ii _ 80 Try.underlying30 hi hz hsz hby rfl h0 _ (src_at nd_len nd_one Try.underlying30 (HR3.out.below n.below) (L := _) rfl) (by unfold maxLen; (try simp) <;> (try omega)) (by (try simp) <;> (try omega)) n.below.size
              exact relOp_append _ _ _ _ rfl rfl rfl hrun ⟨q1, q2, q3⟩
            go_simp; (try go_ints); refine hK _ ?_; clear hK K
            refine wpL_use (NV n) (fun xs m _ => ?_) (fun K hK => ?_)
            · obtain ⟨k0, k1, k2, k3, k4, k5, k6, k7⟩ := show AtN m.w w.heap.size 0 n from atN_of ((atC_ofN hN3.out).keep (m.below.block _ hlg4))
              rw [Nat.zero_add] at k1 k2 k3 k4 k5 k6 k7
              go_simp
            go_simp; (try go_ints); refine hK _ ?_; clear hK K
            refine wpL_make (OwnNd w3.heap.size [n]) (fun v w w' h hk => h.stay v w w' hk) (fun xs m _ => ?_) (fun K hK => ?_)
            · unfold relOp; go_simp; simp only [relUpon]
              exact ⟨ownR_made nd_len _ m.w _ m.below.size [n] (by simp) _ rfl, below_alloc _ _, new_own _ _ _ _⟩
            go_simp; (try go_ints); refine hK _ ?_; clear hK K
            refine wpL_take 1 (OwnNd w3.heap.size (rest ++ [n])) (fun v w w' h hk => h.stay v w w' hk) rfl (by kernel_rfl) (by kernel_rfl) (fun xs m hf => ?_) (fun K hK => ?_)
            · rw [if_pos (by rfl)]
              have h0 := factL hf 1 rfl (by kernel_rfl)
              obtain ⟨a5, c5, e5, hi5⟩ := (factL hf 0 rfl (by kernel_rfl)).isR nd_len
              obtain ⟨v', w', hrun, q1, q2, q3⟩ := run_append_rec (m := [n]) cellsNd m.w 30 30 45 ii _ 80 Try.underlying30 hi hz hsz hby rfl h0 _ (src_rec nd_len nd_one Try.underlying30 hi5) (by unfold maxLen; (try simp) <;> (try omega)) (by (try simp) <;> (try omega)) m.below.size
              exact relOp_append _ _ _ _ rfl rfl e5 hrun ⟨q1, q2, q3⟩
            go_simp; (try go_ints); refine hK _ ?_; clear hK K
            refine wpL_pure (fun K hK => ?_); go_simp; refine hK _ ?_; clear hK K
            refine wpL_take 0 (OwnNd w3.heap.size (withN l n)) (fun v w w' h hk => h.stay v w w' hk) rfl (by kernel_rfl) (by kernel_rfl) (fun xs m hf => ?_) (fun K hK => ?_)
            · rw [if_pos (by rfl)]
              have h0 := factL hf 0 rfl (by kernel_rfl)
              obtain ⟨v', w', hrun, q1, q2, q3⟩ := run_append_rec (m := ([] : List Nod)) cellsNd m.w 30 30 45 ii _ 80 Try.underlying30 hi hz hsz hby rfl h0 _ (src_at nd_len nd_one Try.underlying30 (HD.out.below m.below) (L := _) rfl) (by rw [List.length_append]; unfold maxLen; (try simp) <;> (try omega)) (by rw [List.length_append]; (try simp) <;> (try omega)) m.below.size
              exact relOp_append _ _ _ _ rfl rfl (by first | rfl | (simp; rfl) | simp) hrun ⟨by rw [HS.out, HDK.out, List.take_length, List.append_cons]; exact q1, q2, q3⟩
            go_simp; (try go_ints); refine hK _ ?_; clear hK K
            refine wpL_take 0 (OwnNd w3.heap.size (withN l n)) (fun v w w' h hk => h.stay v w w' hk) rfl (by kernel_rfl) (by kernel_rfl) (fun xs m hf => ?_) (fun K hK => ?_)
            · have h0 := factL hf 0 rfl (by kernel_rfl)
              unfold relOp; go_simp; simp only [relUpon]
              exact own_moved h0
            go_simp; (try go_ints); refine hK _ ?_; clear hK K
            refine wpL_nil (fun xs m hf => ?_)
            have hfin := hf _ (List.mem_cons_self)
            have b4 := step_b b3 m.below
            go_wp2_with fail
            go_ret
            exact ⟨_, rfl, OwnR.mono hfin b3.size, b4⟩
end Go.Proofs.Ytnndanpahcdmaaa
