/-
  MergeFull: of more operations than there is room for the first ones are there.
-/
import Derived.Test.YtnndanpahcdmaaaMLaw2
import Derived.Deep.RegionHeld3
import Derived.Deep.DeepCutAuto
namespace Go.Proofs.Ytnndanpahcdmaaa
open Go.RowKit Go.Lib
def mv (i : Nat) : Opn := ⟨1000 - (i : Int), 0, 1, 128 + 128 * ((i : Int) % 5), 0, ⟨#[120]⟩, ⟨#[]⟩⟩
def mvs (k : Nat) : List Opn := (List.range k).map mv
theorem mvs_succ (k : Nat) : mvs (k + 1) = mvs k ++ [mv k] := by unfold mvs; rw [List.range_succ, List.map_append]; rfl
theorem mvs_len (k : Nat) : (mvs k).length = k := by unfold mvs; simp
theorem mvs_mem {k : Nat} {x : Opn} (h : x ∈ mvs k) : ∃ i, i < k ∧ x = mv i := by
  obtain ⟨i, hi, rfl⟩ := List.mem_map.1 h
  exact ⟨i, List.mem_range.1 hi, rfl⟩
theorem mvs_at {k i : Nat} (h : i < k) : (mvs k)[i]? = some (mv i) := by
  unfold mvs
  rw [List.getElem?_map, List.getElem?_range h]; rfl
set_option maxRecDepth 100000 in
theorem mv_all : ((List.range 300).all fun i => mayO (mv i)) = true := by kernel_rfl
theorem mv_may {i : Nat} (h : i < 300) : mayO (mv i) = true := List.all_eq_true.1 mv_all i (List.mem_range.2 h)
theorem mv_small (i : Nat) : (mv i).s.size ≤ 1000 ∧ (mv i).d.size ≤ 1000 := ⟨by show (1 : Nat) ≤ 1000; omega, by show (0 : Nat) ≤ 1000; omega⟩
theorem mv_rng {i : Nat} (h : i < 300) : RgO (mv i) := by
  unfold mv RgO I64
  simp only []
  omega
theorem mv_eq {i j : Nat} (h : eqA (mv i) (mv j)) : i = j := by
  have := h.1
  simp only [mv] at this
  omega
theorem insS_new (o : Opn) : ∀ l : List Opn, (∀ y ∈ l, ¬ eqA y o) → (insS o l).length = l.length + 1
  | [], _ => rfl
  | y :: r, h => by
    unfold insS
    split
    · rw [List.length_cons, insS_new o r (fun z hz => h z (by simp [hz])), List.length_cons]
    · rw [if_neg (h y (by simp))]; rfl
theorem sort_mv : ∀ k : Nat, k ≤ 300 → (sortO (mvs k)).length = k
  | 0, _ => rfl
  | k + 1, h => by
    rw [mvs_succ, sortO_snoc]
    unfold addS
    rw [if_pos (mv_may (by omega)), insS_new, sort_mv k (by omega)]
    intro y hy he
    obtain ⟨i, hi, rfl⟩ := mvs_mem (sortO_may hy).2
    have := mv_eq he
    omega
theorem wrong_mv : ∀ k : Nat, k ≤ 300 → wrongN (mvs k) = 0
  | 0, _ => rfl
  | k + 1, h => by
    rw [mvs_succ, wrongN_snoc, wrong_mv k (by omega), if_pos (mv_may (by omega))]
theorem has_mv {m k i : Nat} (hi : i < k) (hk : k ≤ 300) : hasS (sortO (mvs m)) (mv i).c (mv i).r = decide (i < m) := by
  by_cases h : i < m
  · rw [decide_eq_true h]
    refine hasS_iff.2 ⟨mv i, ?_, rfl, rfl⟩
    refine (sortO_one (l := mvs m) (fun x hx y hy he => ?_) _).2 ⟨List.mem_of_getElem? (mvs_at h), mv_may (by omega)⟩
    obtain ⟨p, _, rfl⟩ := mvs_mem hx
    obtain ⟨q, _, rfl⟩ := mvs_mem hy
    rw [mv_eq he]
  · rw [decide_eq_false h]
    cases hh : hasS (sortO (mvs m)) (mv i).c (mv i).r with
    | false => rfl
    | true =>
      obtain ⟨y, hy, he⟩ := hasS_iff.1 hh
      obtain ⟨p, hp, rfl⟩ := mvs_mem (sortO_may hy).2
      have := mv_eq he
      omega
theorem add_mv {m k i : Nat} (hm : m = min k 200) (hi : i < k) (hk : k ≤ 300) : addL (sortO (mvs m)) (mv i) = (sortO (mvs m), if i < m then 0 else 193) := by
  unfold addL
  rw [if_pos (mv_may (by omega)), has_mv (m := m) (k := k) hi hk]
  by_cases h : i < m
  · rw [decide_eq_true h, if_pos rfl, if_pos h]
  · rw [decide_eq_false h, if_neg (by simp), if_pos (by rw [sort_mv m (by omega)]; omega), if_neg h]
theorem all_mv {k : Nat} (hk : k ≤ 300) : allL [] (mvs k) = (sortO (mvs (min k 200)), k - min k 200) := by
  have h1 : ∀ m, m ≤ 200 → allL [] (mvs m) = (sortO (mvs m), 0) := fun m hm => by rw [all_sort (by rw [mvs_len]; exact hm), wrong_mv m (by omega)]
  have h2 : ∀ e, 200 + e ≤ 300 → allL [] (mvs (200 + e)) = (sortO (mvs 200), e) := by
    intro e
    induction e with
    | zero => intro _; exact h1 200 (by omega)
    | succ e ih =>
      intro he
      rw [show 200 + (e + 1) = (200 + e) + 1 from rfl, mvs_succ, allL_snoc, ih (by omega), add_mv (m := 200) (k := 200 + e + 1) (by omega) (by omega) (by omega), if_neg (show ¬ 200 + e < 200 by omega)]
      rfl
  by_cases h : k ≤ 200
  · rw [Nat.min_eq_left h, Nat.sub_self]; exact h1 k h
  · have := h2 (k - 200) (by omega)
    rw [show 200 + (k - 200) = k by omega] at this
    rw [Nat.min_eq_right (by omega)]; exact this
theorem ok_mv {m : Nat} (h : m ≤ 200) : OkS (sortO (mvs m)) := sort_ok (by rw [mvs_len]; exact h) (fun x hx => by obtain ⟨i, _, rfl⟩ := mvs_mem hx; exact mv_small i) (fun x hx => by obtain ⟨i, hi, rfl⟩ := mvs_mem hx; exact mv_rng (by omega))
theorem u16_wf2 {n : Int} (h : (Lit.int .u16 n).wf = true) : ∃ k : Nat, n = k ∧ k ≤ 65535 := by
  simp only [Lit.wf, Bool.and_eq_true, decide_eq_true_eq] at h
  have h1 : 0 ≤ n ∧ n ≤ 65535 := h
  exact ⟨n.toNat, by omega, by omega⟩
theorem u8_wf2 {n : Int} (h : (Lit.int .u8 n).wf = true) : ∃ k : Nat, n = k ∧ k ≤ 255 := by
  simp only [Lit.wf, Bool.and_eq_true, decide_eq_true_eq] at h
  have h1 : 0 ≤ n ∧ n ≤ 255 := h
  exact ⟨n.toNat, by omega, by omega⟩
set_option maxRecDepth 100000 in
set_option maxHeartbeats 8000000 in
theorem mfull_walk (x0 x1 : Int) (w : World) (h0 : (Lit.int .u16 x0).wf = true) (h1 : (Lit.int .u8 x1).wf = true) :
    Calls Try.prog 7 #[.int .u16 x0, .int .u8 x1] w fun e w' => e = .returned (.bool true) ∧ Below w.heap.size w w' := by
  obtain ⟨n0, rfl, hn0⟩ := u16_wf2 h0
  obtain ⟨t0, rfl, ht0⟩ := u8_wf2 h1
  obtain ⟨iO, hiO, hzO, hszO, hbyO⟩ := info_parts infoOp
  clear h0 h1
  obtain ⟨k, hk⟩ : ∃ k, n0 % 300 = k := ⟨_, rfl⟩
  have hk3 : k < 300 := by rw [← hk]; exact Nat.mod_lt _ (by omega)
  have hkr : (n0 : Int) % 300 = (k : Int) := by rw [← hk]; norm_cast
  have HKm := Lib.hid hk
  clear hk
  go_enter Try.func7, Try.ntmps7
  go_wp2_with fail
  refine (awake_any _).mono ?_
  rintro e w1 ⟨rfl, b1⟩
  go_wp2_with fail
  try rw [hkr]
  clear hkr
  go_loopw [7, 8] (fun x7 x8 w' => ∃ i : Nat, i ≤ k ∧ x8 = .int .i64 i ∧ OwnOp w1.heap.size (mvs i) x7 w' ∧ Below w1.heap.size w1 w') (fun _ x8 _ => k - (RowKit.intOf x8).toNat)
  case atStart => exact ⟨0, Nat.zero_le _, rfl, ownR_nil _ _ _ _, Below.refl _ _⟩
  case round =>
    obtain ⟨i, hik, rfl, hown, ck⟩ := hrel
    have HOwn := Lib.hid hown
    have sr := ck.size
    clear hown
    by_cases hi : i < k
    · obtain ⟨r5, hr5⟩ : ∃ r5, i % 5 = r5 := ⟨_, rfl⟩
      have h5 : r5 < 5 := by rw [← hr5]; exact Nat.mod_lt _ (by omega)
      have h5r : (i : Int) % 5 = (r5 : Int) := by rw [← hr5]; norm_cast
      have hmv : mv i = ⟨1000 - (i : Int), 0, 1, 128 + 128 * (r5 : Int), 0, ⟨#[120]⟩, ⟨#[]⟩⟩ := by unfold mv; rw [h5r]
      have HMv := Lib.hid hmv
      have HMl := Lib.hid (mvs_len i)
      have hi2 : (i : Int) < (k : Int) := by omega
      clear hr5 hmv
      obtain ⟨ms, hms⟩ : ∃ ms, mvs i = ms := ⟨_, rfl⟩
      have HMs := Lib.hid (show mvs (i + 1) = ms ++ [mv i] by rw [mvs_succ, hms])
      rw [hms] at HOwn HMl
      clear hms
      go_wp2_with fail
      refine (move_is (1000 - (i : Int)) (128 + 128 * (r5 : Int)) 0 _).mono ?_
      rintro e w5 ⟨rfl, c5⟩
      have B5 := ck.trans (c5.mono sr)
      have HO5 := Lib.hid (HOwn.out.below c5)
      have q0 := below_alloc w5 (.cells #[.int .i64 (1000 - (i : Int)), .int .i64 0, .int .i64 1, .int .i64 (128 + 128 * (r5 : Int)), .int .i64 0, .string ⟨#[120]⟩, .string ⟨#[]⟩] 26)
      have HAt := Lib.hid (show AtC (cellsOp ⟨1000 - (i : Int), 0, 1, 128 + 128 * (r5 : Int), 0, ⟨#[120]⟩, ⟨#[]⟩⟩) (w5.alloc (.cells #[.int .i64 (1000 - (i : Int)), .int .i64 0, .int .i64 1, .int .i64 (128 + 128 * (r5 : Int)), .int .i64 0, .string ⟨#[120]⟩, .string ⟨#[]⟩] 26)) w5.heap.size 0 from atC_new w5 #[.int .i64 (1000 - (i : Int)), .int .i64 0, .int .i64 1, .int .i64 (128 + 128 * (r5 : Int)), .int .i64 0, .string ⟨#[120]⟩, .string ⟨#[]⟩] 26)
      have s5 := c5.size
      have sq := q0.size
      go_wp2_with (at_builtin; refine wpList_append_rec cellsOp rfl _ _ 22 rfl w1.heap.size 26 iO _ 72 Try.underlying22 hiO hzO hszO hbyO rfl _ ms [⟨1000 - (i : Int), 0, 1, 128 + 128 * (r5 : Int), 0, ⟨#[120]⟩, ⟨#[]⟩⟩] rfl (HO5.out.below q0) _ rfl (src_one op_len op_one Try.underlying22 HAt.out) (by have := HMl.out; unfold maxLen; simp; omega) (by have := HMl.out; simp; omega) (by omega) ?_)
      intro v7 w7 ho7 c7
      have B7 := (B5.trans (q0.mono (Nat.le_trans sr s5))).trans c7
      go_wp2_with fail
      go_roundw
      case rel => exact ⟨i + 1, by omega, by go_num, by rw [HMs.out, HMv.out]; exact ho7, B7⟩
      case measure => simp [RowKit.intOf]; omega
    · obtain rfl : i = k := by omega
      have hi2 : ¬ (i : Int) < (i : Int) := by omega
      obtain ⟨a7, c7, rfl, hI7⟩ := OwnR.isR op_len HOwn.out
      have hlm := mvs_len i
      have hallm := all_mv (k := i) (by omega)
      obtain ⟨mm, hmm⟩ : ∃ mm, min i 200 = mm := ⟨_, rfl⟩
      have hmm2 : mm ≤ 200 := by omega
      have hmi : mm ≤ i := by omega
      have hokm := ok_mv hmm2
      have hlenm := sort_mv mm (by omega)
      rw [hmm] at hallm
      obtain ⟨wn, hwn⟩ : ∃ wn, i - mm = wn := ⟨_, rfl⟩
      have hwi : (i : Int) - (mm : Int) = (wn : Int) := by omega
      rw [hwn] at hallm
      have hadd : ∀ p, p < i → addL (sortO (mvs mm)) (mv p) = (sortO (mvs mm), if p < mm then 0 else 193) := fun p hp => add_mv hmm.symm hp (by omega)
      obtain ⟨T, hT⟩ : ∃ T, sortO (mvs mm) = T := ⟨_, rfl⟩
      rw [hT] at hallm hokm hlenm hadd
      have HAdd := Lib.hid hadd
      have HOk := Lib.hid hokm
      have HTl := Lib.hid hlenm
      have HI7 := Lib.hid hI7
      have hAll := all_is wr (lgAt_nil wr) okS_nil hI7 (by omega) (fun x hx => by obtain ⟨q, _, rfl⟩ := mvs_mem hx; exact mv_small q) (fun x hx => by obtain ⟨q, hq, rfl⟩ := mvs_mem hx; exact mv_rng (by omega))
      rw [hallm, hlm] at hAll
      have HAll := Lib.hid hAll
      rw [hlm]
      have Bw := Lib.hid (step_b b1 ck)
      have HMm := Lib.hid hmm
      clear hAll hallm hokm hlenm hadd hT hI7 HOwn ck hwn b1 hmm hlm
      go_wp2_with fail
      refine (HAll.out).mono ?_
      rintro e w4 ⟨a4, n4, c4, b4, m4, d4, rfl, h4, k4⟩
      simp only [] at h4
      obtain rfl : n4 = mm := h4.2.1.trans HTl.out
      have q4 := below_alloc w4 (.cells #[.slice a4 n4 c4, .slice b4 m4 d4] 32)
      obtain ⟨W, hW⟩ : ∃ W, W = w4.alloc (.cells #[.slice a4 n4 c4, .slice b4 m4 d4] 32) := ⟨_, rfl⟩
      have hG : Cells W w4.heap.size [.slice a4 n4 c4, .slice b4 m4 d4] := by rw [hW]; exact cells_new w4 [.slice a4 n4 c4, .slice b4 m4 d4] 32
      have hL : LgAt W a4 n4 c4 b4 m4 d4 T := by rw [hW]; exact h4.below q4
      have hB : Below w.heap.size w W := by rw [hW]; exact (step_b Bw.out k4).trans (q4.mono (Nat.le_trans Bw.out.size k4.size))
      have hIW : IsOp W a7 c7 (mvs i) := by rw [hW]; exact IsR.below (IsR.below HI7.out k4) q4
      have HG := Lib.hid hG
      have HL := Lib.hid hL
      have HB := Lib.hid hB
      have HIW := Lib.hid hIW
      clear hG hL hB hIW k4 q4 h4 Bw HI7 HAll
      go_upto_region 9 with fail
      rw [← hW]
      clear hW
      go_cut [11] (fun s wx => s = .int .i64 (n4 : Int) ∧ wx = W)
      case first =>
        have hm9 := HMm.out
        go_wp2_with fail
        all_goals (go_meet; exact ⟨by congr 1; omega, rfl⟩)
      case rest =>
        obtain ⟨rfl, rfl⟩ := hcut
        have x0 := HG.out.cell 0 _ rfl
        have hlt := HG.out.lt
        by_cases hi0 : i = 0
        · subst hi0
          go_wp2_with fail
          go_ret
          exact ⟨rfl, HB.out⟩
        · have hi1 : ((i : Int) == 0) = false := by rw [beq_eq_false_iff_ne]; omega
          obtain ⟨p, hp⟩ : ∃ p, t0 % i = p := ⟨_, rfl⟩
          have hpi : p < i := by rw [← hp]; exact Nat.mod_lt _ (by omega)
          have hpr : (t0 : Int) % (i : Int) = (p : Int) := by rw [← hp]; norm_cast
          have hpi2 : (p : Int) < (i : Int) := by omega
          obtain ⟨er, her⟩ : ∃ er : Int, (if p < n4 then 0 else 193) = er := ⟨_, rfl⟩
          have hap := HAdd.out p hpi
          rw [her] at hap
          have HAp := Lib.hid hap
          have HEr := Lib.hid her
          have Hi0 := Lib.hid hi0
          clear hp her hap hi0
          go_upto_region 15 with fail
          rw [hpr]
          clear hpr
          go_cut [13, 14] (fun s13 s14 wx => ∃ (gn : Nat) (a3 : Option Addr) (n3 c3 : Nat) (b3 : Option Addr) (m3 d3 : Nat), s13 = .pointer (some ⟨gn, 0, none⟩) ∧ s14 = .int .i64 er ∧ Cells wx gn [.slice a3 n3 c3, .slice b3 m3 d3] ∧ LgAt wx a3 n3 c3 b3 m3 d3 T ∧ Below wc.heap.size wc wx)
          case first =>
            have hHA : ∀ (w' : World), Below wc.heap.size wc w' → Calls Try.prog 13 #[LW a4 n4 c4 b4 m4 d4, OV (mv p)] w' (LgEF (T, er) w') := fun w' hb => by
              have := add_isF w' (HL.out.below hb) HOk.out (mv_small p) (mv_rng (i := p) (by omega))
              rw [HAp.out] at this
              exact this
            have HA0 := Lib.hid hHA
            obtain ⟨gl, ol, eal, hgl, hcl⟩ := HIW.out.opn (mvs_at hpi)
            have HCl := Lib.hid (hcl p _ (mvs_at hpi))
            have Hgl := Lib.hid hgl
            clear hHA hcl hgl
            subst eal
            obtain ⟨⟨oc, or', ok, on, op, os, od⟩, hmv⟩ : ∃ z, mv p = z := ⟨_, rfl⟩
            have HA1 := HA0.out
            have hCl1 := HCl.out
            rw [hmv] at HA1 hCl1
            have HA := Lib.hid HA1
            obtain ⟨m0, m1, m2, m3, m4', m5, m6⟩ := hCl1
            have HT := Lib.hid (fun (w' : World) (hb : Below wc.heap.size wc w') => (show (w'.cell? ⟨w4.heap.size, 0, none⟩ = some (.slice a4 n4 c4) ∧ w'.cell? ⟨w4.heap.size, 1, none⟩ = some (.slice b4 m4 d4)) ∧ (w'.cell? ⟨gl, ol + p * 7, none⟩ = some (.int .i64 oc) ∧ w'.cell? ⟨gl, ol + p * 7 + 1, none⟩ = some (.int .i64 or') ∧ w'.cell? ⟨gl, ol + p * 7 + 2, none⟩ = some (.int .i64 ok) ∧ w'.cell? ⟨gl, ol + p * 7 + 3, none⟩ = some (.int .i64 on) ∧ w'.cell? ⟨gl, ol + p * 7 + 4, none⟩ = some (.int .i64 op) ∧ w'.cell? ⟨gl, ol + p * 7 + 5, none⟩ = some (.string os) ∧ w'.cell? ⟨gl, ol + p * 7 + 6, none⟩ = some (.string od)) from by
              have e : ∀ i, w'.cell? ⟨gl, i, none⟩ = wc.cell? ⟨gl, i, none⟩ := fun i => hb.cell (p := ⟨gl, i, none⟩) Hgl.out
              exact ⟨⟨(HG.out.below hb).cell 0 _ rfl, (HG.out.below hb).cell 1 _ rfl⟩, (e _).trans m0, (e _).trans m1, (e _).trans m2, (e _).trans m3, (e _).trans m4', (e _).trans m5, (e _).trans m6⟩))
            have hdr : Below wc.heap.size wc wc.drew := (Below.refl _ _).drew
            have hdra : ∀ X, Below wc.heap.size wc (wc.alloc X).drew := fun X => (below_alloc wc X).drew
            have hdrk : Cells (wc.alloc (.cells #[.slice none 0 0, .slice none 0 0] 32)).drew wc.heap.size [.slice none 0 0, .slice none 0 0] := by
              have q := cells_new wc [.slice none 0 0, .slice none 0 0] 32
              exact ⟨q.lt, q.cell, q.free⟩
            clear HA0 HCl HA1 hmv m0 m1 m2 m3 m4' m5 m6 x0 HAdd HAp
            go_region_held3 (fun w' => (w'.cell? ⟨w4.heap.size, 0, none⟩ = some (.slice a4 n4 c4) ∧ w'.cell? ⟨w4.heap.size, 1, none⟩ = some (.slice b4 m4 d4)) ∧ (w'.cell? ⟨gl, ol + p * 7, none⟩ = some (.int .i64 oc) ∧ w'.cell? ⟨gl, ol + p * 7 + 1, none⟩ = some (.int .i64 or') ∧ w'.cell? ⟨gl, ol + p * 7 + 2, none⟩ = some (.int .i64 ok) ∧ w'.cell? ⟨gl, ol + p * 7 + 3, none⟩ = some (.int .i64 on) ∧ w'.cell? ⟨gl, ol + p * 7 + 4, none⟩ = some (.int .i64 op) ∧ w'.cell? ⟨gl, ol + p * 7 + 5, none⟩ = some (.string os) ∧ w'.cell? ⟨gl, ol + p * 7 + 6, none⟩ = some (.string od)))
              (first | with_reducible exact HT.out _ hdr | with_reducible exact HT.out _ (hdra _) | with_reducible exact HT.out _ ba | with_reducible exact HT.out _ (Below.alloc ba ba.size _) | with_reducible exact HT.out _ (Below.setCell (p := ⟨_, 1, none⟩) (Below.setCell (p := ⟨_, 0, none⟩) ba (Nat.le_refl _) _) (Nat.le_refl _) _))
              (first | (go_at_call 13; refine (HA.out wc.drew hdr).mono ?_; rintro e wa ⟨a3, n3, c3, b3, m3, d3, rfl, hl3, fa3, fb3, ca⟩; have ba : Below wc.heap.size wc wa := hdr.trans ca) | (go_at_call 13; refine (HA.out _ (hdra _)).mono ?_; rintro e wa ⟨a3, n3, c3, b3, m3, d3, rfl, hl3, fa3, fb3, ca⟩; have ba : Below wc.heap.size wc wa := (hdra _).trans (ca.mono (hdra _).size); have Ka := hdrk.below ca; have r0 := Ka.cell 0 _ rfl; have r1 := Ka.cell 1 _ rfl; have f0 := Ka.free 0 (by simp); have f1 := Ka.free 1 (by simp); have hltK := Ka.lt))
            · have q6 := below_alloc wa (.cells #[.slice a3 n3 c3, .slice b3 m3 d3] 32)
              go_wp2_with fail
              go_meet
              exact ⟨wa.heap.size, a3, n3, c3, b3, m3, d3, rfl, rfl, cells_new wa [.slice a3 n3 c3, .slice b3 m3 d3] 32, hl3.below q6, ba.trans (q6.mono ba.size)⟩
            · have hwm : wc.heap.size < (wc.alloc (.cells #[.slice none 0 0, .slice none 0 0] 32)).heap.size := by simp
              go_wp2_with fail
              go_meet
              exact ⟨wc.heap.size, a3, n3, c3, b3, m3, d3, rfl, rfl, (Ka.set 0 (by simp) _).set 1 (by simp) _, hl3.store _ _ _ (fresh_ne fa3 hwm) (fresh_ne fb3 hwm), (ba.setCell (p := ⟨wc.heap.size, 0, none⟩) (Nat.le_refl _) _).setCell (p := ⟨wc.heap.size, 1, none⟩) (Nat.le_refl _) _⟩
          case rest =>
            obtain ⟨gn, a3, n3, c3, b3, m3, d3, rfl, rfl, hN, hL3, hB⟩ := hcut
            have HS := Lib.hid (lsame_is rfl _ hL3 (HL.out.below hB) (by have := HOk.out.few; omega))
            have hG := HG.out.below hB
            have z0 := hN.cell 0 _ rfl
            have z1 := hN.cell 1 _ rfl
            have x1 := hG.cell 0 _ rfl
            have x2 := hG.cell 1 _ rfl
            have BW := Lib.hid (step_b HB.out hB)
            clear hN hL3 hB hG x0
            by_cases hpn : p < n4
            · have hpn2 : (p : Int) < (n4 : Int) := by omega
              have her := HEr.out
              rw [if_pos hpn] at her
              have he2 : (er == 0) = true := by rw [← her]; rfl
              clear her
              go_wp2_with fail
              refine (HS.out).mono ?_
              rintro e w6 ⟨rfl, c6⟩
              have B6 := Lib.hid (step_b BW.out c6)
              go_wp2_with fail
              go_ret
              exact ⟨rfl, B6.out⟩
            · have hpn2 : ¬ (p : Int) < (n4 : Int) := by omega
              have her := HEr.out
              rw [if_neg hpn] at her
              have he2 : (er == 193) = true := by rw [← her]; rfl
              clear her
              go_wp2_with fail
              refine (HS.out).mono ?_
              rintro e w6 ⟨rfl, c6⟩
              have B6 := Lib.hid (step_b BW.out c6)
              go_wp2_with fail
              go_ret
              exact ⟨rfl, B6.out⟩
end Go.Proofs.Ytnndanpahcdmaaa
