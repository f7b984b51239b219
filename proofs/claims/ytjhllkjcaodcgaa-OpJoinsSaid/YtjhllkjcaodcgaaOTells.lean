/-
  OpTells: whether any operation may be, whether one stands ahead of another one, its bytes, and the operations of any bytes, are the document's.
-/
import Derived.Test.YtjhllkjcaodcgaaOOwn
import Derived.Test.YtjhllkjcaodcgaaOBackLaw
namespace Go.Proofs.Ytjhllkjcaodcgaa
open Go.RowKit Go.Lib
/-- The program, and the document, answer this at these arguments. -/
def Twin (f g : FuncId) (args : Array Value) (v : Value) : Prop :=
  (∀ w, Calls Try.prog f args w fun e w' => e = .returned v ∧ Below w.heap.size w w') ∧ (∀ w, Calls Try.prog g args w fun e w' => e = .returned v ∧ Below w.heap.size w w')
theorem Twin.l {f g : FuncId} {args : Array Value} {v : Value} (h : Twin f g args v) (w : World) : Calls Try.prog f args w fun e w' => e = .returned v ∧ Below w.heap.size w w' := h.1 w
theorem Twin.r {f g : FuncId} {args : Array Value} {v : Value} (h : Twin f g args v) (w : World) : Calls Try.prog g args w fun e w' => e = .returned v ∧ Below w.heap.size w w' := h.2 w
theorem oput_twin (b : ByteArray) (o : Opn) (hb : b.size ≤ 1000000) (hs : o.s.size ≤ 1000) (hd : o.d.size ≤ 1000) (hr : Rng o) : ∃ (s : ByteArray) (e : Int), Twin 11 12 #[.string b, OV o] (.tuple #[.string s, .int .i64 e]) := by
  cases h : mayO o with
  | true => exact ⟨_, _, fun w => oput_yes b o w hb h, fun w => rput_yes b o w (by omega) h (by omega) (by omega)⟩
  | false => exact ⟨_, _, fun w => oput_no b o w h (by unfold maxLen; omega) hr.1 hr.2, fun w => rput_no b o w h (by omega)⟩
theorem otk_twin (b : ByteArray) (hb : b.size ≤ 10000) : ∃ (o : Opn) (r : ByteArray) (e : Int), Twin 13 14 #[.string b] (.tuple #[OV o, .string r, .int .i64 e]) := by
  by_cases h : ∃ q r, TakesO b.data.toList q r
  · obtain ⟨q, r, h⟩ := h
    exact ⟨_, _, _, fun w => otk_yes b (by omega) q r h w, fun w => rtko_yes b hb q r h w⟩
  · have h2 : NoTakeO b.data.toList := fun q r hn => h ⟨q, r, hn⟩
    exact ⟨_, _, _, fun w => otk_no b (by omega) h2 w, fun w => rtko_no b hb h2 w⟩
def RdIs (m : List Opn) (k : Int) (e : Ending) (w w' : World) : Prop := ∃ a c, e = .returned (.tuple #[.slice a m.length c, .int .i64 k]) ∧ IsO w' a c m ∧ Below w.heap.size w w'
theorem rd_is {b : ByteArray} {m : List Opn} (hm : ReadsO b.data.toList m) {w w' : World} {e : Ending} (h : RdPost b.data.toList w e w') : RdIs m 0 e w w' := by
  obtain ⟨h, hb⟩ := h
  rcases h with ⟨l, hl, a, c, rfl, hi⟩ | ⟨hn, _⟩
  · have := opsB_inj hm.1 hl.1 (hm.2.symm.trans hl.2)
    subst this
    exact ⟨a, c, rfl, hi, hb⟩
  · exact absurd hm (hn m)
theorem rd_none {b : ByteArray} (hn : NoRead b.data.toList) {w w' : World} {e : Ending} (h : RdPost b.data.toList w e w') : RdIs [] 50 e w w' := by
  obtain ⟨h, hb⟩ := h
  rcases h with ⟨l, hl, _⟩ | ⟨_, rfl⟩
  · exact absurd hl (hn l)
  · exact ⟨none, 0, rfl, isO_nil w', hb⟩
theorem oread_twin (b : ByteArray) (hb : b.size ≤ 3000) : ∃ (m : List Opn) (k : Int), m.length ≤ 1000 ∧ (∀ w, Calls Try.prog 17 #[.string b] w fun e w' => RdIs m k e w w') ∧ (∀ w, Calls Try.prog 18 #[.string b] w fun e w' => RdIs m k e w w') := by
  by_cases h : ∃ m, ReadsO b.data.toList m
  · obtain ⟨m, hm⟩ := h
    have hml : m.length ≤ 1000 := by
      have h5 := opsB_five m
      have := congrArg List.length hm.2
      have hz : b.data.toList.length = b.size := by simp
      omega
    exact ⟨m, 0, hml, fun w => (oread_any b w (by omega)).mono fun e w' h => rd_is hm h, fun w => (rread_any b w (by omega)).mono fun e w' h => rd_is hm h⟩
  · have hn : NoRead b.data.toList := fun m hm => h ⟨m, hm⟩
    exact ⟨[], 50, Nat.zero_le _, fun w => (oread_any b w (by omega)).mono fun e w' h => rd_none hn h, fun w => (rread_any b w (by omega)).mono fun e w' h => rd_none hn h⟩
theorem few_app {l m : List Opn} {n : Int} (h : fewO (l ++ m) n = true) : Small l ∧ Small m := by
  obtain ⟨h1, _⟩ := few_small h
  exact ⟨fun o ho => h1 o (by simp [ho]), fun o ho => h1 o (by simp [ho])⟩
theorem isO_few {l : List Opn} {v : Value} {W : World} {B : Nat} (h : OwnO B l v W) (hl : l.length ≤ maxLen) (n : Int) :
    Calls Try.prog 10 #[v, .int .i64 n] W fun e w' => e = .returned (.bool (fewO l n)) ∧ Below W.heap.size W w' := by
  obtain ⟨a, c, rfl, hi, _⟩ := h.isO
  exact (rfew_any a c l n W hi hl).mono fun e w' ⟨h1, h2⟩ => ⟨h1, by rw [h2]; exact Below.refl _ _⟩
set_option maxRecDepth 100000 in
set_option maxHeartbeats 8000000 in
theorem otells_walk (o q : Opn) (a : Option Addr) (cap : Nat) (l : List Opn) (b : ByteArray) (w : World) (ho : InO o) (hq : InO q) (hl : IsO w a cap l ∧ l.length ≤ maxLen ∧ (∀ o ∈ l, InO o) ∧ (a = none → cap = 0)) (_hb : b.size ≤ maxLen) (hz : l.length * 72 ≤ 140737488351232) :
    Calls Try.prog 3 #[OV o, OV q, .slice a l.length cap, .string b] w fun e w' => e = .returned (.bool true) ∧ Below w.heap.size w w' := by
  obtain ⟨hi, _, hin, hnone⟩ := hl
  clear _hb
  have HN := Lib.hid hnone
  have HQ := Lib.hid hq
  have HO := Lib.hid ho
  have HG := Lib.hid (show ∀ x ∈ l, Rng x from fun x hx => ⟨(hin x hx).1.2.2.2.1, (hin x hx).1.2.2.2.2⟩)
  have HGO := Lib.hid (show Rng o from ⟨ho.1.2.2.2.1, ho.1.2.2.2.2⟩)
  have HI := Lib.hid (hi.below (((Below.refl w.heap.size w).alloc (Nat.le_refl _) (.cells (cellsO o).toArray 25)).alloc (by simp) (.cells (cellsO q).toArray 25)))
  clear hi hnone hq ho hin
  have bo := ((Below.refl w.heap.size w).alloc (Nat.le_refl _) (.cells (cellsO o).toArray 25)).alloc (by simp) (.cells (cellsO q).toArray 25)
  have h4 := Lib.hid ((hasO_new w o 25).below (below_alloc _ (.cells (cellsO q).toArray 25)))
  have h5 := Lib.hid (hasO_new (w.alloc (.cells (cellsO o).toArray 25)) q 25)
  have hsz : (w.alloc (.cells (cellsO o).toArray 25)).heap.size = w.heap.size + 1 := by simp
  rw [hsz] at h5
  clear hsz
  go_enter Try.func3, Try.ntmps3
  go_wp2_with fail
  refine (awake_any _).mono ?_
  rintro e w1 ⟨rfl, b1⟩
  have bw := bo.trans (b1.mono bo.size)
  have H4 := Lib.hid (h4.out.below b1)
  have H5 := Lib.hid (h5.out.below b1)
  have HI1 := Lib.hid (HI.out.below b1)
  clear h4 h5 HI bo b1
  obtain ⟨fb, hfb⟩ : ∃ x, fewO (l ++ [o, q]) 102 = x := ⟨_, rfl⟩
  have HF := Lib.hid hfb
  obtain ⟨d3, hd3⟩ : ∃ x, decide ((3000 : Int) < (b.size : Int)) = x := ⟨_, rfl⟩
  clear hfb
  go_wp2_with fail
  cases fb <;> cases d3
  all_goals
    refine wp_region_l (by kernel_rfl) (by kernel_rfl) ?_
    refine wpL_make (OwnO w1.heap.size []) (fun v w w' h hk => h.stay v w w' hk) (fun xs n _ => ?_) (fun K hK => ?_)
    · unfold relOp; go_simp; simp only [relUpon]
      exact ⟨ownO_empty _ _ n.below.size, below_alloc _ _, new_own _ _ _ _⟩
    go_simp; (try go_ints); refine hK _ ?_; clear hK K
    refine wpL_pure (fun K hK => ?_); go_simp; refine hK _ ?_; clear hK K
    refine wpL_take 0 (OwnO w1.heap.size l) (fun v w w' h hk => h.stay v w w' hk) rfl (by kernel_rfl) (by kernel_rfl) (fun xs n hf => ?_) (fun K hK => ?_)
    · rw [if_pos (by rfl)]
      have h0 := factL hf 0 rfl (by kernel_rfl)
      obtain ⟨v', w', hrun, q1, q2, q3⟩ := run_append_ops n.w 26 h0 a cap (HI1.out.below n.below) HN.out (by simp; omega) n.below.size
      exact relOp_append _ _ _ _ rfl rfl rfl hrun ⟨q1, q2, q3⟩
    go_simp; (try go_ints); refine hK _ ?_; clear hK K
    refine wpL_use (OV o) (fun xs n _ => ?_) (fun K hK => ?_)
    · obtain ⟨k0, k1, k2, k3, k4, k5, k6⟩ := H4.out.below n.below
      go_simp
    go_simp; (try go_ints); refine hK _ ?_; clear hK K
    refine wpL_use (OV q) (fun xs n _ => ?_) (fun K hK => ?_)
    · obtain ⟨k0, k1, k2, k3, k4, k5, k6⟩ := H5.out.below n.below
      go_simp
    go_simp; (try go_ints); refine hK _ ?_; clear hK K
    refine wpL_make (OwnO w1.heap.size [o, q]) (fun v w w' h hk => h.stay v w w' hk) (fun xs n _ => ?_) (fun K hK => ?_)
    · unfold relOp; go_simp; simp only [relUpon]
      exact ⟨ownO_made n.w _ n.below.size [o, q] (by simp) _ rfl, below_alloc _ _, new_own _ _ _ _⟩
    go_simp; (try go_ints); refine hK _ ?_; clear hK K
    refine wpL_take 1 (OwnO w1.heap.size (l ++ [o, q])) (fun v w w' h hk => h.stay v w w' hk) rfl (by kernel_rfl) (by kernel_rfl) (fun xs n hf => ?_) (fun K hK => ?_)
    · rw [if_pos (by rfl)]
      have h2 := factL hf 1 rfl (by kernel_rfl)
      obtain ⟨a5, c5, e5, hi5, hn5⟩ := (factL hf 0 rfl (by kernel_rfl)).isO
      obtain ⟨v', w', hrun, q1, q2, q3⟩ := run_append_ops n.w 26 h2 a5 c5 hi5 hn5 (by simp; omega) n.below.size
      exact relOp_append _ _ _ _ rfl rfl e5 hrun ⟨q1, q2, q3⟩
    go_simp; (try go_ints); refine hK _ ?_; clear hK K
    first
      | (have hT : fewO (l ++ [o, q]) 102 = true := HF.out; refine wpL_use (.bool true) (fun xs n hf => ?_) (fun K hK => ?_))
      | (have hT : fewO (l ++ [o, q]) 102 = false := HF.out; refine wpL_use (.bool false) (fun xs n hf => ?_) (fun K hK => ?_))
    · have h6 := isO_few (factL hf 0 rfl (by kernel_rfl)) (by unfold maxLen; simp; omega) 102
      rw [HF.out] at h6
      go_simp
    clear hT
    go_simp; (try go_ints); refine hK _ ?_; clear hK K
    repeat (refine wpL_pure (fun K hK => ?_); go_simp; (try go_ints); refine hK _ ?_; clear hK K)
    refine wpL_nil (fun xs n _ => ?_)
    have b2 := bw.trans (n.below.mono bw.size)
    have HI2 := Lib.hid (HI1.out.below n.below)
    have G4 := Lib.hid (H4.out.below n.below)
    have G5 := Lib.hid (H5.out.below n.below)
    clear HI1 H4 H5 bw
    generalize n.w = w2 at b2 HI2 G4 G5 ⊢
  case false.false => go_wp2_with fail; go_ret; exact ⟨rfl, b2⟩
  case false.true => go_wp2_with fail; go_ret; exact ⟨rfl, b2⟩
  case true.true => go_wp2_with fail; go_ret; exact ⟨rfl, b2⟩
  case true.false =>
    obtain ⟨hsl, hs2⟩ := few_app HF.out
    have hlen := (few_small HF.out).2
    rw [List.length_append] at hlen
    have hso := hs2 o (by simp)
    have hsq := hs2 q (by simp)
    have hb3 : b.size ≤ 3000 := by have := of_decide_eq_false hd3; omega
    have HSL := Lib.hid hsl
    have HLen := Lib.hid (show l.length ≤ 1000 by simp at hlen; omega)
    obtain ⟨ws, we, hput⟩ := oput_twin b o (by omega) hso.1 hso.2 HGO.out
    obtain ⟨tk, tr, te, htk⟩ := otk_twin b (by omega)
    obtain ⟨m, mk, hml, hr1, hr2⟩ := oread_twin b (by omega)
    obtain ⟨vs, hvs⟩ : ∃ x, wrS l = x := ⟨_, rfl⟩
    obtain ⟨ve, hve⟩ : ∃ x, wrE l = x := ⟨_, rfl⟩
    obtain ⟨cb, hcb⟩ : ∃ x, mayO o = x := ⟨_, rfl⟩
    obtain ⟨lb, hlb⟩ : ∃ x, lessS o.c o.r q.c q.r = x := ⟨_, rfl⟩
    have HP := Lib.hid hput
    have HT := Lib.hid htk
    have HR1 := Lib.hid hr1
    have HR2 := Lib.hid hr2
    have HW1 := Lib.hid (fun (W : World) (h : IsO W a cap l) => owrite_any a cap l W h HLen.out HSL.out HG.out)
    have HW2 := Lib.hid (fun (W : World) (h : IsO W a cap l) => rwrite_any a cap l W h HLen.out HSL.out)
    rw [hvs, hve] at HW1 HW2
    have HC1 := Lib.hid (fun (W : World) => ochk_any o W (by unfold maxLen; omega) HGO.out.1 HGO.out.2)
    have HC2 := Lib.hid (fun (W : World) => rchk_any o W (by omega))
    rw [hcb] at HC1 HC2
    have HL1 := Lib.hid (fun (W : World) => oless_any o q W)
    have HL2 := Lib.hid (fun (W : World) => rolt_any o q W)
    rw [hlb] at HL1 HL2
    have HM := Lib.hid (fun (W : World) a2 c2 (h1 : IsO W a2 c2 m) a3 c3 (h2 : IsO W a3 c3 m) => rsame_any a2 a3 c2 c3 m m W h1 h2 (by omega))
    have es : sameO m m = true := decide_eq_true rfl
    rw [es] at HM
    clear es hlb hcb hve hvs hr1 hr2 htk hput hb3 hso hsq hs2 hsl hlen HF hml
    obtain ⟨m0, m1, m2, m3, m4, m5, m6⟩ := G4.out
    go_wp2_with fail
    refine (HP.out.l _).mono ?_
    rintro e w3 ⟨rfl, c3⟩
    have b3 := step_b b2 c3
    have HI3 := Lib.hid (HI2.out.below c3)
    have K4 := Lib.hid (G4.out.below c3)
    have K5 := Lib.hid (G5.out.below c3)
    clear m0 m1 m2 m3 m4 m5 m6 c3 b2 HI2 G4 G5
    obtain ⟨m0, m1, m2, m3, m4, m5, m6⟩ := K4.out
    go_wp2_with fail
    refine (HP.out.r _).mono ?_
    rintro e w4 ⟨rfl, c4⟩
    have b4 := step_b b3 c4
    have HI4 := Lib.hid (HI3.out.below c4)
    have N4 := Lib.hid (K4.out.below c4)
    have N5 := Lib.hid (K5.out.below c4)
    clear m0 m1 m2 m3 m4 m5 m6 c4 b3 HI3 K4 K5
    go_wp2_with fail
    refine (HT.out.l _).mono ?_
    rintro e w5 ⟨rfl, c5⟩
    have b5 := step_b b4 c5
    have HI5 := Lib.hid (HI4.out.below c5)
    have G4 := Lib.hid (N4.out.below c5)
    have G5 := Lib.hid (N5.out.below c5)
    clear c5 b4 HI4 N4 N5
    go_wp2_with fail
    refine (HT.out.r _).mono ?_
    rintro e w6 ⟨rfl, c6⟩
    have b6 := step_a b5 c6
    have q6 := step_a (Below.refl _ _) c6
    have HI6 := Lib.hid (HI5.out.below q6)
    have K4 := Lib.hid (G4.out.below q6)
    have K5 := Lib.hid (G5.out.below q6)
    have T6 := Lib.hid ((hasO_new w5 tk 25).below c6)
    clear c6 b5 q6 HI5 G4 G5
    go_wp2_with fail
    refine (HW1.out _ (HI6.out.below (below_alloc _ _))).mono ?_
    rintro e w7 ⟨rfl, c7⟩
    have b7 := step_a b6 c7
    have q7 := step_a (Below.refl _ _) c7
    have HI7 := Lib.hid (HI6.out.below q7)
    have G4 := Lib.hid (K4.out.below q7)
    have G5 := Lib.hid (K5.out.below q7)
    have T7 := Lib.hid (T6.out.below q7)
    have U7 := Lib.hid ((hasO_new w6 tk 25).below c7)
    clear c7 b6 q7 HI6 K4 K5 T6
    go_wp2_with fail
    refine (HW2.out _ HI7.out).mono ?_
    rintro e w8 ⟨rfl, c8⟩
    have b8 := step_b b7 c8
    have K4 := Lib.hid (G4.out.below c8)
    have K5 := Lib.hid (G5.out.below c8)
    have T8 := Lib.hid (T7.out.below c8)
    have U8 := Lib.hid (U7.out.below c8)
    clear c8 b7 HI7 G4 G5 T7 U7
    go_wp2_with fail
    refine (HR1.out _).mono ?_
    rintro e w9 ⟨ax, cx, rfl, hx, c9⟩
    have b9 := step_b b8 c9
    have X9 := Lib.hid hx
    have G4 := Lib.hid (K4.out.below c9)
    have G5 := Lib.hid (K5.out.below c9)
    have T9 := Lib.hid (T8.out.below c9)
    have U9 := Lib.hid (U8.out.below c9)
    clear c9 b8 K4 K5 T8 U8 hx
    go_wp2_with fail
    refine (HR2.out _).mono ?_
    rintro e wA ⟨ay, cy, rfl, hy, cA⟩
    have bA := step_b b9 cA
    have XA := Lib.hid (X9.out.below cA)
    have YA := Lib.hid hy
    have l4 := (G4.out.below cA).lt
    have l5 := (G5.out.below cA).lt
    have l6 := (T9.out.below cA).lt
    have l7 := (U9.out.below cA).lt
    obtain ⟨m0, m1, m2, m3, m4, m5, m6⟩ := G4.out.below cA
    obtain ⟨n0, n1, n2, n3, n4, n5, n6⟩ := G5.out.below cA
    obtain ⟨t0, t1, t2, t3, t4, t5, t6⟩ := T9.out.below cA
    obtain ⟨u0, u1, u2, u3, u4, u5, u6⟩ := U9.out.below cA
    clear cA b9 G4 G5 T9 U9 X9 hy
    go_wp2_with fail
    refine wp_region_later (by kernel_rfl) (by kernel_rfl) (fun hL => ?_)
    repeat (go_big_quiet_step ((first | (go_at_call 19; with_reducible refine later_calls (HC1.out _)) | (go_at_call 20; with_reducible refine later_calls (HC2.out _)) | (go_at_call 21; with_reducible refine later_calls (HL1.out _)) | (go_at_call 22; with_reducible refine later_calls (HL2.out _)))))
    intro w' hw
    have cB := later_out hw
    have bB := step_b bA cB
    have XB := Lib.hid (XA.out.below cB)
    have YB := Lib.hid (YA.out.below cB)
    clear hw hL m0 m1 m2 m3 m4 m5 m6 n0 n1 n2 n3 n4 n5 n6 t0 t1 t2 t3 t4 t5 t6 u0 u1 u2 u3 u4 u5 u6 l4 l5 l6 l7
    go_wp2_with fail
    refine (HM.out _ _ _ XB.out _ _ YB.out).mono ?_
    rintro e wC ⟨rfl, hC⟩
    have bC := step_b bB hC
    go_wp2
    go_ret
    exact ⟨rfl, bC⟩
end Go.Proofs.Ytjhllkjcaodcgaa
