/-
  The landed package tree: what is above a number, asked by a closure.
-/
import Derived.Test.YtefbkhgnhcllbaaTFind
namespace Go.Proofs.Ytefbkhgnhcllbaa
open Go.RowKit Go.Lib
def ClimbPost (us : List Int) (p : Int → Bool) (I : List Int → World → Prop) (w0 w : World) (e : Ending) (w' : World) : Prop := e = .returned (.bool (us.any p)) ∧ Below w0.heap.size w0 w' ∧ w.heap.size ≤ w'.heap.size ∧ (us.any p = false → I us w')
theorem upN_none {l : List Nod} {k : Nat} {q : Int} (h : getN l q = none) : upN l k q = [] := by
  cases k with
  | zero => rfl
  | succ k => unfold upN; rw [h]
theorem upN_out {l : List Nod} {k : Nat} {q : Int} {x : Nod} (h : getN l q = some x) (hp : x.p = -1) : upN l k q = [] := by
  cases k with
  | zero => rfl
  | succ k => unfold upN; rw [h]; exact if_pos hp
theorem upN_on {l : List Nod} {k : Nat} {q : Int} {x : Nod} (h : getN l q = some x) (hp : ¬ x.p = -1) (hk : 0 < k) : upN l k q = x.p :: upN l (k - 1) x.p := by
  cases k with
  | zero => omega
  | succ k => conv => lhs; unfold upN
              rw [h]; exact if_neg hp
set_option maxRecDepth 100000 in
set_option maxHeartbeats 4000000 in
theorem tclimb_any (a : Option Addr) (c : Nat) (l : List Nod) (i : Int) (w0 w : World) (h : IsNd w0 a c l) (b0 : Below w0.heap.size w0 w) (hm : MayN l) (hl : l.length ≤ 1000000) (g : Nat) (cb : Array Value) (p : Int → Bool) (I : List Int → World → Prop)
    (eg : ∀ args w, (callFunc g args).run Try.prog w = .ok (.enter g args) w) (hI : ∀ d w1 w2, I d w1 → Below w1.heap.size w1 w2 → I d w2) (h0 : I [] w)
    (hc : ∀ d x wI w1, d.length < l.length → w.heap.size ≤ wI.heap.size → I d wI → Below wI.heap.size wI w1 → Below w0.heap.size w0 w1 → Calls Try.prog g (#[.int .i64 x] ++ cb) w1 fun e w2 => e = .returned (.bool (p x)) ∧ Below w0.heap.size w0 w2 ∧ w1.heap.size ≤ w2.heap.size ∧ (∀ q, wI.heap.size ≤ q → q < w1.heap.size → w2.heap[q]? = w1.heap[q]?) ∧ (p x = false → I (d ++ [x]) w2)) :
    Calls Try.prog 41 #[.slice a l.length c, .int .i64 i, .func (.func g) #[] cb] w (ClimbPost (upN l l.length i) p I w0 w) := by
  have H := Lib.hid h
  have HM := Lib.hid hm
  have HI := Lib.hid hI
  have HC := Lib.hid hc
  have H0 := Lib.hid h0
  clear h hm hI hc h0
  go_enter Try.func41, Try.ntmps41
  go_wp2_with fail
  go_step3
  go_wp2_with fail
  go_step3
  go_wp2_with fail
  go_loopw [1, 11] (fun j u w' => ∃ (k : Nat) (q : Int) (d : List Int), k ≤ l.length ∧ u = .int .i64 k ∧ j = .int .i64 q ∧ upN l l.length i = d ++ upN l (l.length - k) q ∧ d.any p = false ∧ d.length = k ∧ I d w' ∧ Below w0.heap.size w0 w' ∧ w.heap.size ≤ w'.heap.size) (fun _ u _ => l.length - (RowKit.intOf u).toNat)
  case atStart => exact ⟨0, i, [], Nat.zero_le _, rfl, rfl, rfl, rfl, rfl, H0.out, b0, Nat.le_refl _⟩
  case round =>
    obtain ⟨k, q, d, hk, rfl, rfl, hup, hd, hdl, hid, ck, hs⟩ := hrel
    have HDL := Lib.hid hdl
    clear hdl
    have HU := Lib.hid hup
    have HD := Lib.hid hd
    have HID := Lib.hid hid
    clear hup hd hid
    by_cases hkl : k < l.length
    · cases hg : getN l q with
      | none =>
        have HN := Lib.hid (tnodeof_none wr (H.out.below ck) HM.out hl hg)
        have HE := Lib.hid (show upN l l.length i = d by rw [HU.out, upN_none hg, List.append_nil])
        clear hg
        go_wp2_with fail
        refine (HN.out).mono ?_
        rintro e w1 ⟨rfl, c1⟩
        have b1 := step_b ck c1
        have s1 := c1.size
        have q1 := below_alloc w1 (.cells #[.int .i64 0, .int .i64 0, .string ⟨#[]⟩, .int .i64 0, .int .i64 0, .string ⟨#[]⟩, .int .i64 0, .int .i64 0] 28)
        have HI1 := Lib.hid (HI.out _ _ _ (HI.out _ _ _ HID.out c1) q1)
        have b2 := step_b b1 q1
        have s2 := Nat.le_trans hs (Nat.le_trans s1 q1.size)
        go_wp2_with fail
        rw [Exit.noGoto_ret]
        go_ret
        exact ⟨by rw [HE.out, HD.out]; rfl, b2, s2, fun _ => by rw [HE.out]; exact HI1.out⟩
      | some x =>
        have HN := Lib.hid (tnodeof_some wr (H.out.below ck) HM.out hl hg)
        have HG := Lib.hid hg
        clear hg
        by_cases hp : x.p = -1
        · have hp1 : (x.p == -1) = true := by rw [beq_iff_eq]; exact hp
          have HE := Lib.hid (show upN l l.length i = d by rw [HU.out, upN_out HG.out hp, List.append_nil])
          clear hp
          go_wp2_with fail
          refine (HN.out).mono ?_
          rintro e w1 ⟨rfl, c1⟩
          have b1 := step_b ck c1
          have s1 := c1.size
          have q1 := below_alloc w1 (.cells #[.int .i64 x.id, .int .i64 x.p, .string x.s, .int .i64 x.mc, .int .i64 x.mr, .string x.d, .int .i64 x.wc, .int .i64 x.wr] 28)
          have HI1 := Lib.hid (HI.out _ _ _ (HI.out _ _ _ HID.out c1) q1)
          have b2 := step_b b1 q1
          have s2 := Nat.le_trans hs (Nat.le_trans s1 q1.size)
          go_wp2_with fail
          rw [Exit.noGoto_ret]
          go_ret
          exact ⟨by rw [HE.out, HD.out]; rfl, b2, s2, fun _ => by rw [HE.out]; exact HI1.out⟩
        · have hp1 : (x.p == -1) = false := by rw [beq_eq_false_iff_ne]; exact hp
          have HE := Lib.hid (show upN l l.length i = (d ++ [x.p]) ++ upN l (l.length - (k + 1)) x.p by rw [HU.out, upN_on HG.out hp (by omega), List.append_assoc]; congr 1)
          clear hp
          obtain ⟨pr, hpr⟩ : ∃ b, p x.p = b := ⟨_, rfl⟩
          go_wp2_with fail
          refine (HN.out).mono ?_
          rintro e w1 ⟨rfl, c1⟩
          have b1 := step_b ck c1
          have s1 := c1.size
          have q1 := below_alloc w1 (.cells #[.int .i64 x.id, .int .i64 x.p, .string x.s, .int .i64 x.mc, .int .i64 x.mr, .string x.d, .int .i64 x.wc, .int .i64 x.wr] 28)
          have HI1 := Lib.hid (HI.out _ _ _ (HI.out _ _ _ HID.out c1) q1)
          have b2 := step_b b1 q1
          have s2 := Nat.le_trans hs (Nat.le_trans s1 q1.size)
          have HCx := Lib.hid (HC.out d x.p wr _ (by have := HDL.out; omega) hs HID.out (step_b c1 q1) b2)
          rw [hpr] at HCx
          have HPR := Lib.hid hpr
          have HX := Lib.hid (show AtC (cellsNd x) _ w1.heap.size 0 from atC_nod w1 x 28)
          have hx1 := (atN_of HX.out).2.1
          have hx1l : w1.heap.size < (w1.alloc (.cells #[.int .i64 x.id, .int .i64 x.p, .string x.s, .int .i64 x.mc, .int .i64 x.mr, .string x.d, .int .i64 x.wc, .int .i64 x.wr] 28)).heap.size := by simp
          clear hpr c1
          cases pr with
          | true =>
            have HT := Lib.hid (show (upN l l.length i).any p = true by rw [HE.out]; simp [HPR.out])
            go_wp2_with (go_at_fn g; refine HCx.out.mono ?_; rintro e w2 ⟨rfl, c2, s3, k2, f2⟩)
            rw [Exit.noGoto_ret]
            go_ret
            exact ⟨by rw [HT.out]; rfl, c2, Nat.le_trans s2 s3, fun h => by rw [HT.out] at h; cases h⟩
          | false =>
            have HT := Lib.hid (show (d ++ [x.p]).any p = false by rw [List.any_append, HD.out]; simp [HPR.out])
            go_wp2_with (go_at_fn g; refine HCx.out.mono ?_; rintro e w2 ⟨rfl, c2, s3, k2, f2⟩; have hx2 := (atN_of (HX.out.keep (k2 _ s1 hx1l))).2.1)
            go_roundw
            case rel => exact ⟨k + 1, x.p, d ++ [x.p], by omega, by go_num, rfl, HE.out, HT.out, (by rw [List.length_append, HDL.out]; rfl), (by simpa using f2), c2, Nat.le_trans s2 s3⟩
            case measure => simp [RowKit.intOf]; omega
    · have HK0 := Lib.hid (show l.length - k = 0 by omega)
      have HE := Lib.hid (show upN l l.length i = d by rw [HU.out, HK0.out]; simp [upN])
      have hkl2 : ¬ (k : Int) < (l.length : Int) := by omega
      go_wp2_with fail
      go_ret
      exact ⟨by rw [HE.out, HD.out]; rfl, ck, hs, fun _ => by rw [HE.out]; exact HID.out⟩
/-- The numbers that the closure has gathered, in their box. -/
def BoxI (ga : Nat) (d : List Int) (w : World) : Prop := ∃ v, Cells w ga [v] ∧ OwnInt (ga + 1) d v w
theorem BoxI.below {ga : Nat} {d : List Int} {w w' : World} (h : BoxI ga d w) (hb : Below w.heap.size w w') : BoxI ga d w' := by
  obtain ⟨v, h1, h2⟩ := h
  exact ⟨v, h1.below hb, OwnR.below h2 hb⟩
set_option maxRecDepth 100000 in
set_option maxHeartbeats 4000000 in
theorem tgather_any (ga : Nat) (d : List Int) (x : Int) (wI w : World) (h : BoxI ga d wI) (hw : Below wI.heap.size wI w) (hd : d.length ≤ 1000000) :
    Calls Try.prog 42 #[.int .i64 x, .pointer (some ⟨ga, 0, none⟩)] w fun e w' => e = .returned (.bool false) ∧ BoxI ga (d ++ [x]) w' ∧ Below ga w w' ∧ (∀ q, wI.heap.size ≤ q → q < w.heap.size → w'.heap[q]? = w.heap[q]?) := by
  obtain ⟨ii, hi, hz, hsz, hby⟩ := info_parts infoI
  obtain ⟨v, h1, h2⟩ := h
  have hlI := h2.lt
  have hgl := h1.lt
  have h1 := h1.below hw
  have h2 := OwnR.below h2 hw
  have q0 := below_alloc w (.cells #[.int .i64 x] 3)
  have HS := Lib.hid (src_one (P := Try.prog) (t := 41) (c := 1) ci_len ci_one Try.underlying41 (atC_one w x 3))
  have HO := Lib.hid (OwnR.below h2 q0)
  have HC := Lib.hid h1
  have HL := Lib.hid h2.lt
  have HLI := Lib.hid hlI
  have hlt := h1.lt
  have z0 := h1.cell 0 _ rfl
  have z1 := (h1.below q0).cell 0 _ rfl
  have e1 := (h1.below q0).free 0 (by simp)
  have HC0 := Lib.hid (h1.below q0)
  have hs0 := hw.size
  have h63 := Lib.hid (show d.length + [x].length ≤ maxLen by unfold maxLen; simp only [List.length_singleton]; omega)
  have hb2 := Lib.hid (show (d.length + [x].length) * 8 ≤ 140737488355328 by simp only [List.length_singleton]; omega)
  have hga := Lib.hid (show ga + 1 ≤ (w.alloc (.cells #[.int .i64 x] 3)).heap.size by simp; omega)
  have HQ0 := Lib.hid q0
  clear h1 h2 hlI hw
  go_enter Try.func42, Try.ntmps42
  go_wp2_with (at_builtin; refine wpList_append_recG cellI rfl _ _ 41 rfl (ga + 1) 3 ii _ 8 Try.underlying41 hi hz hsz hby rfl v d [x] rfl HO.out _ rfl HS.out h63.out hb2.out hga.out ?_)
  intro v1 w1 ho1 c1 g1 f1
  obtain ⟨g, c', e1, _⟩ := ho1.row (by simp)
  rw [List.length_append, List.length_singleton] at e1
  subst e1
  have HC1 := Lib.hid (HC0.out.belowN (Nat.lt_succ_self ga) c1)
  have z2 := HC1.out.cell 0 _ rfl
  have e2 := HC1.out.free 0 (by simp)
  have HO1 := Lib.hid ho1
  have C1 := Lib.hid c1
  have G1 := Lib.hid g1
  clear ho1 c1 g1 z1 e1
  go_wp2_with fail
  go_ret
  have hne : g ≠ ga := fun e => by have := (OwnC.lt HO1.out _ rfl).1; omega
  have b1 : Below ga w w1 := (HQ0.out.mono (Nat.le_of_lt hlt)).trans (C1.out.mono (Nat.le_succ ga))
  refine ⟨rfl, ⟨_, HC1.out.set 0 (by simp) _, OwnC.own HO1.out (by simp) fun g' hg => Below.heap_setCell _ _ _ _ (fun e => by subst e; cases hg; exact hne rfl)⟩, b1.setCell (p := ⟨ga, 0, none⟩) (Nat.le_refl _) _, fun q h1 h2 => ?_⟩
  have hqa : q < (w.alloc (.cells #[.int .i64 x] 3)).heap.size := by simp; omega
  rw [Below.heap_setCell _ _ _ _ (show q ≠ ga by omega), G1.out.block q hqa (fun e => by have := (HLI.out q e.symm).2; omega), HQ0.out.block q h2]
theorem upN_len (l : List Nod) : ∀ (k : Nat) (i : Int), (upN l k i).length ≤ k
  | 0, _ => Nat.le_refl _
  | k + 1, i => by
    unfold upN
    split
    · simp
    · split
      · simp
      · have := upN_len l k
        simp only [List.length_cons]
        have := this ‹Nod›.p
        omega
set_option maxRecDepth 100000 in
set_option maxHeartbeats 4000000 in
theorem tabove_any (a : Option Addr) (c : Nat) (l : List Nod) (i : Int) (w : World) (h : IsNd w a c l) (hl : l.length ≤ 1000) (hr : RgNs l) (_hi : I64 i) :
    Calls Try.prog 20 #[.slice a l.length c, .int .i64 i] w (UpPost (aboveN l i) w) := by
  have hmf : ∀ (fn : Fn) (first cap : Array Value) (w : World), (Instr.makeFunc fn first cap).run Try.prog w = .ok (.func fn first cap) w := fun _ _ _ _ => rfl
  have H := Lib.hid (tchk_any a c l w h (by omega) hr)
  have HH := Lib.hid h
  clear h hr
  cases hc : chkN l with
  | false =>
    have HA := Lib.hid (show aboveN l i = [] by unfold aboveN; rw [hc]; rfl)
    rw [hc] at H
    clear hc
    go_enter Try.func20, Try.ntmps20
    go_wp2_with fail
    refine (H.out).mono ?_
    rintro e w1 ⟨rfl, c1⟩
    go_wp2_with fail
    go_ret
    exact ⟨_, rfl, by rw [HA.out]; exact ownR_nil _ _ _ _, c1⟩
  | true =>
    have HA := Lib.hid (show aboveN l i = upN l l.length i by unfold aboveN; rw [hc]; rfl)
    have HM := Lib.hid (chkN_iff.1 hc)
    rw [hc] at H
    clear hc
    go_enter Try.func20, Try.ntmps20
    go_wp2_with fail
    refine (H.out).mono ?_
    rintro e w1 ⟨rfl, c1⟩
    have H1 := Lib.hid (HH.out.below c1)
    have q1 := below_alloc w1 (.cells #[.slice none 0 0] 41)
    have HC := Lib.hid (cells_new w1 [.slice none 0 0] 41)
    have s1 := c1.size
    have C1 := Lib.hid c1
    have HCl := Lib.hid (tclimb_any a c l i w1 _ H1.out q1 HM.out (by omega) 42 #[.pointer (some ⟨w1.heap.size, 0, none⟩)] (fun _ => false) (fun d w => BoxI w1.heap.size d w) (fun _ _ => rfl)
      (fun d u v h hb => h.below hb) ⟨_, HC.out, ownR_nil _ _ _ _⟩
      (fun d x wI w2 hd hs h hb hb2 => (tgather_any w1.heap.size d x wI w2 h hb (by omega)).mono fun e w3 hp => ⟨hp.1, (hb2.trans hp.2.2.1), hp.2.2.1.size, hp.2.2.2, fun _ => hp.2.1⟩))
    go_wp2_with fail
    refine (HCl.out).mono ?_
    rintro e w2 ⟨rfl, c2, s2, f2⟩
    obtain ⟨v, hv1, hv2⟩ := f2 (by simp)
    have z0 := hv1.cell 0 _ rfl
    have HV := Lib.hid hv2
    clear hv1 hv2 f2
    go_wp2_with fail
    go_ret
    exact ⟨_, rfl, by rw [HA.out]; exact HV.out.mono (by omega), C1.out.trans (c2.mono s1)⟩
/-- Whether a number is that of the operation's node. -/
theorem tis_any (bo : Nat) (o : Opn) (x : Int) (w : World) (h : HasO w bo o) :
    Calls Try.prog 53 #[.int .i64 x, .pointer (some ⟨bo, 0, none⟩)] w fun e w' => e = .returned (.bool (x == o.n)) ∧ w' = w := by
  obtain ⟨m0, m1, m2, m3, m4, m5, m6⟩ := h
  go_enter Try.func53, Try.ntmps53
  go_wp2_with fail
  go_ret
  exact ⟨rfl, rfl⟩
/-- Whether an operation's directory is its node, or has it above. -/
theorem loopsN_is (l : List Nod) (o : Opn) (hm : MayN l) : loopsN l o = ((o.p == o.n) || (upN l l.length o.p).any fun x => x == o.n) := by
  unfold loopsN aboveN
  rw [if_pos (chkN_iff.2 hm), Bool.or_comm, List.contains_eq_any_beq]
  congr 1
  congr 1
  funext x
  rw [Bool.beq_comm]
set_option maxRecDepth 100000 in
theorem tup_any (a : Option Addr) (c : Nat) (l : List Nod) (o : Opn) (w : World) (h : IsNd w a c l) (hm : MayN l) (hl : l.length ≤ 1000000) (bo : Nat) (hO : HasO w bo o) :
    Calls Try.prog 41 #[.slice a l.length c, .int .i64 o.p, .func (.func 53) #[] #[.pointer (some ⟨bo, 0, none⟩)]] w fun e w' => e = .returned (.bool ((upN l l.length o.p).any fun x => x == o.n)) ∧ Below w.heap.size w w' :=
  (tclimb_any a c l o.p w w h (Below.refl _ _) hm hl 53 #[.pointer (some ⟨bo, 0, none⟩)] (fun x => x == o.n) (fun _ w => HasO w bo o) (fun _ _ => rfl) (fun _ _ _ h hb => h.below hb) hO
    (fun d x wI w1 _ _ h hb hb2 => (tis_any bo o x w1 (h.below hb)).mono fun e w2 hp => by
      obtain ⟨rfl, rfl⟩ := hp
      exact ⟨rfl, hb2, Nat.le_refl _, fun _ _ _ => rfl, fun _ => h.below hb⟩)).mono fun e w' hp => ⟨hp.1, hp.2.1⟩
end Go.Proofs.Ytefbkhgnhcllbaa
