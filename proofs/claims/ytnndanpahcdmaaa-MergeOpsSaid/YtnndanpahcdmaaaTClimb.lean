/-
  The landed package tree: what is above a number, asked by a closure.
-/
import Derived.Test.YtnndanpahcdmaaaTFind
namespace Go.Proofs.Ytnndanpahcdmaaa
open Go.RowKit Go.Lib
def ClimbPost (us : List Int) (p : Int → Bool) (I : List Int → World → Prop) (w0 w : World) (e : Ending) (w' : World) : Prop := e = .returned (.bool (us.any p)) ∧ Below w0.heap.size w0 w' ∧ w.heap.size ≤ w'.heap.size ∧ (us.any p = false → I us w')
theorem upN_none {l : List Nod} {k : Nat} {q : Int} (h : getN l q = none) : upN l k q = [] := by
  cases k with
  | zero => rfl
  | succ k => unfold upN; rw [h]
theorem upN_out {l : List Nod} {k : Nat} {q : Int} {x : Nod} (h : getN l q = some x) (hp : x.p = -1) : upN l k q = [] := by
  cases k with
  | zero => rfl
  | succ k => unfold upN; rw [h]; exact if_pos hp
theorem upN_on {l : List Nod} {k : Nat} {q : Int} {x : Nod} (h : getN l q = some x) (hp : ¬ x.p = -1) (hk : 0 < k) : upN l k q = x.p :: upN l (k - 1) x.p := by
  cases k with
  | zero => omega
  | succ k => conv => lhs; unfold upN
              rw [h]; exact if_neg hp
set_option maxRecDepth 100000 in
set_option maxHeartbeats 4000000 in
theorem tclimb_any (a : Option Addr) (c : Nat) (l : List Nod) (i : Int) (w0 w : World) (h : IsNd w0 a c l) (b0 : Below w0.heap.size w0 w) (hm : MayN l) (hl : l.length ≤ 1000000) (g : Nat) (cb : Array Value) (p : Int → Bool) (I : List Int → World → Prop)
    (eg : ∀ args w, (callFunc g args).run Try.prog w = .ok (.enter g args) w) (hI : ∀ d w1 w2, I d w1 → Below w1.heap.size w1 w2 → I d w2) (h0 : I [] w)
    (hc : ∀ d x wI w1, d.length < l.length → w.heap.size ≤ wI.heap.size → I d wI → Below wI.heap.size wI w1 → Below w0.heap.size w0 w1 → Calls Try.prog g (#[.int .i64 x] ++ cb) w1 fun e w2 => e = .returned (.bool (p x)) ∧ Below w0.heap.size w0 w2 ∧ w1.heap.size ≤ w2.heap.size ∧ (∀ q, wI.heap.size ≤ q → q < w1.heap.size → w2.heap[q]? = w1.heap[q]?) ∧ (p x = false → I (d ++ [x]) w2)) :
    Calls Try.prog 57 #[.slice a l.length c, .int .i64 i, .func (.func g) #[] cb] w (ClimbPost (upN l l.length i) p I w0 w) := by
  have H := Lib.hid h
  have HM := Lib.hid hm
  have HI := Lib.hid hI
  have HC := Lib.hid hc
  have H0 := Lib.hid h0
  clear h hm hI hc h0
  go_enter Try.func57, Try.ntmps57
  go_wp2_with fail
  go_step3
  go_wp2_with fail
  go_step3
  go_wp2_with fail
  go_loopw [1, 11] (fun j u w' => ∃ (k : Nat) (q : Int) (d : List Int), k ≤ l.length ∧ u = .int .i64 k ∧ j = .int .i64 q ∧ upN l l.length i = d ++ upN l (l.length - k) q ∧ d.any p = false ∧ d.length = k ∧ I d w' ∧ Below w0.heap.size w0 w' ∧ w.heap.size ≤ w'.heap.size) (fun _ u _ => l.length - (RowKit.intOf u).toNat)
  case atStart => exact ⟨0, i, [], Nat.zero_le _, rfl, rfl, rfl, rfl, rfl, H0.out, b0, Nat.le_refl _⟩
  case round =>
    obtain ⟨k, q, d, hk, rfl, rfl, hup, hd, hdl, hid, ck, hs⟩ := hrel
    have HDL := Lib.hid hdl
    clear hdl
    have HU := Lib.hid hup
    have HD := Lib.hid hd
    have HID := Lib.hid hid
    clear hup hd hid
    by_cases hkl : k < l.length
    · cases hg : getN l q with
      | none =>
        have HN := Lib.hid (tnodeof_none wr (H.out.below ck) HM.out hl hg)
        have HE := Lib.hid (show upN l l.length i = d by rw [HU.out, upN_none hg, List.append_nil])
        clear hg
        go_wp2_with fail
        refine (HN.out).mono ?_
        rintro e w1 ⟨rfl, c1⟩
        have b1 := step_b ck c1
        have s1 := c1.size
        have q1 := below_alloc w1 (.cells #[.int .i64 0, .int .i64 0, .string ⟨#[]⟩, .int .i64 0, .int .i64 0, .string ⟨#[]⟩, .int .i64 0, .int .i64 0] 45)
        have HI1 := Lib.hid (HI.out _ _ _ (HI.out _ _ _ HID.out c1) q1)
        have b2 := step_b b1 q1
        have s2 := Nat.le_trans hs (Nat.le_trans s1 q1.size)
        go_wp2_with fail
        rw [Exit.noGoto_ret]
        go_ret
        exact ⟨by rw [HE.out, HD.out]; rfl, b2, s2, fun _ => by rw [HE.out]; exact HI1.out⟩
      | some x =>
        have HN := Lib.hid (tnodeof_some wr (H.out.below ck) HM.out hl hg)
        have HG := Lib.hid hg
        clear hg
        by_cases hp : x.p = -1
        · have hp1 : (x.p == -1) = true := by rw [beq_iff_eq]; exact hp
          have HE := Lib.hid (show upN l l.length i = d by rw [HU.out, upN_out HG.out hp, List.append_nil])
          clear hp
          go_wp2_with fail
          refine (HN.out).mono ?_
          rintro e w1 ⟨rfl, c1⟩
          have b1 := step_b ck c1
          have s1 := c1.size
          have q1 := below_alloc w1 (.cells #[.int .i64 x.id, .int .i64 x.p, .string x.s, .int .i64 x.mc, .int .i64 x.mr, .string x.d, .int .i64 x.wc, .int .i64 x.wr] 45)
          have HI1 := Lib.hid (HI.out _ _ _ (HI.out _ _ _ HID.out c1) q1)
          have b2 := step_b b1 q1
          have s2 := Nat.le_trans hs (Nat.le_trans s1 q1.size)
          go_wp2_with fail
          rw [Exit.noGoto_ret]
          go_ret
          exact ⟨by rw [HE.out, HD.out]; rfl, b2, s2, fun _ => by rw [HE.out]; exact HI1.out⟩
        · have hp1 : (x.p == -1) = false := by rw [beq_eq_false_iff_ne]; exact hp
          have HE := Lib.hid (show upN l l.length i = (d ++ [x.p]) ++ upN l (l.length - (k + 1)) x.p by rw [HU.out, upN_on HG.out hp (by omega), List.append_assoc]; congr 1)
          clear hp
          obtain ⟨pr, hpr⟩ : ∃ b, p x.p = b := ⟨_, rfl⟩
          go_wp2_with fail
          refine (HN.out).mono ?_
          rintro e w1 ⟨rfl, c1⟩
          have b1 := step_b ck c1
          have s1 := c1.size
          have q1 := below_alloc w1 (.cells #[.int .i64 x.id, .int .i64 x.p, .string x.s, .int .i64 x.mc, .int .i64 x.mr, .string x.d, .int .i64 x.wc, .int .i64 x.wr] 45)
          have HI1 := Lib.hid (HI.out _ _ _ (HI.out _ _ _ HID.out c1) q1)
          have b2 := step_b b1 q1
          have s2 := Nat.le_trans hs (Nat.le_trans s1 q1.size)
          have HCx := Lib.hid (HC.out d x.p wr _ (by have := HDL.out; omega) hs HID.out (step_b c1 q1) b2)
          rw [hpr] at HCx
          have HPR := Lib.hid hpr
          have HX := Lib.hid (show AtC (cellsNd x) _ w1.heap.size 0 from atC_nod w1 x 45)
          have hx1 := (atN_of HX.out).2.1
          have hx1l : w1.heap.size < (w1.alloc (.cells #[.int .i64 x.id, .int .i64 x.p, .string x.s, .int .i64 x.mc, .int .i64 x.mr, .string x.d, .int .i64 x.wc, .int .i64 x.wr] 45)).heap.size := by simp
          clear hpr c1
          cases pr with
          | true =>
            have HT := Lib.hid (show (upN l l.length i).any p = true by rw [HE.out]; simp [HPR.out])
            go_wp2_with (go_at_fn g; refine HCx.out.mono ?_; rintro e w2 ⟨rfl, c2, s3, k2, f2⟩)
            rw [Exit.noGoto_ret]
            go_ret
            exact ⟨by rw [HT.out]; rfl, c2, Nat.le_trans s2 s3, fun h => by rw [HT.out] at h; cases h⟩
          | false =>
            have HT := Lib.hid (show (d ++ [x.p]).any p = false by rw [List.any_append, HD.out]; simp [HPR.out])
            go_wp2_with (go_at_fn g; refine HCx.out.mono ?_; rintro e w2 ⟨rfl, c2, s3, k2, f2⟩; have hx2 := (atN_of (HX.out.keep (k2 _ s1 hx1l))).2.1)
            go_roundw
            case rel => exact ⟨k + 1, x.p, d ++ [x.p], by omega, by go_num, rfl, HE.out, HT.out, (by rw [List.length_append, HDL.out]; rfl), (by simpa using f2), c2, Nat.le_trans s2 s3⟩
            case measure => simp [RowKit.intOf]; omega
    · have HK0 := Lib.hid (show l.length - k = 0 by omega)
      have HE := Lib.hid (show upN l l.length i = d by rw [HU.out, HK0.out]; simp [upN])
      have hkl2 : ¬ (k : Int) < (l.length : Int) := by omega
      go_wp2_with fail
      go_ret
      exact ⟨by rw [HE.out, HD.out]; rfl, ck, hs, fun _ => by rw [HE.out]; exact HID.out⟩
/-- The numbers that the closure has gathered, in their box. -/
def BoxI (ga : Nat) (d : List Int) (w : World) : Prop := ∃ v, Cells w ga [v] ∧ OwnInt (ga + 1) d v w
theorem BoxI.below {ga : Nat} {d : List Int} {w w' : World} (h : BoxI ga d w) (hb : Below w.heap.size w w') : BoxI ga d w' := by
  obtain ⟨v, h1, h2⟩ := h
  exact ⟨v, h1.below hb, OwnR.below h2 hb⟩
theorem upN_len (l : List Nod) : ∀ (k : Nat) (i : Int), (upN l k i).length ≤ k
  | 0, _ => Nat.le_refl _
  | k + 1, i => by
    unfold upN
    split
    · simp
    · split
      · simp
      · have := upN_len l k
        simp only [List.length_cons]
        have := this ‹Nod›.p
        omega
/-- Whether a number is that of the operation's node. -/
theorem tis_any (bo : Nat) (o : Opn) (x : Int) (w : World) (h : HasO w bo o) :
    Calls Try.prog 56 #[.int .i64 x, .pointer (some ⟨bo, 0, none⟩)] w fun e w' => e = .returned (.bool (x == o.n)) ∧ w' = w := by
  obtain ⟨m0, m1, m2, m3, m4, m5, m6⟩ := h
  go_enter Try.func56, Try.ntmps56
  go_wp2_with fail
  go_ret
  exact ⟨rfl, rfl⟩
/-- Whether an operation's directory is its node, or has it above. -/
theorem loopsN_is (l : List Nod) (o : Opn) (hm : MayN l) : loopsN l o = ((o.p == o.n) || (upN l l.length o.p).any fun x => x == o.n) := by
  unfold loopsN aboveN
  rw [if_pos (chkN_iff.2 hm), Bool.or_comm, List.contains_eq_any_beq]
  congr 1
  congr 1
  funext x
  rw [Bool.beq_comm]
set_option maxRecDepth 100000 in
theorem tup_any (a : Option Addr) (c : Nat) (l : List Nod) (o : Opn) (w : World) (h : IsNd w a c l) (hm : MayN l) (hl : l.length ≤ 1000000) (bo : Nat) (hO : HasO w bo o) :
    Calls Try.prog 57 #[.slice a l.length c, .int .i64 o.p, .func (.func 56) #[] #[.pointer (some ⟨bo, 0, none⟩)]] w fun e w' => e = .returned (.bool ((upN l l.length o.p).any fun x => x == o.n)) ∧ Below w.heap.size w w' :=
  (tclimb_any a c l o.p w w h (Below.refl _ _) hm hl 56 #[.pointer (some ⟨bo, 0, none⟩)] (fun x => x == o.n) (fun _ w => HasO w bo o) (fun _ _ => rfl) (fun _ _ _ h hb => h.below hb) hO
    (fun d x wI w1 _ _ h hb hb2 => (tis_any bo o x w1 (h.below hb)).mono fun e w2 hp => by
      obtain ⟨rfl, rfl⟩ := hp
      exact ⟨rfl, hb2, Nat.le_refl _, fun _ _ _ => rfl, fun _ => h.below hb⟩)).mono fun e w' hp => ⟨hp.1, hp.2.1⟩
end Go.Proofs.Ytnndanpahcdmaaa
