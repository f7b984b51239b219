/-
  TreeLast: a node that was written has what the last one wrote, one that was moved has the Moved of one that did so.
-/
import Derived.Test.YtefbkhgnhcllbaaTFirst
import Derived.Test.YtefbkhgnhcllbaaLast
namespace Go.Proofs.Ytefbkhgnhcllbaa
open Go.RowKit Go.Lib
set_option maxRecDepth 100000 in
theorem fold_told {l : List Opn} {x : Nod} (hx : x ∈ foldN l) : WroteBy (sortO l) x.id x ∧ MovedBy (sortO l) x.id x :=
  (told_all (sortO l) (fun _ ho => (sortO_may ho).1) x.id).1 x (getN_of_mem (tree_fold l).1 hx)
set_option maxRecDepth 100000 in
theorem skip_may {l : List Opn} {i : Int} {m : Nat} {o : Opn} {c r : Int} {d : ByteArray} (h : LastTo l i (m + 1) c r d) (ho : l[m]? = some o) (hm : mayO o = false) : LastTo l i m c r d :=
  lastTo_skip h fun o' h1 _ _ => by
    have e := h1.1
    rw [ho] at e; cases e
    have := h1.2.1
    rw [hm] at this; cases this
set_option maxRecDepth 100000 in
theorem skip_ne {l : List Opn} {i : Int} {m : Nat} {o : Opn} {c r : Int} {d : ByteArray} (h : LastTo l i (m + 1) c r d) (ho : l[m]? = some o) (hn : ¬ (o.k = 2 ∧ o.n = i)) : LastTo l i m c r d :=
  lastTo_skip h fun o' h1 h2 h3 => by
    have e := h1.1
    rw [ho] at e; cases e
    exact absurd ⟨h2, h3⟩ hn
set_option maxRecDepth 100000 in
theorem skip_first {l : List Opn} {i : Int} {m : Nat} {o : Opn} {c r : Int} {d : ByteArray} (h : LastTo l i (m + 1) c r d) (ho : l[m]? = some o) (hm : mayO o = true) (hf : firstB l m o = false) : LastTo l i m c r d :=
  lastTo_skip h fun o' h1 _ _ => by
    have e := h1.1
    rw [ho] at e; cases e
    rw [(firstB_iff ho hm).2 h1] at hf
    cases hf
set_option maxRecDepth 100000 in
theorem skip_less {l : List Opn} {i : Int} {m : Nat} {o : Opn} {c r : Int} {d : ByteArray} (h : LastTo l i (m + 1) c r d) (ho : l[m]? = some o) (hl : lessS o.c o.r c r = true) : LastTo l i m c r d :=
  lastTo_skip h fun o' h1 _ _ => by
    have e := h1.1
    rw [ho] at e; cases e
    exact hl
set_option maxRecDepth 100000 in
theorem mv_skip {l : List Opn} {x : Nod} {m : Nat} {b : Bool} {o : Opn} (h : MovedTo l x (m + 1) b) (ho : l[m]? = some o) (hno : ¬ (mayO o = true ∧ o.n = x.id ∧ o.k = 1 ∧ x.mc = o.c ∧ x.mr = o.r ∧ x.p = o.p ∧ x.s = o.s)) : MovedTo l x m b :=
  movedTo_step h id fun o' h1 h2 h3 h4 h5 h6 h7 h8 => by
    rw [ho] at h1; cases h1
    exact absurd ⟨h2, h3, h4, h5, h6, h7, h8⟩ hno
set_option maxRecDepth 100000 in
theorem mv_true {l : List Opn} {x : Nod} {m : Nat} {b : Bool} (h : MovedTo l x (m + 1) b) : MovedTo l x m true := movedTo_step h (fun _ => rfl) fun _ _ _ _ _ _ _ _ _ => rfl
set_option maxRecDepth 100000 in
theorem beq_no {a b : Int} (h : a ≠ b) : (a == b) = false := beq_eq_false_iff_ne.2 h
set_option maxRecDepth 100000 in
/-- Whether an operation's stamp, directory and name are those of a node, or what is the first that is not. -/
theorem mv_ways (o : Opn) (x : Nod) : ((o.c == x.mc) = true ∧ (o.r == x.mr) = true ∧ (o.p == x.p) = true ∧ (o.s.toList == x.s.toList) = true) ∨
    (((o.c == x.mc) = true ∧ (o.r == x.mr) = true ∧ (o.p == x.p) = true ∧ (o.s.toList == x.s.toList) = false) ∧ ¬ (x.mc = o.c ∧ x.mr = o.r ∧ x.p = o.p ∧ x.s = o.s)) ∨
    (((o.c == x.mc) = true ∧ (o.r == x.mr) = true ∧ (o.p == x.p) = false) ∧ ¬ (x.mc = o.c ∧ x.mr = o.r ∧ x.p = o.p ∧ x.s = o.s)) ∨
    (((o.c == x.mc) = true ∧ (o.r == x.mr) = false) ∧ ¬ (x.mc = o.c ∧ x.mr = o.r ∧ x.p = o.p ∧ x.s = o.s)) ∨
    ((o.c == x.mc) = false ∧ ¬ (x.mc = o.c ∧ x.mr = o.r ∧ x.p = o.p ∧ x.s = o.s)) := by
  by_cases h1 : o.c = x.mc
  · by_cases h2 : o.r = x.mr
    · by_cases h3 : o.p = x.p
      · by_cases h4 : o.s = x.s
        · exact .inl ⟨beq_iff_eq.2 h1, beq_iff_eq.2 h2, beq_iff_eq.2 h3, by rw [h4]; simp⟩
        · exact .inr (.inl ⟨⟨beq_iff_eq.2 h1, beq_iff_eq.2 h2, beq_iff_eq.2 h3, bytes_ne h4⟩, fun h => h4 h.2.2.2.symm⟩)
      · exact .inr (.inr (.inl ⟨⟨beq_iff_eq.2 h1, beq_iff_eq.2 h2, beq_no h3⟩, fun h => h3 h.2.2.1.symm⟩))
    · exact .inr (.inr (.inr (.inl ⟨⟨beq_iff_eq.2 h1, beq_no h2⟩, fun h => h2 h.2.1.symm⟩)))
  · exact .inr (.inr (.inr (.inr ⟨beq_no h1, fun h => h1 h.1.symm⟩)))
set_option maxRecDepth 100000 in
theorem zero_ways (x : Nod) : ((x.mc == 0) = true ∧ (x.mr == 0) = true) ∨ ((x.mc == 0) = true ∧ (x.mr == 0) = false ∧ ¬ (x.mc = 0 ∧ x.mr = 0)) ∨ ((x.mc == 0) = false ∧ ¬ (x.mc = 0 ∧ x.mr = 0)) := by
  by_cases h1 : x.mc = 0
  · by_cases h2 : x.mr = 0
    · exact .inl ⟨by simp [h1], by simp [h2]⟩
    · exact .inr (.inl ⟨by simp [h1], by simp [h2], fun h => h2 h.2⟩)
  · exact .inr (.inr ⟨by simp [h1], fun h => h1 h.1⟩)
set_option maxRecDepth 100000 in
set_option maxHeartbeats 1600000 in
theorem tlast_walk (a : Option Addr) (cap : Nat) (l : List Opn) (w : World) (hl : IsOp w a cap l ∧ l.length ≤ maxLen ∧ (∀ x ∈ l, InO x)) :
    Calls Try.prog 8 #[.slice a l.length cap] w fun e w' => e = .returned (.bool true) ∧ Below w.heap.size w w' := by
  obtain ⟨hi, hlm, hin⟩ := hl
  have GOs := Lib.hid (show RgOs l from fun x hx => (hin x hx).1)
  clear hin
  have HLm := Lib.hid hlm
  have HI := Lib.hid hi
  clear hi hlm
  obtain ⟨fb, hfb⟩ : ∃ x, fewOp l 100 = x := ⟨_, rfl⟩
  have HF := Lib.hid hfb
  clear hfb
  go_enter Try.func8, Try.ntmps8
  go_wp2_with fail
  refine (awake_any _).mono ?_
  rintro e w1 ⟨rfl, b1⟩
  have HI1 := Lib.hid (HI.out.below b1)
  clear HI
  go_wp2_with fail
  refine (ofew_is HF.out _ HI1.out HLm.out).mono ?_
  rintro e w2 ⟨rfl, rfl⟩
  cases fb with
  | false =>
    go_wp2_with fail
    go_ret
    exact ⟨rfl, b1⟩
  | true =>
    have hll : l.length ≤ 100 := by have := (fewOp_of HF.out).2; omega
    have HSm := Lib.hid (fewOp_of HF.out).1
    have HFold := Lib.hid (tfold_any a cap l w2 HI1.out (by omega) HSm.out GOs.out)
    have HTold := Lib.hid (fun x (hx : x ∈ foldN l) => fold_told hx)
    have htl : (foldN l).length ≤ 100 := by have := foldN_len l; omega
    generalize foldN l = t at HFold HTold htl
    go_wp2_with fail
    refine HFold.out.mono ?_
    rintro e w3 ⟨a2, d2, rfl, h2, c3⟩
    have b3 := step_b b1 c3
    have HR3 := Lib.hid h2
    have HI3 := Lib.hid (HI1.out.below c3)
    clear c3 b1 HI1 h2 HFold
    go_wp2_with fail
    go_loopw [5] (fun u w' => ∃ i : Nat, i ≤ t.length ∧ u = .int .i64 i ∧ Below w3.heap.size w3 w') (fun u _ => t.length - (RowKit.intOf u).toNat)
    case atStart => exact ⟨0, Nat.zero_le _, rfl, Below.refl _ _⟩
    case round =>
      obtain ⟨i, hit, rfl, ck⟩ := hrel
      by_cases hil : i < t.length
      · obtain ⟨x, hx⟩ : ∃ x, t[i]? = some x := ⟨t[i], List.getElem?_eq_getElem hil⟩
        have HRa := Lib.hid (HR3.out.below (ck.trans ((below_alloc wr (.cells #[.int .i64 0, .int .i64 0] 24)).mono ck.size)))
        obtain ⟨g, off, rfl, hlt, hc⟩ := HRa.out.nod hx
        have hil2 : (i : Int) < (t.length : Int) := by omega
        obtain ⟨k0, k1, k2, k3, k4, k5, k6, k7⟩ := hc i x hx
        have HW := Lib.hid (HTold.out x (List.mem_of_getElem? hx)).1
        have HM := Lib.hid (HTold.out x (List.mem_of_getElem? hx)).2
        have Hx := Lib.hid hx
        clear hx hc
        have HS0 := Lib.hid (cells_new wr [.int .i64 0, .int .i64 0] 24)
        have ckA := ck.alloc ck.size (.cells #[.int .i64 0, .int .i64 0] 24)
        obtain ⟨g6, hg6⟩ : ∃ g6, wr.heap.size = g6 := ⟨_, rfl⟩
        have hg6b : w3.heap.size ≤ g6 := by rw [← hg6]; exact ck.size
        have HK := Lib.hid (fun (W : World) (hW : Below w3.heap.size w3 W) => show AtN W g (off + i * 8) x from by
          obtain ⟨g', off', he, _, hc⟩ := (HR3.out.below hW).nod Hx.out
          simp only [Option.some.injEq, Addr.mk.injEq, and_true] at he
          obtain ⟨rfl, rfl⟩ := he
          exact hc i x Hx.out)
        have HKl := Lib.hid (fun (W : World) (hW : Below w3.heap.size w3 W) => show g < W.heap.size from by
          obtain ⟨g', off', he, hl, _⟩ := (HR3.out.below hW).nod Hx.out
          simp only [Option.some.injEq, Addr.mk.injEq, and_true] at he
          obtain ⟨rfl, rfl⟩ := he
          exact hl)
        go_upto_region 10 with fail
        go_cut [8] (fun mv wx => ∃ b0 : Bool, mv = .bool b0 ∧ ((x.mc = 0 ∧ x.mr = 0) → b0 = true) ∧ wx = wr.alloc (.cells #[.int .i64 0, .int .i64 0] 24))
        case first =>
          rcases zero_ways x with ⟨hp, hq⟩ | ⟨hp, hq, hne⟩ | ⟨hp, hne⟩
          all_goals
            clear HS0
            go_wp2_with fail
            go_meet
            exact ⟨_, rfl, by first | exact fun _ => rfl | exact fun e => absurd e hne, rfl⟩
        case rest =>
          obtain ⟨b0, rfl, hb0, rfl⟩ := hcut
          have HZ := Lib.hid hb0
          clear hb0
          go_wp2_with fail
          try rw [hg6]
          try rw [hg6] at HS0
          go_loopw [7, 8, 9] (fun dv mv u w' => ∃ (k : Nat) (c r : Int) (dd : ByteArray) (b : Bool), k ≤ l.length ∧ u = .int .i64 ((k : Int) - 1) ∧ dv = .string dd ∧ mv = .bool b ∧ Cells w' g6 [.int .i64 c, .int .i64 r] ∧ LastTo l x.id k c r dd ∧ MovedTo l x k b ∧ Below w3.heap.size w3 w') (fun _ _ u _ => (RowKit.intOf u + 1).toNat)
          case atStart => exact ⟨l.length, 0, 0, emptyB, _, Nat.le_refl _, rfl, rfl, rfl, HS0.out, lastTo_end (Nat.le_refl _), movedTo_end (Nat.le_refl _) HZ.out, ckA⟩
          case round =>
            obtain ⟨k, c, r, dd, b, hkl, rfl, rfl, rfl, hS, hLast, hMoved, cq⟩ := hrel
            have HS := Lib.hid hS
            have HLa := Lib.hid hLast
            have HMo := Lib.hid hMoved
            clear hS hLast hMoved k0 k1 k2 k3 k4 k5 k6 k7
            obtain ⟨g', off', he, _, hc⟩ := (HR3.out.below cq).nod Hx.out
            simp only [Option.some.injEq, Addr.mk.injEq, and_true] at he
            obtain ⟨rfl, rfl⟩ := he
            cases k with
            | zero =>
              obtain ⟨k0, k1, k2, k3, k4, k5, k6, k7⟩ := hc i x Hx.out
              obtain ⟨e1, e2, e3⟩ := lastTo_is HLa.out HW.out
              have e4 := movedTo_is HMo.out HM.out
              subst e1 e2 e3 e4
              have s0 := HS.out.cell 0 _ rfl
              have s1 := HS.out.cell 1 _ rfl
              have slt := HS.out.lt
              clear hc
              go_wp2_with fail
              refine wp_region_later (by kernel_rfl) (by kernel_rfl) (fun hL => ?_)
              repeat (go_big_quiet_step (fail))
              intro w5 hw
              have cq5 := cq.trans ((later_out hw).mono cq.size)
              clear hw hL
              go_wp2_with fail
              go_roundw
              case rel => exact ⟨i + 1, by omega, by go_num, cq5⟩
              case measure => simp [RowKit.intOf]; omega
            | succ m =>
              obtain ⟨o, ho⟩ : ∃ o, l[m]? = some o := ⟨l[m]'(by omega), List.getElem?_eq_getElem (by omega)⟩
              clear hc
              obtain ⟨ga, oa, he, _, hco⟩ := (HI3.out.below cq).opn ho
              subst he
              have hol := hco m o ho
              obtain ⟨v0, v1, v2, v3, v4, v5, v6⟩ := hol
              have Ho := Lib.hid ho
              have hml : (m : Int) < (l.length : Int) := by omega
              have hu : ((m + 1 : Nat) : Int) - 1 = (m : Int) := by omega
              have hm0 : (0 : Int) ≤ (m : Int) := by omega
              have HCk := Lib.hid (fun w => ochk_any o w (by have := (HSm.out o (List.mem_of_getElem? ho)).1; unfold maxLen; omega) (GOs.out o (List.mem_of_getElem? ho)).2.2.2.1 (GOs.out o (List.mem_of_getElem? ho)).2.2.2.2)
              obtain ⟨may, hmay⟩ : ∃ v, mayO o = v := ⟨_, rfl⟩
              rw [hmay] at HCk
              have HMay := Lib.hid hmay
              clear hmay ho hco
              rw [hu]
              clear hu
              go_wp2_with fail
              have cA0 := cq.alloc cq.size (.cells (cellsOp o).toArray 26)
              have OA0 := cells_new wr (cellsOp o) 26
              have SA0 := HS.out.below (below_alloc wr (.cells (cellsOp o).toArray 26))
              have hgo : g6 < wr.heap.size := HS.out.lt
              change Code.wp _ _ _ _ (wr.alloc (.cells (cellsOp o).toArray 26))
              generalize wr.alloc (.cells (cellsOp o).toArray 26) = wA at cA0 OA0 SA0 ⊢
              have cA := cA0
              have OA := Lib.hid OA0
              have SA := Lib.hid SA0
              clear cA0 OA0 SA0 v0 v1 v2 v3 v4 v5 v6 HS
              cases may with
              | false =>
                have ⟨o0, o1, o2, o3, o4, o5, o6⟩ := atOp_of OA.out.atC
                rw [Nat.zero_add] at o1 o2 o3 o4 o5 o6
                have olt := OA.out.lt
                have s0 := SA.out.cell 0 _ rfl
                have s1 := SA.out.cell 1 _ rfl
                have slt := SA.out.lt
                have ⟨n0, n1, n2, n3, n4, n5, n6, n7⟩ := HK.out wA cA
                have nlt := HKl.out wA cA
                refine wp_region_later (by kernel_rfl) (by kernel_rfl) (fun hL => ?_)
                repeat (go_big_quiet_step ((go_at_call 28; with_reducible refine later_calls (HCk.out _))))
                intro wB hw
                have cB := cA.trans ((later_out hw).mono cA.size)
                have SB := Lib.hid (SA.out.below (later_out hw))
                clear hw hL
                clear o0 o1 o2 o3 o4 o5 o6 olt s0 s1 slt n0 n1 n2 n3 n4 n5 n6 n7
                go_wp2_with fail
                go_roundw
                case rel => exact ⟨m, c, r, dd, b, by omega, by go_num, rfl, rfl, SB.out, skip_may HLa.out Ho.out HMay.out, mv_skip HMo.out Ho.out (fun h => by have := h.1; rw [HMay.out] at this; cases this), cB⟩
                case measure => simp [RowKit.intOf]
              | true =>
                by_cases hn : o.n = x.id
                · have Hn := Lib.hid hn
                  have hnb : (o.n != x.id) = false := by simp [hn]
                  clear hn
                  have ⟨o0, o1, o2, o3, o4, o5, o6⟩ := atOp_of OA.out.atC
                  rw [Nat.zero_add] at o1 o2 o3 o4 o5 o6
                  have olt := OA.out.lt
                  have s0 := SA.out.cell 0 _ rfl
                  have s1 := SA.out.cell 1 _ rfl
                  have slt := SA.out.lt
                  have ⟨n0, n1, n2, n3, n4, n5, n6, n7⟩ := HK.out wA cA
                  have nlt := HKl.out wA cA
                  refine wp_region_later (by kernel_rfl) (by kernel_rfl) (fun hL => ?_)
                  repeat (go_big_quiet_step ((go_at_call 28; with_reducible refine later_calls (HCk.out _))))
                  intro wB hw
                  have cB := cA.trans ((later_out hw).mono cA.size)
                  have SB := Lib.hid (SA.out.below (later_out hw))
                  have OB := Lib.hid (OA.out.below (later_out hw))
                  clear hw hL
                  clear o0 o1 o2 o3 o4 o5 o6 olt s0 s1 slt n0 n1 n2 n3 n4 n5 n6 n7
                  clear cA OA SA hnb HCk
                  rcases (mayO_parts HMay.out).2.2 with ⟨hk, _⟩ | ⟨hk, _⟩
                  · have Hk := Lib.hid hk
                    clear hk
                    have hk2 : (o.k == 2) = false := beq_no (by have := Hk.out; omega)
                    have hk1 : (o.k == 1) = true := beq_iff_eq.2 Hk.out
                    cases b with
                    | true =>
                      have ⟨o0, o1, o2, o3, o4, o5, o6⟩ := atOp_of OB.out.atC
                      rw [Nat.zero_add] at o1 o2 o3 o4 o5 o6
                      have olt := OB.out.lt
                      have s0 := SB.out.cell 0 _ rfl
                      have s1 := SB.out.cell 1 _ rfl
                      have slt := SB.out.lt
                      have ⟨n0, n1, n2, n3, n4, n5, n6, n7⟩ := HK.out wB cB
                      have nlt := HKl.out wB cB
                      go_wp2_with fail
                      refine wp_region_later (by kernel_rfl) (by kernel_rfl) (fun hL => ?_)
                      repeat (go_big_quiet_step (fail))
                      intro wZ hw
                      have cZ := cB.trans ((later_out hw).mono cB.size)
                      have SZ := Lib.hid (SB.out.below (later_out hw))
                      clear hw hL
                      clear o0 o1 o2 o3 o4 o5 o6 olt s0 s1 slt n0 n1 n2 n3 n4 n5 n6 n7
                      go_wp2_with fail
                      go_roundw
                      case rel => exact ⟨m, c, r, dd, true, by omega, by go_num, rfl, rfl, SZ.out, skip_ne HLa.out Ho.out (fun h => by have := h.1; have := Hk.out; omega), mv_true HMo.out, cZ⟩
                      case measure => simp [RowKit.intOf]
                    | false =>
                      rcases mv_ways o x with ⟨e1, e2, e3, e4⟩ | ⟨⟨e1, e2, e3, e4⟩, hno⟩ | ⟨⟨e1, e2, e3⟩, hno⟩ | ⟨⟨e1, e2⟩, hno⟩ | ⟨e1, hno⟩
                      · have ⟨o0, o1, o2, o3, o4, o5, o6⟩ := atOp_of OB.out.atC
                        rw [Nat.zero_add] at o1 o2 o3 o4 o5 o6
                        have olt := OB.out.lt
                        have s0 := SB.out.cell 0 _ rfl
                        have s1 := SB.out.cell 1 _ rfl
                        have slt := SB.out.lt
                        have ⟨n0, n1, n2, n3, n4, n5, n6, n7⟩ := HK.out wB cB
                        have nlt := HKl.out wB cB
                        go_wp2_with fail
                        refine wp_region_later (by kernel_rfl) (by kernel_rfl) (fun hL => ?_)
                        repeat (go_big_quiet_step (fail))
                        intro wZ hw
                        have cZ := cB.trans ((later_out hw).mono cB.size)
                        have SZ := Lib.hid (SB.out.below (later_out hw))
                        clear hw hL
                        clear o0 o1 o2 o3 o4 o5 o6 olt s0 s1 slt n0 n1 n2 n3 n4 n5 n6 n7
                        go_wp2_with fail
                        go_roundw
                        case rel => exact ⟨m, c, r, dd, true, by omega, by go_num, rfl, rfl, SZ.out, skip_ne HLa.out Ho.out (fun h => by have := h.1; have := Hk.out; omega), mv_true HMo.out, cZ⟩
                        case measure => simp [RowKit.intOf]
                      all_goals
                        have HNo := Lib.hid hno
                        clear hno
                        have ⟨o0, o1, o2, o3, o4, o5, o6⟩ := atOp_of OB.out.atC
                        rw [Nat.zero_add] at o1 o2 o3 o4 o5 o6
                        have olt := OB.out.lt
                        have s0 := SB.out.cell 0 _ rfl
                        have s1 := SB.out.cell 1 _ rfl
                        have slt := SB.out.lt
                        have ⟨n0, n1, n2, n3, n4, n5, n6, n7⟩ := HK.out wB cB
                        have nlt := HKl.out wB cB
                        go_wp2_with fail
                        refine wp_region_later (by kernel_rfl) (by kernel_rfl) (fun hL => ?_)
                        repeat (go_big_quiet_step (fail))
                        intro wZ hw
                        have cZ := cB.trans ((later_out hw).mono cB.size)
                        have SZ := Lib.hid (SB.out.below (later_out hw))
                        clear hw hL
                        clear o0 o1 o2 o3 o4 o5 o6 olt s0 s1 slt n0 n1 n2 n3 n4 n5 n6 n7
                        go_wp2_with fail
                        go_roundw
                        case rel => exact ⟨m, c, r, dd, false, by omega, by go_num, rfl, rfl, SZ.out, skip_ne HLa.out Ho.out (fun h => by have := h.1; have := Hk.out; omega), mv_skip HMo.out Ho.out (fun h => HNo.out h.2.2.2), cZ⟩
                        case measure => simp [RowKit.intOf]
                  · have Hk := Lib.hid hk
                    clear hk
                    have hk2 : (o.k == 2) = true := beq_iff_eq.2 Hk.out
                    have hk1 : (o.k == 1) = false := beq_no (by have := Hk.out; omega)
                    obtain ⟨fv, hfv⟩ : ∃ v, firstB l m o = v := ⟨_, rfl⟩
                    have HFi := Lib.hid (fun W (h : IsOp W (some ⟨ga, oa, none⟩) cap l) => first_any (some ⟨ga, oa, none⟩) cap l m o Ho.out W h (by omega) HSm.out GOs.out)
                    rw [hfv] at HFi
                    have HFv := Lib.hid hfv
                    clear hfv
                    have ⟨o0, o1, o2, o3, o4, o5, o6⟩ := atOp_of OB.out.atC
                    rw [Nat.zero_add] at o1 o2 o3 o4 o5 o6
                    have olt := OB.out.lt
                    have s0 := SB.out.cell 0 _ rfl
                    have s1 := SB.out.cell 1 _ rfl
                    have slt := SB.out.lt
                    have ⟨n0, n1, n2, n3, n4, n5, n6, n7⟩ := HK.out wB cB
                    have nlt := HKl.out wB cB
                    go_wp2_with fail
                    refine (HFi.out _ (HI3.out.below cB)).mono ?_
                    rintro e wC ⟨rfl, cc⟩
                    have cC := cB.trans (cc.mono cB.size)
                    have OC := Lib.hid (OB.out.below cc)
                    have SC := Lib.hid (SB.out.below cc)
                    clear o0 o1 o2 o3 o4 o5 o6 olt s0 s1 slt n0 n1 n2 n3 n4 n5 n6 n7
                    clear cc HFi
                    cases fv with
                    | false =>
                      cases b with
                      | true =>
                        have ⟨o0, o1, o2, o3, o4, o5, o6⟩ := atOp_of OC.out.atC
                        rw [Nat.zero_add] at o1 o2 o3 o4 o5 o6
                        have olt := OC.out.lt
                        have s0 := SC.out.cell 0 _ rfl
                        have s1 := SC.out.cell 1 _ rfl
                        have slt := SC.out.lt
                        have ⟨n0, n1, n2, n3, n4, n5, n6, n7⟩ := HK.out wC cC
                        have nlt := HKl.out wC cC
                        go_wp2_with fail
                        refine wp_region_later (by kernel_rfl) (by kernel_rfl) (fun hL => ?_)
                        repeat (go_big_quiet_step (fail))
                        intro wZ hw
                        have cZ := cC.trans ((later_out hw).mono cC.size)
                        have SZ := Lib.hid (SC.out.below (later_out hw))
                        clear hw hL
                        clear o0 o1 o2 o3 o4 o5 o6 olt s0 s1 slt n0 n1 n2 n3 n4 n5 n6 n7
                        go_wp2_with fail
                        go_roundw
                        case rel => exact ⟨m, c, r, dd, true, by omega, by go_num, rfl, rfl, SZ.out, skip_first HLa.out Ho.out HMay.out HFv.out, mv_true HMo.out, cZ⟩
                        case measure => simp [RowKit.intOf]
                      | false =>
                        have ⟨o0, o1, o2, o3, o4, o5, o6⟩ := atOp_of OC.out.atC
                        rw [Nat.zero_add] at o1 o2 o3 o4 o5 o6
                        have olt := OC.out.lt
                        have s0 := SC.out.cell 0 _ rfl
                        have s1 := SC.out.cell 1 _ rfl
                        have slt := SC.out.lt
                        have ⟨n0, n1, n2, n3, n4, n5, n6, n7⟩ := HK.out wC cC
                        have nlt := HKl.out wC cC
                        go_wp2_with fail
                        refine wp_region_later (by kernel_rfl) (by kernel_rfl) (fun hL => ?_)
                        repeat (go_big_quiet_step (fail))
                        intro wZ hw
                        have cZ := cC.trans ((later_out hw).mono cC.size)
                        have SZ := Lib.hid (SC.out.below (later_out hw))
                        clear hw hL
                        clear o0 o1 o2 o3 o4 o5 o6 olt s0 s1 slt n0 n1 n2 n3 n4 n5 n6 n7
                        go_wp2_with fail
                        go_roundw
                        case rel => exact ⟨m, c, r, dd, false, by omega, by go_num, rfl, rfl, SZ.out, skip_first HLa.out Ho.out HMay.out HFv.out, mv_skip HMo.out Ho.out (fun h => by have := h.2.2.1; have := Hk.out; omega), cZ⟩
                        case measure => simp [RowKit.intOf]
                    | true =>
                      obtain ⟨lb, hlb⟩ : ∃ v, lessS o.c o.r c r = v := ⟨_, rfl⟩
                      have HLs := Lib.hid (fun W => @less_is o.c o.r c r lb hlb W)
                      have HLb := Lib.hid hlb
                      clear hlb
                      have ⟨o0, o1, o2, o3, o4, o5, o6⟩ := atOp_of OC.out.atC
                      rw [Nat.zero_add] at o1 o2 o3 o4 o5 o6
                      have olt := OC.out.lt
                      have s0 := SC.out.cell 0 _ rfl
                      have s1 := SC.out.cell 1 _ rfl
                      have slt := SC.out.lt
                      have ⟨n0, n1, n2, n3, n4, n5, n6, n7⟩ := HK.out wC cC
                      have nlt := HKl.out wC cC
                      go_wp2_with fail
                      refine (HLs.out _).mono ?_
                      rintro e wD ⟨rfl, cd⟩
                      have cD := cC.trans (cd.mono cC.size)
                      have OD := Lib.hid (OC.out.below cd)
                      have SD := Lib.hid (SC.out.below cd)
                      clear o0 o1 o2 o3 o4 o5 o6 olt s0 s1 slt n0 n1 n2 n3 n4 n5 n6 n7
                      clear cd HLs
                      cases lb with
                      | true =>
                        cases b with
                        | true =>
                          have ⟨o0, o1, o2, o3, o4, o5, o6⟩ := atOp_of OD.out.atC
                          rw [Nat.zero_add] at o1 o2 o3 o4 o5 o6
                          have olt := OD.out.lt
                          have s0 := SD.out.cell 0 _ rfl
                          have s1 := SD.out.cell 1 _ rfl
                          have slt := SD.out.lt
                          have ⟨n0, n1, n2, n3, n4, n5, n6, n7⟩ := HK.out wD cD
                          have nlt := HKl.out wD cD
                          go_wp2_with fail
                          refine wp_region_later (by kernel_rfl) (by kernel_rfl) (fun hL => ?_)
                          repeat (go_big_quiet_step (fail))
                          intro wZ hw
                          have cZ := cD.trans ((later_out hw).mono cD.size)
                          have SZ := Lib.hid (SD.out.below (later_out hw))
                          clear hw hL
                          clear o0 o1 o2 o3 o4 o5 o6 olt s0 s1 slt n0 n1 n2 n3 n4 n5 n6 n7
                          go_wp2_with fail
                          go_roundw
                          case rel => exact ⟨m, c, r, dd, true, by omega, by go_num, rfl, rfl, SZ.out, skip_less HLa.out Ho.out HLb.out, mv_true HMo.out, cZ⟩
                          case measure => simp [RowKit.intOf]
                        | false =>
                          have ⟨o0, o1, o2, o3, o4, o5, o6⟩ := atOp_of OD.out.atC
                          rw [Nat.zero_add] at o1 o2 o3 o4 o5 o6
                          have olt := OD.out.lt
                          have s0 := SD.out.cell 0 _ rfl
                          have s1 := SD.out.cell 1 _ rfl
                          have slt := SD.out.lt
                          have ⟨n0, n1, n2, n3, n4, n5, n6, n7⟩ := HK.out wD cD
                          have nlt := HKl.out wD cD
                          go_wp2_with fail
                          refine wp_region_later (by kernel_rfl) (by kernel_rfl) (fun hL => ?_)
                          repeat (go_big_quiet_step (fail))
                          intro wZ hw
                          have cZ := cD.trans ((later_out hw).mono cD.size)
                          have SZ := Lib.hid (SD.out.below (later_out hw))
                          clear hw hL
                          clear o0 o1 o2 o3 o4 o5 o6 olt s0 s1 slt n0 n1 n2 n3 n4 n5 n6 n7
                          go_wp2_with fail
                          go_roundw
                          case rel => exact ⟨m, c, r, dd, false, by omega, by go_num, rfl, rfl, SZ.out, skip_less HLa.out Ho.out HLb.out, mv_skip HMo.out Ho.out (fun h => by have := h.2.2.1; have := Hk.out; omega), cZ⟩
                          case measure => simp [RowKit.intOf]
                      | false =>
                        have ⟨o0, o1, o2, o3, o4, o5, o6⟩ := atOp_of OD.out.atC
                        rw [Nat.zero_add] at o1 o2 o3 o4 o5 o6
                        have olt := OD.out.lt
                        have s0 := SD.out.cell 0 _ rfl
                        have s1 := SD.out.cell 1 _ rfl
                        have slt := SD.out.lt
                        have ⟨n0, n1, n2, n3, n4, n5, n6, n7⟩ := HK.out wD cD
                        have nlt := HKl.out wD cD
                        have f0 := SD.out.free 0 (by simp)
                        have f1 := SD.out.free 1 (by simp)
                        go_upto_region 19 with fail
                        have SE := Lib.hid ((SD.out.set 0 (by simp) (.int .i64 o.c)).set 1 (by simp) (.int .i64 o.r))
                        have OE := Lib.hid ((OD.out.other (g' := g6) (by omega) 0 (.int .i64 o.c)).other (g' := g6) (by omega) 1 (.int .i64 o.r))
                        have cE := (cD.setCell (p := ⟨g6, 0, none⟩) hg6b (.int .i64 o.c)).setCell (p := ⟨g6, 1, none⟩) hg6b (.int .i64 o.r)
                        change Code.wp _ _ _ _ ((wD.setCell ⟨g6, 0, none⟩ (.int .i64 o.c)).setCell ⟨g6, 1, none⟩ (.int .i64 o.r))
                        generalize (wD.setCell ⟨g6, 0, none⟩ (.int .i64 o.c)).setCell ⟨g6, 1, none⟩ (.int .i64 o.r) = wE at SE OE cE ⊢
                        clear o0 o1 o2 o3 o4 o5 o6 olt s0 s1 slt n0 n1 n2 n3 n4 n5 n6 n7
                        clear f0 f1 cD OD SD
                        cases b with
                        | true =>
                          have ⟨o0, o1, o2, o3, o4, o5, o6⟩ := atOp_of OE.out.atC
                          rw [Nat.zero_add] at o1 o2 o3 o4 o5 o6
                          have olt := OE.out.lt
                          have s0 := SE.out.cell 0 _ rfl
                          have s1 := SE.out.cell 1 _ rfl
                          have slt := SE.out.lt
                          have ⟨n0, n1, n2, n3, n4, n5, n6, n7⟩ := HK.out wE cE
                          have nlt := HKl.out wE cE
                          go_wp2_with fail
                          refine wp_region_later (by kernel_rfl) (by kernel_rfl) (fun hL => ?_)
                          repeat (go_big_quiet_step (fail))
                          intro wZ hw
                          have cZ := cE.trans ((later_out hw).mono cE.size)
                          have SZ := Lib.hid (SE.out.below (later_out hw))
                          clear hw hL
                          clear o0 o1 o2 o3 o4 o5 o6 olt s0 s1 slt n0 n1 n2 n3 n4 n5 n6 n7
                          go_wp2_with fail
                          go_roundw
                          case rel => exact ⟨m, o.c, o.r, o.d, true, by omega, by go_num, rfl, rfl, SZ.out, lastTo_take HLa.out ((firstB_iff Ho.out HMay.out).1 HFv.out) Hk.out Hn.out HLb.out, mv_true HMo.out, cZ⟩
                          case measure => simp [RowKit.intOf]
                        | false =>
                          have ⟨o0, o1, o2, o3, o4, o5, o6⟩ := atOp_of OE.out.atC
                          rw [Nat.zero_add] at o1 o2 o3 o4 o5 o6
                          have olt := OE.out.lt
                          have s0 := SE.out.cell 0 _ rfl
                          have s1 := SE.out.cell 1 _ rfl
                          have slt := SE.out.lt
                          have ⟨n0, n1, n2, n3, n4, n5, n6, n7⟩ := HK.out wE cE
                          have nlt := HKl.out wE cE
                          go_wp2_with fail
                          refine wp_region_later (by kernel_rfl) (by kernel_rfl) (fun hL => ?_)
                          repeat (go_big_quiet_step (fail))
                          intro wZ hw
                          have cZ := cE.trans ((later_out hw).mono cE.size)
                          have SZ := Lib.hid (SE.out.below (later_out hw))
                          clear hw hL
                          clear o0 o1 o2 o3 o4 o5 o6 olt s0 s1 slt n0 n1 n2 n3 n4 n5 n6 n7
                          go_wp2_with fail
                          go_roundw
                          case rel => exact ⟨m, o.c, o.r, o.d, false, by omega, by go_num, rfl, rfl, SZ.out, lastTo_take HLa.out ((firstB_iff Ho.out HMay.out).1 HFv.out) Hk.out Hn.out HLb.out, mv_skip HMo.out Ho.out (fun h => by have := h.2.2.1; have := Hk.out; omega), cZ⟩
                          case measure => simp [RowKit.intOf]
                · have Hn := Lib.hid hn
                  have hnb : (o.n != x.id) = true := by simp [hn]
                  clear hn
                  have ⟨o0, o1, o2, o3, o4, o5, o6⟩ := atOp_of OA.out.atC
                  rw [Nat.zero_add] at o1 o2 o3 o4 o5 o6
                  have olt := OA.out.lt
                  have s0 := SA.out.cell 0 _ rfl
                  have s1 := SA.out.cell 1 _ rfl
                  have slt := SA.out.lt
                  have ⟨n0, n1, n2, n3, n4, n5, n6, n7⟩ := HK.out wA cA
                  have nlt := HKl.out wA cA
                  refine wp_region_later (by kernel_rfl) (by kernel_rfl) (fun hL => ?_)
                  repeat (go_big_quiet_step ((go_at_call 28; with_reducible refine later_calls (HCk.out _))))
                  intro wB hw
                  have cB := cA.trans ((later_out hw).mono cA.size)
                  have SB := Lib.hid (SA.out.below (later_out hw))
                  clear hw hL
                  clear o0 o1 o2 o3 o4 o5 o6 olt s0 s1 slt n0 n1 n2 n3 n4 n5 n6 n7
                  go_wp2_with fail
                  go_roundw
                  case rel => exact ⟨m, c, r, dd, b, by omega, by go_num, rfl, rfl, SB.out, skip_ne HLa.out Ho.out (fun h => Hn.out h.2), mv_skip HMo.out Ho.out (fun h => Hn.out h.2.1), cB⟩
                  case measure => simp [RowKit.intOf]
      · have hie : i = t.length := by omega
        have hil2 : ¬ (i : Int) < (t.length : Int) := by omega
        have b4 := step_b b3 ck
        clear hit
        subst hie
        go_wp2_with fail
        go_ret
        exact ⟨rfl, b4⟩
end Go.Proofs.Ytefbkhgnhcllbaa
