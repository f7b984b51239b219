/-
  TreeOnly: an operation that is done changes its own node alone, which has then what it says.
-/
import Derived.Test.YtefbkhgnhcllbaaTOrder
namespace Go.Proofs.Ytefbkhgnhcllbaa
open Go.RowKit Go.Lib
set_option maxRecDepth 100000 in
theorem chain7 (b1 b2 b3 b4 b5 b6 b7 : Bool) : b1 = false ∨ (b1 = true ∧ b2 = false) ∨ (b1 = true ∧ b2 = true ∧ b3 = false) ∨ (b1 = true ∧ b2 = true ∧ b3 = true ∧ b4 = false) ∨ (b1 = true ∧ b2 = true ∧ b3 = true ∧ b4 = true ∧ b5 = false) ∨
    (b1 = true ∧ b2 = true ∧ b3 = true ∧ b4 = true ∧ b5 = true ∧ b6 = false) ∨ (b1 = true ∧ b2 = true ∧ b3 = true ∧ b4 = true ∧ b5 = true ∧ b6 = true ∧ b7 = false) ∨ (b1 = true ∧ b2 = true ∧ b3 = true ∧ b4 = true ∧ b5 = true ∧ b6 = true ∧ b7 = true) := by
  cases b1 <;> cases b2 <;> cases b3 <;> cases b4 <;> cases b5 <;> cases b6 <;> cases b7 <;> simp
set_option maxRecDepth 100000 in
theorem only_no {l : List Nod} (hc : chkN l = true) {o : Opn} {i : Int} (h : i ≠ o.n ∨ (doN l o).2.did = false) : findN (doN l o).1 i = findN l i := by
  have hm := chkN_iff.1 hc
  have hc2 : chkN (doN l o).1 = true := by rw [doN_chk]; exact hc
  unfold findN
  rw [if_pos hc, if_pos hc2]
  rcases doN_cases l o with h1 | ⟨_, _, n, hi, hn, h1, _⟩
  · rw [h1]
  · rcases h with h | h
    · rw [h1]
      show getN (withN l n) i = _
      rw [getN_with, if_neg (by rw [hi]; exact h)]
    · rw [h1] at h; cases h
set_option maxRecDepth 100000 in
/-- What is done changes its own node as it says. -/
theorem only_yes {l : List Nod} (hc : chkN l = true) {o : Opn} (hd : (doN l o).2.did = true) :
    ∃ (n m : Nod) (is : Bool) , (doN l o).2 = ⟨true, is, n⟩ ∧ findN (doN l o).1 o.n = some m ∧ (findN l o.n).getD noNod = n ∧ (findN l o.n).isSome = is ∧
      ((o.k = 1 ∧ m = ⟨o.n, o.p, o.s, o.c, o.r, n.d, n.wc, n.wr⟩) ∨ (o.k = 2 ∧ ∃ p, m = ⟨o.n, p, n.s, n.mc, n.mr, o.d, o.c, o.r⟩ ∧ ((is = true ∧ p = n.p) ∨ (is = false ∧ p = -1)))) := by
  have hm := chkN_iff.1 hc
  rcases doN_cases l o with h1 | ⟨_, _, n, hi, hn, h1, h2⟩
  · rw [h1] at hd; cases hd
  · have hc2 : chkN (withN l n) = true := chkN_iff.2 (withN_may hm (by rw [hi]; exact hn))
    have hf : findN (doN l o).1 o.n = some n := by
      rw [h1]
      show findN (withN l n) o.n = some n
      unfold findN
      rw [if_pos hc2, getN_with, if_pos hi.symm]
    have hg : findN l o.n = getN l o.n := by unfold findN; rw [if_pos hc]
    refine ⟨(getN l o.n).getD noNod, n, (getN l o.n).isSome, by rw [h1]; rfl, hf, by rw [hg], by rw [hg], ?_⟩
    rcases h2 with ⟨hk, rfl⟩ | ⟨hk, _, rfl⟩
    · refine .inr ⟨hk, ?_⟩
      cases hgo : getN l o.n with
      | none => exact ⟨-1, by unfold wroteN oldN; rw [hgo]; rfl, .inr ⟨rfl, rfl⟩⟩
      | some y =>
        have hy := (getN_some hgo).2
        exact ⟨y.p, by unfold wroteN oldN; rw [hgo]; simp [hy], .inl ⟨rfl, rfl⟩⟩
    · refine .inl ⟨hk, ?_⟩
      cases hgo : getN l o.n with
      | none => unfold movedN oldN; rw [hgo]; rfl
      | some y =>
        have hy := (getN_some hgo).2
        unfold movedN oldN; rw [hgo]; simp [hy]
set_option maxRecDepth 100000 in
set_option maxHeartbeats 16000000 in
theorem tonly_walk (a : Option Addr) (cap : Nat) (l : List Nod) (o : Opn) (id : Int) (w : World) (hl : IsNd w a cap l ∧ l.length ≤ maxLen ∧ (∀ x ∈ l, InN x)) (_ho : InO o) (_hid : (Lit.int .i64 id).wf = true) :
    Calls Try.prog 5 #[.slice a l.length cap, OV o, .int .i64 id] w fun e w' => e = .returned (.bool true) ∧ Below w.heap.size w w' := by
  obtain ⟨hi, hlm, hin⟩ := hl
  have GN := Lib.hid (show RgNs l from fun x hx => (hin x hx).1)
  clear hin
  have GO := Lib.hid (show RgO o from _ho.1)
  have GI := Lib.hid (show I64 id from i64_wf _hid)
  have HLm := Lib.hid hlm
  have HI := Lib.hid (hi.below (below_alloc w (.cells (cellsOp o).toArray 26)))
  have HO := Lib.hid (cells_new w (cellsOp o) 26)
  clear hi hlm _ho _hid
  obtain ⟨fb, hfb⟩ : ∃ x, fewN l 100 = x := ⟨_, rfl⟩
  obtain ⟨gb, hgb⟩ : ∃ x, fewOp [o] 1 = x := ⟨_, rfl⟩
  obtain ⟨ck, hck⟩ : ∃ x, chkN l = x := ⟨_, rfl⟩
  have HF := Lib.hid hfb
  have HG := Lib.hid hgb
  have HC := Lib.hid hck
  clear hfb hgb hck
  go_enter Try.func5, Try.ntmps5
  go_wp2_with fail
  refine (awake_any _).mono ?_
  rintro e w1 ⟨rfl, c1⟩
  have b1 := step_a (Below.refl _ _) c1
  have HI1 := Lib.hid (HI.out.below c1)
  have HO1 := Lib.hid (HO.out.below c1)
  clear c1 HI HO
  go_wp2_with fail
  refine (nfew_is HF.out _ HI1.out HLm.out).mono ?_
  rintro e w2 ⟨rfl, rfl⟩
  obtain ⟨m0, m1, m2, m3, m4, m5, m6⟩ := atOp_of HO1.out.atC
  rw [Nat.zero_add] at m1 m2 m3 m4 m5 m6
  cases fb with
  | false =>
    go_wp2_with fail
    go_ret
    exact ⟨rfl, b1⟩
  | true =>
    have hll : l.length ≤ 100 := by have := (fewN_of HF.out).2; omega
    go_wp2_with fail
    refine (ofew_one HG.out _ _ rfl).mono ?_
    rintro e w3 ⟨rfl, rfl⟩
    have b3 := b1.alloc b1.size (.cells (cellsOp o).toArray 26)
    have HI3 := Lib.hid (HI1.out.below (below_alloc w2 (.cells (cellsOp o).toArray 26)))
    have HO3 := Lib.hid (HO1.out.below (below_alloc w2 (.cells (cellsOp o).toArray 26)))
    clear m0 m1 m2 m3 m4 m5 m6 HI1 HO1 b1
    generalize w2.alloc (.cells (cellsOp o).toArray 26) = w3 at *
    cases gb with
    | false =>
      go_wp2_with fail
      go_ret
      exact ⟨rfl, b3⟩
    | true =>
      have HSo := Lib.hid ((fewOp_of HG.out).1 o (by simp))
      have HCk := Lib.hid (tchk_any a cap l w3 HI3.out (by omega) GN.out)
      rw [HC.out] at HCk
      go_wp2_with fail
      refine HCk.out.mono ?_
      rintro e w4 ⟨rfl, c4⟩
      have b4 := step_b b3 c4
      have HI4 := Lib.hid (HI3.out.below c4)
      have HO4 := Lib.hid (HO3.out.below c4)
      clear c4 b3 HI3 HO3 HCk
      obtain ⟨m0, m1, m2, m3, m4, m5, m6⟩ := atOp_of HO4.out.atC
      rw [Nat.zero_add] at m1 m2 m3 m4 m5 m6
      cases ck with
      | false =>
        go_wp2_with fail
        go_ret
        exact ⟨rfl, b4⟩
      | true =>
        have HDo := Lib.hid (tdo_any a cap l o w4 HI4.out (by omega) HSo.out.1 HSo.out.2 GN.out GO.out)
        have GR := Lib.hid (doN_rng GN.out GO.out).1
        have HNo := Lib.hid (fun h => only_no HC.out (o := o) (i := id) h)
        have HYes := Lib.hid (fun h => only_yes HC.out (o := o) h)
        have ht2 : (doN l o).1.length ≤ 101 := by have := doN_len l o; omega
        generalize doN l o = r at HDo HNo HYes ht2 GR
        obtain ⟨t2, u⟩ := r
        go_wp2_with fail
        refine HDo.out.mono ?_
        rintro e w5 ⟨a3, d3, rfl, h3, c5⟩
        have b5 := step_b b4 c5
        have HI5 := Lib.hid (HI4.out.below c5)
        have HO5 := Lib.hid (HO4.out.below c5)
        have HT5 := Lib.hid h3
        clear c5 b4 HI4 HO4 h3 HDo m0 m1 m2 m3 m4 m5 m6
        obtain ⟨f1, hf1⟩ : ∃ x, findN l id = x := ⟨_, rfl⟩
        obtain ⟨f2, hf2⟩ : ∃ x, findN t2 id = x := ⟨_, rfl⟩
        have HF1 := Lib.hid hf1
        have HF2 := Lib.hid hf2
        clear hf1 hf2
        go_wp2_with fail
        refine (tfind_is _ (HI5.out.below (below_alloc _ _)) (by omega) HF1.out GN.out GI.out).mono ?_
        rintro e w6 ⟨rfl, c6⟩
        have b6 := step_a b5 c6
        have HU6 := Lib.hid ((cells_new w5 (cellsU u) 30).below c6)
        have HO6 := Lib.hid ((HO5.out.below (below_alloc _ _)).below c6)
        have HT6 := Lib.hid ((HT5.out.below (below_alloc _ _)).below c6)
        clear c6 b5 HI5 HO5 HT5
        obtain ⟨nx, hnx⟩ : ∃ x, f1.getD noNod = x := ⟨_, rfl⟩
        obtain ⟨sx, hsx⟩ : ∃ x, f1.isSome = x := ⟨_, rfl⟩
        rw [hnx, hsx]
        have HNx := Lib.hid hnx
        have HSx := Lib.hid hsx
        clear hnx hsx
        go_wp2_with fail
        refine (tfind_is _ (HT6.out.below (below_alloc _ _)) (by omega) HF2.out GR.out GI.out).mono ?_
        rintro e w7 ⟨rfl, c7⟩
        obtain ⟨ny, hny⟩ : ∃ x, f2.getD noNod = x := ⟨_, rfl⟩
        obtain ⟨sy, hsy⟩ : ∃ x, f2.isSome = x := ⟨_, rfl⟩
        rw [hny, hsy]
        have HNy := Lib.hid hny
        have HSy := Lib.hid hsy
        clear hny hsy
        have b7 := step_a b6 c7
        have HN7 := Lib.hid ((cells_new w6 (cellsNd nx) 28).below c7)
        have HU7 := Lib.hid ((HU6.out.below (below_alloc _ _)).below c7)
        have HO7 := Lib.hid ((HO6.out.below (below_alloc _ _)).below c7)
        clear c7 b6 HU6 HO6 HT6
        obtain ⟨did, had, was⟩ := u
        have m0 := fun X => (HO7.out.below (below_alloc w7 X)).cell 0 _ rfl
        have m1 := fun X => (HO7.out.below (below_alloc w7 X)).cell 1 _ rfl
        have m2 := fun X => (HO7.out.below (below_alloc w7 X)).cell 2 _ rfl
        have m3 := fun X => (HO7.out.below (below_alloc w7 X)).cell 3 _ rfl
        have m4 := fun X => (HO7.out.below (below_alloc w7 X)).cell 4 _ rfl
        have m5 := fun X => (HO7.out.below (below_alloc w7 X)).cell 5 _ rfl
        have m6 := fun X => (HO7.out.below (below_alloc w7 X)).cell 6 _ rfl
        have q0 := fun X => (HN7.out.below (below_alloc w7 X)).cell 0 _ rfl
        have q1 := fun X => (HN7.out.below (below_alloc w7 X)).cell 1 _ rfl
        have q2 := fun X => (HN7.out.below (below_alloc w7 X)).cell 2 _ rfl
        have q3 := fun X => (HN7.out.below (below_alloc w7 X)).cell 3 _ rfl
        have q4 := fun X => (HN7.out.below (below_alloc w7 X)).cell 4 _ rfl
        have q5 := fun X => (HN7.out.below (below_alloc w7 X)).cell 5 _ rfl
        have q6 := fun X => (HN7.out.below (below_alloc w7 X)).cell 6 _ rfl
        have q7 := fun X => (HN7.out.below (below_alloc w7 X)).cell 7 _ rfl
        have u0 := fun X => (HU7.out.below (below_alloc w7 X)).cell 0 _ rfl
        have u1 := fun X => (HU7.out.below (below_alloc w7 X)).cell 1 _ rfl
        have u2 := fun X => (HU7.out.below (below_alloc w7 X)).cell 2 _ rfl
        have u3 := fun X => (HU7.out.below (below_alloc w7 X)).cell 3 _ rfl
        have u4 := fun X => (HU7.out.below (below_alloc w7 X)).cell 4 _ rfl
        have u5 := fun X => (HU7.out.below (below_alloc w7 X)).cell 5 _ rfl
        have u6 := fun X => (HU7.out.below (below_alloc w7 X)).cell 6 _ rfl
        have u7 := fun X => (HU7.out.below (below_alloc w7 X)).cell 7 _ rfl
        have u8 := fun X => (HU7.out.below (below_alloc w7 X)).cell 8 _ rfl
        have u9 := fun X => (HU7.out.below (below_alloc w7 X)).cell 9 _ rfl
        clear HN7 HU7 HO7 HLm HF HG HSo
        by_cases hid : id = o.n
        · have hidb : (id != o.n) = false := by simp [hid]
          cases did with
          | false =>
            have heq : f2 = f1 := by rw [← HF2.out, ← HF1.out]; exact HNo.out (.inr rfl)
            have e1 : ny = nx := by rw [← HNy.out, ← HNx.out, heq]
            have e2 : sy = sx := by rw [← HSy.out, ← HSx.out, heq]
            subst e1
            subst e2
            clear heq hid
            go_wp2_with fail
            go_ret
            exact ⟨rfl, b7.alloc b7.size _⟩
          | true =>
            obtain ⟨n, m, is, hu, hm, hn, hs, hw⟩ := HYes.out rfl
            simp only [Und.mk.injEq, true_and] at hu
            obtain ⟨rfl, rfl⟩ := hu
            have e1 : nx = was := by rw [← HNx.out, ← HF1.out, hid]; exact hn
            have e2 : sx = had := by rw [← HSx.out, ← HF1.out, hid]; exact hs
            have e3 : ny = m := by rw [← HNy.out, ← HF2.out, hid]; show (findN t2 o.n).getD noNod = m; rw [show findN t2 o.n = some m from hm]; rfl
            have e4 : sy = true := by rw [← HSy.out, ← HF2.out, hid]; show (findN t2 o.n).isSome = true; rw [show findN t2 o.n = some m from hm]; rfl
            subst e1
            subst e2
            subst e3
            subst e4
            clear hn hs hm HNo HYes HF1 HF2 HNx HNy HSx HSy hid
            rcases hw with ⟨hk, hm⟩ | ⟨hk, p, hm, hp⟩
            · subst hm
              have m2' := fun X => (m2 X).trans (show some (Value.int .i64 o.k) = some (.int .i64 1) by rw [hk])
              clear hk m2
              cases sx
              · rcases chain7 (nx.d.toList == o.d.toList) (nx.wc == o.c) (nx.wr == o.r) (o.s.toList == nx.s.toList) (o.c == nx.mc) (o.r == nx.mr) (o.p == -1) with f1 | ⟨f1, f2⟩ | ⟨f1, f2, f3⟩ | ⟨f1, f2, f3, f4⟩ | ⟨f1, f2, f3, f4, f5⟩ | ⟨f1, f2, f3, f4, f5, f6⟩ | ⟨f1, f2, f3, f4, f5, f6, f7⟩ | ⟨f1, f2, f3, f4, f5, f6, f7⟩
                all_goals
                  go_wp2_with fail
                  go_ret
                  exact ⟨rfl, b7.alloc b7.size _⟩
              · rcases chain7 (nx.d.toList == o.d.toList) (nx.wc == o.c) (nx.wr == o.r) (o.s.toList == nx.s.toList) (o.c == nx.mc) (o.r == nx.mr) (o.p == nx.p) with f1 | ⟨f1, f2⟩ | ⟨f1, f2, f3⟩ | ⟨f1, f2, f3, f4⟩ | ⟨f1, f2, f3, f4, f5⟩ | ⟨f1, f2, f3, f4, f5, f6⟩ | ⟨f1, f2, f3, f4, f5, f6, f7⟩ | ⟨f1, f2, f3, f4, f5, f6, f7⟩
                all_goals
                  go_wp2_with fail
                  go_ret
                  exact ⟨rfl, b7.alloc b7.size _⟩
            · subst hm
              have m2' := fun X => (m2 X).trans (show some (Value.int .i64 o.k) = some (.int .i64 2) by rw [hk])
              clear hk m2
              rcases hp with ⟨rfl, rfl⟩ | ⟨rfl, rfl⟩
              · rcases chain7 (nx.p == o.p) (nx.s.toList == o.s.toList) (nx.mc == o.c) (nx.mr == o.r) (o.d.toList == nx.d.toList) (o.c == nx.wc) (o.r == nx.wr) with f1 | ⟨f1, f2⟩ | ⟨f1, f2, f3⟩ | ⟨f1, f2, f3, f4⟩ | ⟨f1, f2, f3, f4, f5⟩ | ⟨f1, f2, f3, f4, f5, f6⟩ | ⟨f1, f2, f3, f4, f5, f6, f7⟩ | ⟨f1, f2, f3, f4, f5, f6, f7⟩
                all_goals
                  go_wp2_with fail
                  go_ret
                  exact ⟨rfl, b7.alloc b7.size _⟩
              · rcases chain7 (-1 == o.p) (nx.s.toList == o.s.toList) (nx.mc == o.c) (nx.mr == o.r) (o.d.toList == nx.d.toList) (o.c == nx.wc) (o.r == nx.wr) with f1 | ⟨f1, f2⟩ | ⟨f1, f2, f3⟩ | ⟨f1, f2, f3, f4⟩ | ⟨f1, f2, f3, f4, f5⟩ | ⟨f1, f2, f3, f4, f5, f6⟩ | ⟨f1, f2, f3, f4, f5, f6, f7⟩ | ⟨f1, f2, f3, f4, f5, f6, f7⟩
                all_goals
                  go_wp2_with fail
                  go_ret
                  exact ⟨rfl, b7.alloc b7.size _⟩
        · have hidb : (id != o.n) = true := by simp [hid]
          have heq : f2 = f1 := by rw [← HF2.out, ← HF1.out]; exact HNo.out (.inl hid)
          have e1 : ny = nx := by rw [← HNy.out, ← HNx.out, heq]
          have e2 : sy = sx := by rw [← HSy.out, ← HSx.out, heq]
          subst e1
          subst e2
          clear heq hid
          go_wp2_with fail
          go_ret
          exact ⟨rfl, b7.alloc b7.size _⟩
end Go.Proofs.Ytefbkhgnhcllbaa
