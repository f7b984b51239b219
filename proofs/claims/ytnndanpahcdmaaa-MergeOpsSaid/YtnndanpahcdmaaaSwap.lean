/-
  The library's exchange of two ranges of operations.
-/
import Derived.Test.YtnndanpahcdmaaaPkR
import Derived.Test.YtnndanpahcdmaaaROps
import Derived.Test.YtnndanpahcdmaaaPkP
import Derived.BigRegion
import Derived.Deep.RegionHeld3
namespace Go.Proofs.Ytnndanpahcdmaaa
open Go.RowKit Go.Lib
/-- The cells of two records, and what each holds behind the first one's store. -/
theorem swap_facts {B g n c : Nat} {l : List Opn} {w : World} (h : OwnOp B l (.slice (some ⟨g, 0, none⟩) n c) w) {i j : Nat} {x y : Opn} (hx : l[i]? = some x) (hy : l[j]? = some y) (hne : i ≠ j) :
    AtOp w g (i * 7) x ∧ AtOp w g (j * 7) y ∧ (∀ k, k < 7 → w.frozen? ⟨g, i * 7 + k, none⟩ = false) ∧ (∀ k, k < 7 → w.frozen? ⟨g, j * 7 + k, none⟩ = false) ∧ AtOp (w.setCells g (i * 7) (cellsOp y)) g (j * 7) y := by
  have h1 := h.cellsAt op_len hx
  have h2 := h.cellsAt op_len hy
  refine ⟨atOp_of h1.1, atOp_of h2.1, h1.2, h2.2, atOp_of fun k u hk => ?_⟩
  have hk7 := (List.getElem?_eq_some_iff.1 hk).1
  rw [op_len] at hk7
  rw [World.cell?_setCells_out g _ _ _ _ (fun _ _ => by show j * 7 + k < i * 7 ∨ i * 7 + 7 ≤ j * 7 + k; omega)]
  exact h2.1 k u hk
theorem ownR_drew {α : Type} {f : α → List Value} {k B : Nat} {l : List α} {v : Value} {w : World} (h : OwnR f k B l v w) : OwnR f k B l v w.drew := OwnC.own h (Nat.le_refl _) (fun _ _ => rfl)
theorem swap_own {B g n c : Nat} {l : List Opn} {w : World} (h : OwnOp B l (.slice (some ⟨g, 0, none⟩) n c) w) {i j : Nat} {x y : Opn} (hx : l[i]? = some x) (hy : l[j]? = some y) :
    OwnOp B ((l.set i y).set j x) (.slice (some ⟨g, 0, none⟩) n c) ((w.setCells g (i * 7) (cellsOp y)).setCells g (j * 7) (cellsOp x)).drew ∧ Below B w ((w.setCells g (i * 7) (cellsOp y)).setCells g (j * 7) (cellsOp x)).drew := by
  have hi := (List.getElem?_eq_some_iff.1 hx).1
  have hj := (List.getElem?_eq_some_iff.1 hy).1
  have hB := (h.lt g rfl).1
  have h1 := (h.write op_len (m := [y]) (i := i) (by simp only [List.length_singleton]; omega)).1
  rw [overR_one l y i hi] at h1
  have h2 := (OwnR.write op_len h1 (m := [x]) (i := j) (by simp only [List.length_singleton, List.length_set]; omega)).1
  rw [overR_one _ x j (by rw [List.length_set]; exact hj)] at h2
  have e1 : cellsR cellsOp [y] = cellsOp y := List.append_nil _
  have e2 : cellsR cellsOp [x] = cellsOp x := List.append_nil _
  rw [e1, e2] at h2
  have b1 := below_setCells g hB (cellsOp y) (i * 7) w w (Below.refl _ _)
  have b2 := below_setCells g hB (cellsOp x) (j * 7) (w.setCells g (i * 7) (cellsOp y)) w b1
  revert h2 b2
  generalize (w.setCells g (i * 7) (cellsOp y)).setCells g (j * 7) (cellsOp x) = X
  intro h2 b2
  exact ⟨ownR_drew h2, b2.drew⟩
theorem swap_at {α : Type} (A C D : List α) (x y : α) : ((A ++ x :: (C ++ y :: D)).set A.length y).set (A.length + 1 + C.length) x = A ++ y :: (C ++ x :: D) := by
  have e1 : (A ++ x :: (C ++ y :: D)).set A.length y = A ++ y :: (C ++ y :: D) := by simp
  rw [e1]
  have e2 : A ++ y :: (C ++ y :: D) = (A ++ y :: C) ++ y :: D := by simp
  have e3 : A.length + 1 + C.length = (A ++ y :: C).length := by simp; omega
  rw [e2, e3]
  simp
theorem mid_at {α : Type} (A C D : List α) (x y : α) : (A ++ x :: (C ++ y :: D))[A.length]? = some x ∧ (A ++ x :: (C ++ y :: D))[A.length + 1 + C.length]? = some y := by
  refine ⟨by simp, ?_⟩
  have e2 : A ++ x :: (C ++ y :: D) = (A ++ x :: C) ++ y :: D := by simp
  have e3 : A.length + 1 + C.length = (A ++ x :: C).length := by simp; omega
  rw [e2, e3]
  simp
/-- An answer that tells nothing: the row holds these. -/
def RowPost (B g n c : Nat) (l : List Opn) (w : World) (e : Ending) (w' : World) : Prop := e = .returned (.tuple #[]) ∧ OwnOp B l (.slice (some ⟨g, 0, none⟩) n c) w' ∧ Below B w w'
/-- Two ranges, of which the first ones are exchanged. -/
def swR (P U M V Q : List Opn) (i : Nat) : List Opn := P ++ ((V.take i ++ U.drop i) ++ (M ++ ((U.take i ++ V.drop i) ++ Q)))
theorem swR_zero (P U M V Q : List Opn) : swR P U M V Q 0 = P ++ (U ++ (M ++ (V ++ Q))) := by simp [swR]
theorem swR_all (P U M V Q : List Opn) (h : U.length = V.length) : swR P U M V Q V.length = P ++ (V ++ (M ++ (U ++ Q))) := by
  unfold swR
  rw [List.take_length, ← h, List.take_length, List.drop_length, h, List.drop_length]
  simp
theorem swR_len (P U M V Q : List Opn) (h : U.length = V.length) (i : Nat) (hi : i ≤ V.length) : (swR P U M V Q i).length = P.length + U.length + M.length + V.length + Q.length := by
  unfold swR
  simp only [List.length_append, List.length_take, List.length_drop]
  omega
theorem swR_at (P U M V Q : List Opn) (i : Nat) (x y : Opn) (hx : U[i]? = some x) (hy : V[i]? = some y) :
    swR P U M V Q i = (P ++ V.take i) ++ x :: ((U.drop (i + 1) ++ (M ++ U.take i)) ++ y :: (V.drop (i + 1) ++ Q)) ∧ swR P U M V Q (i + 1) = (P ++ V.take i) ++ y :: ((U.drop (i + 1) ++ (M ++ U.take i)) ++ x :: (V.drop (i + 1) ++ Q)) := by
  obtain ⟨h1, e1⟩ := List.getElem?_eq_some_iff.1 hx
  obtain ⟨h2, e2⟩ := List.getElem?_eq_some_iff.1 hy
  have d1 : U.drop i = x :: U.drop (i + 1) := by rw [List.drop_eq_getElem_cons h1, e1]
  have d2 : V.drop i = y :: V.drop (i + 1) := by rw [List.drop_eq_getElem_cons h2, e2]
  have t1 : U.take (i + 1) = U.take i ++ [x] := by rw [List.take_add_one, hx]; rfl
  have t2 : V.take (i + 1) = V.take i ++ [y] := by rw [List.take_add_one, hy]; rfl
  unfold swR
  rw [d1, d2, t1, t2]
  constructor <;> simp
set_option maxRecDepth 100000 in
set_option maxHeartbeats 4000000 in
theorem tswaps_any (B g n c a b m : Nat) (P U M V Q : List Opn) (cmp : Value) (w : World) (h : OwnOp B (P ++ (U ++ (M ++ (V ++ Q)))) (.slice (some ⟨g, 0, none⟩) n c) w)
    (ha : P.length = a) (hu : U.length = m) (hv : V.length = m) (hb : a + m + M.length = b) (hn : n ≤ 100000) :
    Calls Try.prog 88 #[.slice (some ⟨g, 0, none⟩) n c, .int .i64 a, .int .i64 b, .int .i64 m, cmp] w (RowPost B g n c (P ++ (V ++ (M ++ (U ++ Q)))) w) := by
  have hnl := h.len
  have HL := Lib.hid (swR_len P U M V Q (by omega))
  have HAll := Lib.hid (swR_all P U M V Q (by omega))
  have HAt := Lib.hid (swR_at P U M V Q)
  rw [← swR_zero] at h
  have hnn : n = P.length + U.length + M.length + V.length + Q.length := by rw [hnl]; simp only [List.length_append]; omega
  have HP := Lib.hid ha
  have HU := Lib.hid hu
  have HV := Lib.hid hv
  have H0 := Lib.hid h
  have hbn : b + m ≤ n := by omega
  have ham : a + m ≤ b := by omega
  have HM := Lib.hid (show M.length = b - a - m by omega)
  have HN := Lib.hid hnn
  clear ha hu hv hb hnl h hnn
  go_enter Try.func88, Try.ntmps88
  go_wp2
  go_loopw [10] (fun u w' => ∃ i : Nat, i ≤ m ∧ u = .int .i64 i ∧ OwnOp B (swR P U M V Q i) (.slice (some ⟨g, 0, none⟩) n c) w' ∧ Below B w w') (fun u _ => m - (RowKit.intOf u).toNat)
  case atStart => exact ⟨0, Nat.zero_le _, rfl, H0.out, Below.refl _ _⟩
  case round =>
    obtain ⟨i, him, rfl, hr, ck⟩ := hrel
    have HR := Lib.hid hr
    clear hr
    by_cases hi : i < m
    · obtain ⟨x, hx⟩ : ∃ x, U[i]? = some x := ⟨_, List.getElem?_eq_getElem (by rw [HU.out]; exact hi)⟩
      obtain ⟨y, hy⟩ : ∃ y, V[i]? = some y := ⟨_, List.getElem?_eq_getElem (by rw [HV.out]; exact hi)⟩
      obtain ⟨q1, q2⟩ := HAt.out i x y hx hy
      have eA : (P ++ V.take i).length = a + i := by rw [List.length_append, List.length_take, HP.out, HV.out]; omega
      have eC : a + i + 1 + (U.drop (i + 1) ++ (M ++ U.take i)).length = b + i := by simp only [List.length_append, List.length_take, List.length_drop, HU.out, HM.out]; omega
      obtain ⟨mx, my⟩ := mid_at (P ++ V.take i) (U.drop (i + 1) ++ (M ++ U.take i)) (V.drop (i + 1) ++ Q) x y
      have sw := swap_at (P ++ V.take i) (U.drop (i + 1) ++ (M ++ U.take i)) (V.drop (i + 1) ++ Q) x y
      rw [← q1, ← q2, eA, eC] at sw
      rw [← q1, eA] at mx
      rw [← q1, eA, eC] at my
      have HSet := Lib.hid sw
      have hrow := HR.out
      obtain ⟨⟨x0, x1, x2, x3, x4, x5, x6⟩, ⟨y0, y1, y2, y3, y4, y5, y6⟩, hfx, hfy, ⟨z0, z1, z2, z3, z4, z5, z6⟩⟩ := swap_facts hrow mx my (by omega)
      have hswp := swap_own hrow mx my
      have HSW := Lib.hid hswp
      clear hswp
      have f0 := hfx 0 (by omega)
      have f1 := hfx 1 (by omega)
      have f2 := hfx 2 (by omega)
      have f3 := hfx 3 (by omega)
      have f4 := hfx 4 (by omega)
      have f5 := hfx 5 (by omega)
      have f6 := hfx 6 (by omega)
      have e0 := hfy 0 (by omega)
      have e1 := hfy 1 (by omega)
      have e2 := hfy 2 (by omega)
      have e3 := hfy 3 (by omega)
      have e4 := hfy 4 (by omega)
      have e5 := hfy 5 (by omega)
      have e6 := hfy 6 (by omega)
      simp only [Nat.add_zero] at f0 e0
      simp only [cellsOp, World.setCells] at z0 z1 z2 z3 z4 z5 z6
      clear hfx hfy
      clear hx hy q1 q2 eA eC mx my sw hrow
      have him2 : (i : Int) < (m : Int) := by omega
      have ga : (a : Int) + (i : Int) < (n : Int) := by omega
      have gb : (b : Int) + (i : Int) < (n : Int) := by omega
      have ta : ((a : Int) + (i : Int)).toNat = a + i := by omega
      have tb : ((b : Int) + (i : Int)).toNat = b + i := by omega
      have pa : (0 : Int) ≤ (a : Int) + (i : Int) := by omega
      have pb : (0 : Int) ≤ (b : Int) + (i : Int) := by omega
      go_wp2_with fail
      go_region
      change Exit.inBlock _ _ _ _ ((wr.setCells g ((a + i) * 7) (cellsOp y)).setCells g ((b + i) * 7) (cellsOp x)).drew
      clear x0 x1 x2 x3 x4 x5 x6 y0 y1 y2 y3 y4 y5 y6 z0 z1 z2 z3 z4 z5 z6 f0 f1 f2 f3 f4 f5 f6 e0 e1 e2 e3 e4 e5 e6
      obtain ⟨hown, bsw⟩ := HSW.out
      generalize ((wr.setCells g ((a + i) * 7) (cellsOp y)).setCells g ((b + i) * 7) (cellsOp x)).drew = w2 at hown bsw ⊢
      rw [HSet.out] at hown
      have HO2 := Lib.hid hown
      have HB2 := Lib.hid (ck.trans bsw)
      clear hown bsw
      go_wp2_with fail
      go_roundw
      case rel => exact ⟨i + 1, by omega, by go_num, HO2.out, HB2.out⟩
      case measure => simp [RowKit.intOf]; omega
    · obtain rfl : i = m := by omega
      have HE := Lib.hid (show swR P U M V Q i = P ++ (V ++ (M ++ (U ++ Q))) by have := HAll.out; rwa [HV.out] at this)
      have hi2 : ¬ (i : Int) < (i : Int) := by omega
      go_wp2_with fail
      go_end0
      exact ⟨rfl, by rw [← HE.out]; exact HR.out, ck⟩
end Go.Proofs.Ytnndanpahcdmaaa
