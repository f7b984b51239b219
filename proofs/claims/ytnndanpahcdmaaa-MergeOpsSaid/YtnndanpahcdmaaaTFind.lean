/-
  The landed package tree: the node of a number.
-/
import Derived.Test.YtnndanpahcdmaaaTPlace
namespace Go.Proofs.Ytnndanpahcdmaaa
open Go.RowKit Go.Lib
set_option maxRecDepth 100000 in
set_option maxHeartbeats 4000000 in
theorem tnodeof_some {a : Option Addr} {c : Nat} {l : List Nod} {i : Int} {x : Nod} (w : World) (h : IsNd w a c l) (hm : MayN l) (hl : l.length ≤ 1000000) (hg : getN l i = some x) :
    Calls Try.prog 74 #[.slice a l.length c, .int .i64 i] w fun e w' => e = .returned (.tuple #[NV x, .bool true]) ∧ Below w.heap.size w w' := by
  have h1 := Lib.hid (h.below (below_alloc w (.cells #[.int .i64 0, .int .i64 0, .string ⟨#[]⟩, .int .i64 0, .int .i64 0, .string ⟨#[]⟩, .int .i64 0, .int .i64 0] 45)))
  have q0 := below_alloc w (.cells #[.int .i64 0, .int .i64 0, .string ⟨#[]⟩, .int .i64 0, .int .i64 0, .string ⟨#[]⟩, .int .i64 0, .int .i64 0] 45)
  have Z0 := Lib.hid (show CellN _ _ noNod from cells_new w (cellsNd noNod) 45)
  have H := Lib.hid (tplace_any a c l i _ h1.out hm hl)
  have hp := pos_some hm hg
  rw [hg] at H
  obtain ⟨k, hk⟩ : ∃ k, posN l i = k := ⟨_, rfl⟩
  rw [hk] at H hp
  have HP := Lib.hid hp
  clear hg hk hp hm
  go_enter Try.func74, Try.ntmps74
  go_wp2_with fail
  refine (H.out).mono ?_
  rintro e w2 ⟨rfl, c1⟩
  have h2 := Lib.hid (h1.out.below c1)
  have Z1 := Lib.hid (Z0.out.below c1)
  obtain ⟨g, o, rfl, hlt, hcell⟩ := h2.out.nod HP.out
  obtain ⟨k0, k1, k2, k3, k4, k5, k6, k7⟩ := hcell k x HP.out
  have hkl : (k : Int) < (l.length : Int) := by have := (List.getElem?_eq_some_iff.1 HP.out).1; omega
  obtain ⟨z0, z1, z2, z3, z4, z5, z6, z7⟩ := cellN_cells Z1.out
  obtain ⟨f0, f1, f2, f3, f4, f5, f6, f7⟩ := cellN_frees Z1.out
  clear hcell
  go_wp2_with fail
  change bodyPost _ _ _ _ _ (setN w2 w.heap.size x)
  obtain ⟨y0, y1, y2, y3, y4, y5, y6, y7⟩ := cellN_cells (cellN_set Z1.out x)
  refine bodyPost_ret (v := .tuple #[NV x, .bool true]) (by simp [results, Try.results74, go_sem, y0, y1, y2, y3, y4, y5, y6, y7]) rfl ⟨rfl, below_setN (step_b q0 c1) (Nat.le_refl _) x⟩
set_option maxRecDepth 100000 in
set_option maxHeartbeats 4000000 in
theorem tnodeof_none {a : Option Addr} {c : Nat} {l : List Nod} {i : Int} (w : World) (h : IsNd w a c l) (hm : MayN l) (hl : l.length ≤ 1000000) (hg : getN l i = none) :
    Calls Try.prog 74 #[.slice a l.length c, .int .i64 i] w fun e w' => e = .returned (.tuple #[NV noNod, .bool false]) ∧ Below w.heap.size w w' := by
  have h1 := Lib.hid (h.below (below_alloc w (.cells #[.int .i64 0, .int .i64 0, .string ⟨#[]⟩, .int .i64 0, .int .i64 0, .string ⟨#[]⟩, .int .i64 0, .int .i64 0] 45)))
  have q0 := below_alloc w (.cells #[.int .i64 0, .int .i64 0, .string ⟨#[]⟩, .int .i64 0, .int .i64 0, .string ⟨#[]⟩, .int .i64 0, .int .i64 0] 45)
  have Z0 := Lib.hid (show CellN _ _ noNod from cells_new w (cellsNd noNod) 45)
  have H := Lib.hid (tplace_any a c l i _ h1.out hm hl)
  rw [hg] at H
  clear hg hm
  go_enter Try.func74, Try.ntmps74
  go_wp2_with fail
  refine (H.out).mono ?_
  rintro e w2 ⟨rfl, c1⟩
  have Z1 := Lib.hid (Z0.out.below c1)
  obtain ⟨z0, z1, z2, z3, z4, z5, z6, z7⟩ := cellN_cells Z1.out
  obtain ⟨f0, f1, f2, f3, f4, f5, f6, f7⟩ := cellN_frees Z1.out
  go_wp2_with fail
  change bodyPost _ _ _ _ _ (setN w2 w.heap.size noNod)
  obtain ⟨y0, y1, y2, y3, y4, y5, y6, y7⟩ := cellN_cells (cellN_set Z1.out noNod)
  refine bodyPost_ret (v := .tuple #[NV noNod, .bool false]) (by simp [results, Try.results74, go_sem, y0, y1, y2, y3, y4, y5, y6, y7]) rfl ⟨rfl, below_setN (step_b q0 c1) (Nat.le_refl _) noNod⟩
end Go.Proofs.Ytnndanpahcdmaaa
