/-
  sums.eightSteps goes eight steps, whatever the number, where the table of four steps stands as the program lays it; the document's step is one.
-/
import Derived.Test.YtoagcaldclljgaaDoorChecked
import Derived.Test.YtoagcaldclljgaaDoorWords
import Derived.WalkKit
import Derived.WalkLawsBesides
import Derived.WalkMore
import Derived.ScopeJumps
import Derived.Lib.Hide
import Derived.Lib.LaidTab
import Derived.Laws.Shifts
import Derived.Laws.Bits
import Derived.LoopTactic
namespace Go.Proofs.YtoagcaldclljgaaDoor
open Go.RowKit Go.Lib
open Crc (W)
/-- The table of four steps, as it is laid. -/
def HasTab (w : World) : Prop := ∀ i, i < 16 → w.cell? ⟨0, i, none⟩ = some (.int .u32 (four.getD i 0))
theorem HasTab.below {w w' : World} (h : HasTab w) (hb : Below w.heap.size w w') : HasTab w' := fun i hi => by
  have hlt : 0 < w.heap.size := World.block_lt_of_cell? w ⟨0, i, none⟩ (h i hi)
  rw [hb.cell (p := ⟨0, i, none⟩) hlt]
  exact h i hi
set_option maxHeartbeats 1000000 in
theorem eight_any (v : W) (w : World) (ht : HasTab w) :
    Calls Tryd.prog 18 #[U v] w fun e w' => e = .returned (U (Crc.steps 8 v)) ∧ w' = w := by
  have hv := v.isLt
  obtain ⟨u, hu⟩ : ∃ u, Crc.steps 4 v = u := ⟨_, rfl⟩
  have hu8 : Crc.steps 8 v = Crc.steps 4 u := by rw [← hu]; rfl
  have hul := u.isLt
  have hc := ht (v.toNat / 268435456) (by omega)
  have hc2 := ht (u.toNat / 268435456) (by omega)
  have x1 := Crc.four_steps v
  have x2 := Crc.four_steps u
  rw [hu] at x1
  generalize four.getD (v.toNat / 268435456) 0 = z at hc x1
  generalize four.getD (u.toNat / 268435456) 0 = z2 at hc2 x2
  have Hu8 := Lib.hid hu8
  clear hu8 hu
  generalize Crc.steps 4 u = u2 at x2 Hu8
  go_enter Tryd.func18, Tryd.ntmps18
  go_wp2
  refine wp_scope_jumps 0 (fun a' w' => w' = w ∧ ∃ (u4 u5 u6 u7 u8 u9 u10 u11 u12 u13 u14 : Value), a' = { tmps := #[U u, undef, .int .u32 0, .int .i64 4, u4, u5, u6, u7, u8, u9, u10, u11, u12, u13, u14, undef], defers := [] }) (fun _ _ => 0) rfl ?_ ?_
  · go_wp2
    go_step3
    go_wp2
    go_step3
    exact ⟨rfl, rfl, _, _, _, _, _, _, _, _, _, _, _, rfl⟩
  · rintro a' w' ⟨rfl, u4, u5, u6, u7, u8, u9, u10, u11, u12, u13, u14, rfl⟩
    go_wp2
    simp only [Exit.jump]
    go_ret
    rw [Hu8.out]
    exact ⟨rfl, rfl⟩
set_option maxHeartbeats 1000000 in
theorem rstep_any (v : W) (w : World) :
    Calls Tryd.prog 19 #[U v] w fun e w' => e = .returned (U (Crc.step v)) ∧ w' = w := by
  have hv : (v.toNat : Int) < 4294967296 := by have := v.isLt; omega
  by_cases h : 2147483648 ≤ v.toNat
  · have x := Crc.one_high v h
    have h1 : (2147483648 : Int) ≤ (v.toNat : Int) := by omega
    clear h
    obtain ⟨y, hy⟩ : ∃ y, Crc.step v = y := ⟨_, rfl⟩
    rw [hy] at x ⊢
    clear hy
    unfold U
    generalize (v.toNat : Int) = n at *
    go_enter Tryd.func19, Tryd.ntmps19
    go_wp2
    go_ret
    exact ⟨rfl, rfl⟩
  · have x := Crc.one_low v (by omega)
    have h1 : (v.toNat : Int) < (2147483648 : Int) := by omega
    clear h
    obtain ⟨y, hy⟩ : ∃ y, Crc.step v = y := ⟨_, rfl⟩
    rw [hy] at x ⊢
    clear hy
    unfold U
    generalize (v.toNat : Int) = n at *
    go_enter Tryd.func19, Tryd.ntmps19
    go_wp2
    go_ret
    exact ⟨by rw [← x]; rfl, rfl⟩
end Go.Proofs.YtoagcaldclljgaaDoor
