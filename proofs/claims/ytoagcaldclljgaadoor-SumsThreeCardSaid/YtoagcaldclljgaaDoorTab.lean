/-
  The row's condition gives the table of four steps, as the program lays it.
-/
import Derived.Test.YtoagcaldclljgaaDoorRows
import Derived.Test.YtoagcaldclljgaaDoorEight
import Derived.KernelRfl
import Derived.MakeChecks
namespace Go.Proofs.YtoagcaldclljgaaDoor
open Go.RowKit Go.Lib
theorem hasTab_of {W : World} (h : laidMetH Tryd.prog [("gunwale/sums.fourSteps", Rows.laid_gunwale_sums_fourSteps)] W) : HasTab W := by
  rw [MakeChecks.laidMetH_plain _ _ _ (by kernel_rfl)] at h
  have hT : TabIs Tryd.prog W "gunwale/sums.fourSteps" .u32 four :=
    tabIs_of_head (g := 0) (t := 39) (e := 22) (n := 16) (rest := []) (by kernel_rfl) (by kernel_rfl) Tryd.underlying39 Tryd.underlying22 (by kernel_rfl) (by kernel_rfl) h
  exact fun i hi => hT.cell (by kernel_rfl) i hi
end Go.Proofs.YtoagcaldclljgaaDoor
