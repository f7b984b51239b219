/-
  sums.Bytes, Seal, Open, and the document's.
-/
import Derived.Test.YtoagcaldclljgaaDoorSum
import Derived.Laws.BytesString
import Derived.Laws.IdiomStrings
import Derived.Test.YtoagcaldclljgaaDoorShelf
namespace Go.Proofs.YtoagcaldclljgaaDoor
open Go.RowKit Go.Lib
open Crc (W)
def ofL (l : List UInt8) : ByteArray := ⟨l.toArray⟩
theorem b_top (n : Nat) (h : n < 4294967296) : ((UInt8.ofNat (n / 16777216)).toNat : Int) = (n : Int) / 16777216 := by
  rw [UInt8.toNat_ofNat']; omega
theorem b_mid (n : Nat) : ((UInt8.ofNat (n / 65536)).toNat : Int) = (n : Int) / 65536 % 256 := by
  rw [UInt8.toNat_ofNat']; omega
theorem b_mid2 (n : Nat) : ((UInt8.ofNat (n / 256)).toNat : Int) = (n : Int) / 256 % 256 := by
  rw [UInt8.toNat_ofNat']; omega
theorem b_low (n : Nat) : ((UInt8.ofNat n).toNat : Int) = (n : Int) % 256 := by
  rw [UInt8.toNat_ofNat']; omega
theorem conv4 (v : W) (w : World) :
    (convert 34 9 (.slice (some ⟨w.heap.size, 0, none⟩) 4 4)).run Tryd.prog (w.alloc (.cells #[.int .u8 ((v.toNat : Int) / 16777216), .int .u8 ((v.toNat : Int) / 65536 % 256), .int .u8 ((v.toNat : Int) / 256 % 256), .int .u8 ((v.toNat : Int) % 256)] 5)) =
      .ok (.string (ofL (Crc.bytes4 v))) (w.alloc (.cells #[.int .u8 ((v.toNat : Int) / 16777216), .int .u8 ((v.toNat : Int) / 65536 % 256), .int .u8 ((v.toNat : Int) / 256 % 256), .int .u8 ((v.toNat : Int) % 256)] 5)) := by
  refine run_convert_bytes_back _ 34 9 5 ⟨w.heap.size, 0, none⟩ 4 (Crc.bytes4 v) Tryd.underlying34 Tryd.underlying5 Tryd.underlying9 ?_
  intro j hj
  have hp : (⟨w.heap.size, 0, none⟩ : Addr).add j = ⟨w.heap.size, j, none⟩ := by unfold Addr.add; split <;> simp_all
  rw [hp, World.cell?_alloc_at _ _ _ _ rfl]
  have hj4 : j < 4 := hj
  have e1 := b_top v.toNat v.isLt
  have e2 := b_mid v.toNat
  have e3 := b_mid2 v.toNat
  have e4 := b_low v.toNat
  match j, hj4 with
  | 0, _ => exact congrArg (fun z => some (Value.int .u8 z)) e1.symm
  | 1, _ => exact congrArg (fun z => some (Value.int .u8 z)) e2.symm
  | 2, _ => exact congrArg (fun z => some (Value.int .u8 z)) e3.symm
  | 3, _ => exact congrArg (fun z => some (Value.int .u8 z)) e4.symm
set_option maxHeartbeats 2000000 in
theorem bytes_any (v : W) (w : World) :
    Calls Tryd.prog 13 #[U v] w fun e w' => e = .returned (.string (ofL (Crc.bytes4 v))) ∧ Below w.heap.size w w' := by
  have hv := v.isLt
  have hc := conv4 v w
  go_enter Tryd.func13, Tryd.ntmps13
  go_wp2
  go_ret
  exact ⟨rfl, (Below.refl _ _).alloc (Nat.le_refl _) _⟩
set_option maxHeartbeats 2000000 in
theorem rbytes_any (v : W) (w : World) :
    Calls Tryd.prog 14 #[U v] w fun e w' => e = .returned (.string (ofL (Crc.bytes4 v))) ∧ Below w.heap.size w w' := by
  have hv := v.isLt
  have hc := conv4 v w
  go_enter Tryd.func14, Tryd.ntmps14
  go_wp2
  go_ret
  exact ⟨rfl, (Below.refl _ _).alloc (Nat.le_refl _) _⟩
theorem clone_any (s : ByteArray) (w : World) (hs : s.size ≤ 1000000) :
    Calls Tryd.prog 17 #[.string s] w fun e w' => e = .returned (.string s) ∧ Below w.heap.size w w' := by
  go_enter Tryd.func17, Tryd.ntmps17
  go_wp2_with (go_at_call 20; refine (Tryd.stringslite_Clone _ _ (by omega)).mono ?_; rintro e w' ⟨rfl, hb⟩)
  go_ret
  exact ⟨rfl, hb⟩
end Go.Proofs.YtoagcaldclljgaaDoor
