/-
  SumsThree: of three texts of one length the sum of what is in one, or in all, is that of the sums.
-/
import Derived.Test.YtoagcaldclljgaaDoorBurstLaw
import Derived.OwnWalk
import Derived.Laws.BytesArg
import Derived.Deep.RegionHeld3
import Derived.Deep.AppendLies
import Derived.Deep.DeepCutAuto
namespace Go.Proofs.YtoagcaldclljgaaDoor
open Go.RowKit Go.Lib
open Crc (W)
def cellsB (l : List UInt8) : List Value := l.map fun x => .int .u8 ((x.toNat : Nat) : Int)
theorem cellsB_length (l : List UInt8) : (cellsB l).length = l.length := by simp [cellsB]
theorem cellsB_snoc (l : List UInt8) (x : UInt8) : cellsB (l ++ [x]) = cellsB l ++ [.int .u8 ((x.toNat : Nat) : Int)] := by simp [cellsB]
theorem infoB : (Tryd.prog.info? 5).map (fun i => (i.zero, i.size, i.bytes)) = some (some (.int .u8 0), 1, 1) := by kernel_rfl
/-- string(v), v a row of the call's own. -/
theorem string_own {w : World} {base : Nat} {v : Value} {n : Nat} {l : List UInt8} (h : w.ownsRow base 5 1 v n (cellsB l)) (w' : World) (hb : Below w.heap.size w w') :
    (convert 34 9 v).run Tryd.prog w' = .ok (.string (ofL l)) w' := by
  have hc : ∀ g, v.ownBlock = some g → ∀ j u, (cellsB l)[j]? = some u → w.cell? ((⟨g, 0, none⟩ : Addr).add j) = some u := fun g hg => h.cells hg
  have hlt := h.lt
  have hlen := h.1
  rw [cellsB_length, Nat.mul_one] at hlen
  obtain ⟨_, ⟨rfl, h0⟩ | ⟨g, cap, cur, rfl, hbs, hg, hcap, hm, hs, hx⟩⟩ := h
  · have : l = [] := List.eq_nil_of_length_eq_zero (by omega)
    subst this
    exact run_convert_bytes_nil w' 34 5 Tryd.underlying34 Tryd.underlying5 0 0 9 Tryd.underlying9
  · subst hlen
    refine run_convert_bytes_back w' 34 9 5 ⟨g, 0, none⟩ cap l Tryd.underlying34 Tryd.underlying5 Tryd.underlying9 ?_
    intro j hj
    have hp : (⟨g, 0, none⟩ : Addr).add j = ⟨g, j, none⟩ := by unfold Addr.add; split <;> simp_all
    rw [hp, hb.cell (p := ⟨g, j, none⟩) (hlt g rfl).2]
    have := hc g rfl j (.int .u8 ((l[j].toNat : Nat) : Int)) (by simp [cellsB, List.getElem?_eq_getElem hj])
    rwa [hp] at this
/-- What is in one of the first n bytes of three texts, or in all. -/
def xor3 (a b c : ByteArray) (n : Nat) : List UInt8 := List.zipWith (· ^^^ ·) (List.zipWith (· ^^^ ·) (a.data.toList.take n) (b.data.toList.take n)) (c.data.toList.take n)
theorem xor3_length {a b c : ByteArray} {n : Nat} (na : n ≤ a.size) (nb : n ≤ b.size) (nc : n ≤ c.size) : (xor3 a b c n).length = n := by
  have ea : a.data.size = a.size := rfl
  have eb : b.data.size = b.size := rfl
  have ec : c.data.size = c.size := rfl
  simp [xor3]; omega
theorem xor3_at {a b c : ByteArray} {n k : Nat} (na : n ≤ a.size) (nb : n ≤ b.size) (nc : n ≤ c.size) (hk : k < n) :
    (xor3 a b c n)[k]? = some (a[k]'(by omega) ^^^ b[k]'(by omega) ^^^ c[k]'(by omega)) := by
  unfold xor3
  rw [List.getElem?_zipWith, List.getElem?_zipWith, List.getElem?_take_of_lt hk, List.getElem?_take_of_lt hk, List.getElem?_take_of_lt hk, byte_at a k (by omega), byte_at b k (by omega), byte_at c k (by omega)]
theorem take_snoc {l : List UInt8} {k : Nat} {z : UInt8} (h : l[k]? = some z) : l.take (k + 1) = l.take k ++ [z] := by
  rw [List.take_add_one, h]; rfl
theorem sum_xor3 {a b c : ByteArray} {n : Nat} (na : n ≤ a.size) (nb : n ≤ b.size) (nc : n ≤ c.size) :
    Crc.sum (xor3 a b c n) = Crc.sum (a.data.toList.take n) ^^^ Crc.sum (b.data.toList.take n) ^^^ Crc.sum (c.data.toList.take n) := by
  have ea : a.data.size = a.size := rfl
  have eb : b.data.size = b.size := rfl
  have ec : c.data.size = c.size := rfl
  exact Crc.sum_three _ _ _ (by simp; omega) (by simp; omega)
set_option maxRecDepth 100000 in
set_option maxHeartbeats 4000000 in
theorem three_walk (a b c : ByteArray) (w : World) (ht : HasTab w) (_ha : a.size ≤ maxLen) (_hb : b.size ≤ maxLen) (_hc : c.size ≤ maxLen) :
    Calls Tryd.prog 7 #[.string a, .string b, .string c] w fun e w' => e = .returned (.bool true) ∧ Below w.heap.size w w' := by
  clear _ha _hb _hc
  obtain ⟨n, hn, na, nb, nc⟩ : ∃ n, n = min a.size (min b.size c.size) ∧ n ≤ a.size ∧ n ≤ b.size ∧ n ≤ c.size := ⟨_, rfl, by omega, by omega, by omega⟩
  go_enter Tryd.func7, Tryd.ntmps7
  go_wp2_with fail
  refine (awake_any _ ht).mono ?_
  rintro e w1 ⟨rfl, b1⟩
  go_upto_region 2 with fail
  go_cut [8] (fun s8 wx => s8 = .int .i64 n ∧ wx = w1)
  case first =>
    go_wp2_with fail
    all_goals (go_meet; exact ⟨by congr 1; omega, rfl⟩)
  case rest =>
    obtain ⟨rfl, rfl⟩ := hcut
    clear hn
    by_cases h1 : n ≤ 300
    · have d1 : decide ((300 : Int) < (n : Int)) = false := decide_eq_false (by omega)
      obtain ⟨i0, hi0, hz0, hz1, hz2⟩ := info_parts infoB
      obtain ⟨D, hD⟩ : ∃ D, xor3 a b c n = D := ⟨_, rfl⟩
      have hDl : D.length = n := by rw [← hD]; exact xor3_length na nb nc
      go_wp2_with fail
      go_loopw [9, 10] (fun v i w' => ∃ k : Nat, k ≤ n ∧ i = .int .i64 k ∧ w'.ownsRow wc.heap.size 5 1 v k (cellsB (D.take k)) ∧ Below wc.heap.size wc w') (fun _ i _ => n - (RowKit.intOf i).toNat)
      case atStart => exact ⟨0, Nat.zero_le _, rfl, ⟨rfl, .inl ⟨rfl, rfl⟩⟩, Below.refl _ _⟩
      case round =>
        obtain ⟨k, hk, rfl, hown, ck⟩ := hrel
        by_cases hkn : k < n
        · have ga : (k : Int) < (a.size : Int) := by omega
          have gb : (k : Int) < (b.size : Int) := by omega
          have gc : (k : Int) < (c.size : Int) := by omega
          have gkn : (k : Int) < (n : Int) := by omega
          have hsz := ck.size
          have hz := xor3_at na nb nc hkn
          obtain ⟨y, hy⟩ : ∃ y, a[k]'(by omega) ^^^ b[k]'(by omega) = y := ⟨_, rfl⟩
          obtain ⟨z, hzz⟩ : ∃ z, y ^^^ c[k]'(by omega) = z := ⟨_, rfl⟩
          rw [hy, hzz, hD] at hz
          have hx1 := u8_xor_nat _ _ (UInt8.toNat_lt (a[k]'(by omega))) (UInt8.toNat_lt (b[k]'(by omega)))
          rw [← UInt8.toNat_xor, hy] at hx1
          have hx2 := u8_xor_nat _ _ (UInt8.toNat_lt y) (UInt8.toNat_lt (c[k]'(by omega)))
          rw [← UInt8.toNat_xor, hzz] at hx2
          have Hz := Lib.hid hz
          clear hz hy hzz
          go_wp2_with fail
          go_region_held3 (fun _ => True) (trivial)
            ((refine step_append_lies _ (by rfl) _ _ _ (by rfl) wc.heap.size 5 i0 _ 1 1 Tryd.underlying34 hi0 hz0 hz1 hz2 rfl (by omega) _ k (cellsB (D.take k)) (by rfl) ((hown.alloc _).drew) ⟨wr.heap.size, 0, none⟩ 1 1 [.int .u8 ((z.toNat : Nat) : Int)] (by rfl) (by rfl) (World.news_of_block (cs := #[.int .u8 ((z.toNat : Nat) : Int)]) (t := 5) (fr := (0, 0)) (heap_alloc_new wr _)) (by simp [Value.oneCell']) (by omega) (by unfold maxLen; omega) (by omega) (by simp; omega) (wr.heap.size + 1) (by simp) ?_; intro gg cap w3 hown1 hgrow hat hlt))
          all_goals
            have hnew := take_snoc Hz.out
            go_wp2_with fail
            go_roundw
            case rel => exact ⟨k + 1, by omega, by go_num, by rw [hnew, cellsB_snoc]; exact hown1, ((ck.alloc hsz _).drew).grown hgrow (by simp; omega) (fun r hr => (hown.lt r hr).1)⟩
            case measure => simp [RowKit.intOf]; omega
        · have e : k = n := by omega
          subst e
          rw [← hDl, List.take_length] at hown
          have hconv := string_own hown
          have bk := step_b b1 ck
          clear b1 ck hown
          obtain ⟨ds, hds⟩ : ∃ ds, ofL D = ds := ⟨_, rfl⟩
          obtain ⟨pa, hpa⟩ : ∃ x, a.extract 0 k = x := ⟨_, rfl⟩
          obtain ⟨pb, hpb⟩ : ∃ x, b.extract 0 k = x := ⟨_, rfl⟩
          obtain ⟨pc, hpc⟩ : ∃ x, c.extract 0 k = x := ⟨_, rfl⟩
          obtain ⟨vd, hvd⟩ : ∃ x, Crc.sum D = x := ⟨_, rfl⟩
          obtain ⟨va, hva⟩ : ∃ x, Crc.sum (a.data.toList.take k) = x := ⟨_, rfl⟩
          obtain ⟨vb, hvb⟩ : ∃ x, Crc.sum (b.data.toList.take k) = x := ⟨_, rfl⟩
          obtain ⟨vc, hvc⟩ : ∃ x, Crc.sum (c.data.toList.take k) = x := ⟨_, rfl⟩
          have hsum := sum_xor3 (a := a) (b := b) (c := c) na nb nc
          rw [hD, hvd, hva, hvb, hvc] at hsum
          have Vd := Lib.hid (show Crc.sum (flatB [ds]) = vd by rw [flat1, ← hds]; simpa [ofL] using hvd)
          have Va := Lib.hid (show Crc.sum (flatB [pa]) = va by rw [flat1, ← hpa, ← hva]; simp)
          have Vb := Lib.hid (show Crc.sum (flatB [pb]) = vb by rw [flat1, ← hpb, ← hvb]; simp)
          have Vc := Lib.hid (show Crc.sum (flatB [pc]) = vc by rw [flat1, ← hpc, ← hvc]; simp)
          have Zd := Lib.hid (show ds.size ≤ 1000000 by rw [← hds]; show D.length ≤ 1000000; omega)
          have Za := Lib.hid (show pa.size ≤ 1000000 by rw [← hpa, ByteArray.size_extract]; omega)
          have Zb := Lib.hid (show pb.size ≤ 1000000 by rw [← hpb, ByteArray.size_extract]; omega)
          have Zc := Lib.hid (show pc.size ≤ 1000000 by rw [← hpc, ByteArray.size_extract]; omega)
          rw [hds] at hconv
          obtain ⟨vab, hvab⟩ : ∃ x, va ^^^ vb = x := ⟨_, rfl⟩
          have x1 := Crc.xor_word va vb
          rw [hvab] at x1 hsum
          have x2 := Crc.xor_word vab vc
          rw [← hsum] at x2
          have ga : (k : Int) ≤ (a.size : Int) := by omega
          have gb : (k : Int) ≤ (b.size : Int) := by omega
          have gc : (k : Int) ≤ (c.size : Int) := by omega
          clear hvd hva hvb hvc hsum hds hvab hD hDl
          have hconv2 : ∀ m : Later wr, (convert 34 9 u9).run Tryd.prog m.w = .ok (.string ds) m.w := fun m => hconv m.w m.below
          clear hconv
          have b1 := bk
          clear bk
          go_wp2_with fail
          refine wp_region_r (by kernel_rfl) (by kernel_rfl) ?_
          repeat (refine wpR_pure (fun K hK => ?_); go_simp; refine hK _ ?_; clear hK K)
          refine wpR_make (IsT [ds]) (IsT.stable _) (fun x n _ => ?_) (fun K hK => ?_)
          · unfold relOp; go_simp; simp only [relUpon]
            exact ⟨isT_new1 _ _ _, (Below.refl _ _).alloc (Nat.le_refl _) _⟩
          go_simp; refine hK _ ?_; clear hK K
          repeat (refine wpR_pure (fun K hK => ?_); go_simp; refine hK _ ?_; clear hK K)
          refine wpR_use (U vd) (fun x n hf => ?_) (fun K hK => ?_)
          · obtain ⟨a, c, e, h⟩ := fact_at hf 0 rfl (by kernel_rfl)
            go_simp
            go_at_call 11
            exact sum_of (l := [ds]) ((ht.below b1).below n.below) h (by simp) (sizes1 Zd.out) Vd.out
          go_simp; refine hK _ ?_; clear hK K
          repeat (refine wpR_pure (fun K hK => ?_); go_simp; refine hK _ ?_; clear hK K)
          refine wpR_make (IsT [pa]) (IsT.stable _) (fun x n _ => ?_) (fun K hK => ?_)
          · unfold relOp; go_simp; simp only [relUpon]
            exact ⟨isT_new1 _ _ _, (Below.refl _ _).alloc (Nat.le_refl _) _⟩
          go_simp; refine hK _ ?_; clear hK K
          repeat (refine wpR_pure (fun K hK => ?_); go_simp; refine hK _ ?_; clear hK K)
          refine wpR_use (U va) (fun x n hf => ?_) (fun K hK => ?_)
          · obtain ⟨a, c, e, h⟩ := fact_at hf 0 rfl (by kernel_rfl)
            go_simp
            go_at_call 11
            exact sum_of (l := [pa]) ((ht.below b1).below n.below) h (by simp) (sizes1 Za.out) Va.out
          go_simp; refine hK _ ?_; clear hK K
          repeat (refine wpR_pure (fun K hK => ?_); go_simp; refine hK _ ?_; clear hK K)
          refine wpR_make (IsT [pb]) (IsT.stable _) (fun x n _ => ?_) (fun K hK => ?_)
          · unfold relOp; go_simp; simp only [relUpon]
            exact ⟨isT_new1 _ _ _, (Below.refl _ _).alloc (Nat.le_refl _) _⟩
          go_simp; refine hK _ ?_; clear hK K
          repeat (refine wpR_pure (fun K hK => ?_); go_simp; refine hK _ ?_; clear hK K)
          refine wpR_use (U vb) (fun x n hf => ?_) (fun K hK => ?_)
          · obtain ⟨a, c, e, h⟩ := fact_at hf 0 rfl (by kernel_rfl)
            go_simp
            go_at_call 11
            exact sum_of (l := [pb]) ((ht.below b1).below n.below) h (by simp) (sizes1 Zb.out) Vb.out
          go_simp; refine hK _ ?_; clear hK K
          repeat (refine wpR_pure (fun K hK => ?_); go_simp; refine hK _ ?_; clear hK K)
          refine wpR_make (IsT [pc]) (IsT.stable _) (fun x n _ => ?_) (fun K hK => ?_)
          · unfold relOp; go_simp; simp only [relUpon]
            exact ⟨isT_new1 _ _ _, (Below.refl _ _).alloc (Nat.le_refl _) _⟩
          go_simp; refine hK _ ?_; clear hK K
          repeat (refine wpR_pure (fun K hK => ?_); go_simp; refine hK _ ?_; clear hK K)
          refine wpR_use (U vc) (fun x n hf => ?_) (fun K hK => ?_)
          · obtain ⟨a, c, e, h⟩ := fact_at hf 0 rfl (by kernel_rfl)
            go_simp
            go_at_call 11
            exact sum_of (l := [pc]) ((ht.below b1).below n.below) h (by simp) (sizes1 Zc.out) Vc.out
          go_simp; refine hK _ ?_; clear hK K
          repeat (refine wpR_pure (fun K hK => ?_); go_simp; refine hK _ ?_; clear hK K)
          refine wpR_nil (fun x n _ => ?_)
          have b2 := step_b b1 n.below
          generalize n.w = w2 at b2 ⊢
          clear b1
          go_wp2
          go_ret
          exact ⟨rfl, b2⟩
    · have d1 : decide ((300 : Int) < (n : Int)) = true := decide_eq_true (by omega)
      go_wp2
      go_ret
      exact ⟨rfl, b1⟩
end Go.Proofs.YtoagcaldclljgaaDoor
