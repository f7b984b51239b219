/-
  SumsBurst: up to 32 bits that stand in a row, changed, are seen.
-/
import Derived.Test.YtoagcaldclljgaaDoorTellLaw
import Derived.Test.YtoagcaldclljgaaDoorBackLaw
namespace Go.Proofs.YtoagcaldclljgaaDoor
open Go.RowKit Go.Lib
open Crc (W)
/-- Block g holds these bytes, that may be written. -/
structure HasB (w : World) (g : Nat) (l : List UInt8) : Prop where
  cell : ∀ j x, l[j]? = some x → w.cell? ⟨g, j, none⟩ = some (.int .u8 ((x.toNat : Nat) : Int))
  free : ∀ j, j < l.length → w.frozen? ⟨g, j, none⟩ = false
theorem bytes_of (s : ByteArray) (w : World) : ∃ cap w', (convert 9 34 (.string s)).run Tryd.prog w = .ok (.slice (some ⟨w.heap.size, 0, none⟩) s.size cap) w' ∧ HasB w' w.heap.size s.data.toList ∧ Below w.heap.size w w' := by
  refine ⟨_, _, run_bytes_of_string w 9 34 5 s Tryd.underlying9 Tryd.underlying34 Tryd.underlying5, ⟨fun j x hj => ?_, fun j hj => ?_⟩, ((Below.refl _ _).drew).alloc (Nat.le_refl _) _⟩
  · have hl : j < s.data.size := by have := (List.getElem?_eq_some_iff.1 hj).1; simpa using this
    have := World.cell?_alloc_mark w.drew (bytesRow s (grownCap w s.size 0 5)) 5 ((bytesRow s (grownCap w s.size 0 5)).size, (bytesRow s (grownCap w s.size 0 5)).size + 1) j
    have e : w.drew.heap.size = w.heap.size := rfl
    rw [e] at this
    rw [this, bytesRow_at _ _ _ hl]
    rw [Array.getElem?_toList, Array.getElem?_eq_getElem hl] at hj
    cases hj; rfl
  · have hl : j < s.data.size := by simpa using hj
    have := World.frozen?_alloc_mark w.drew (bytesRow s (grownCap w s.size 0 5)) 5 (bytesRow s (grownCap w s.size 0 5)).size ((bytesRow s (grownCap w s.size 0 5)).size + 1) j
    have e : w.drew.heap.size = w.heap.size := rfl
    rw [e] at this
    rw [this, decide_eq_false, Bool.false_and]
    have : (bytesRow s (grownCap w s.size 0 5)).size = s.data.size + (grownCap w s.size 0 5 - s.size) := by simp [bytesRow]
    omega
theorem bit_test (n k : Nat) : (((n : Int) / 2 ^ k).tmod 2 == 1) = n.testBit k := by
  have e : ((n : Int) / 2 ^ k) = ((n / 2 ^ k : Nat) : Int) := by simp
  rw [e, Nat.testBit_eq_decide_div_mod_eq]
  generalize n / 2 ^ k = q
  rw [Int.tmod_eq_emod_of_nonneg (by omega)]
  by_cases h : q % 2 = 1
  · rw [decide_eq_true h, beq_iff_eq]; omega
  · rw [decide_eq_false h, beq_eq_false_iff_ne]; omega
theorem mask_ok : ∀ j, j < 8 → (128 : Int) / (2 : Int) ^ j = (((128 >>> UInt8.ofNat j : UInt8).toNat : Nat) : Int) := by decide
theorem turn_ok (x : UInt8) (q : Nat) : bits .xor .u8 ((x.toNat : Nat) : Int) ((128 : Int) / (2 : Int) ^ (q % 8)) = (((x ^^^ (128 >>> UInt8.ofNat (q % 8))).toNat : Nat) : Int) := by
  rw [mask_ok _ (Nat.mod_lt _ (by omega)), u8_xor_nat _ _ (UInt8.toNat_lt _) (UInt8.toNat_lt _), UInt8.toNat_xor]
theorem HasB.turn {w : World} {g : Nat} {l : List UInt8} (h : HasB w g l) {q : Nat} {x : UInt8} (hx : l[q / 8]? = some x) :
    HasB (w.setCell ⟨g, q / 8, none⟩ (.int .u8 (((x ^^^ (128 >>> UInt8.ofNat (q % 8))).toNat : Nat) : Int))) g (Crc.flip l q) := by
  refine ⟨fun j y hj => ?_, fun j hj => ?_⟩
  · unfold Crc.flip at hj
    rw [List.getElem?_modify] at hj
    by_cases e : q / 8 = j
    · subst e
      rw [hx] at hj
      have hj2 : x ^^^ (128 >>> UInt8.ofNat (q % 8)) = y := by simpa using hj
      rw [← hj2]
      exact World.cell?_setCell_same _ _ _ (h.cell _ _ hx)
    · rw [World.cell?_setCell_other]
      · exact h.cell j y (by simpa [e] using hj)
      · intro e2; exact e (congrArg Addr.off e2)
  · rw [World.frozen?_setCell]
    exact h.free j (by rwa [Crc.flip_length] at hj)
theorem string_of {w : World} {g : Nat} {l : List UInt8} (h : HasB w g l) {L : Nat} (hL : l.length = L) (cap : Nat) :
    (convert 34 9 (.slice (some ⟨g, 0, none⟩) L cap)).run Tryd.prog w = .ok (.string (ofL l)) w := by
  subst hL
  refine run_convert_bytes_back w 34 9 5 ⟨g, 0, none⟩ cap l Tryd.underlying34 Tryd.underlying5 Tryd.underlying9 ?_
  intro j hj
  have hp : (⟨g, 0, none⟩ : Addr).add j = ⟨g, j, none⟩ := by unfold Addr.add; split <;> simp_all
  rw [hp]
  exact h.cell j _ (List.getElem?_eq_getElem hj)
theorem burst_no {s : ByteArray} {p b : Nat} (hp : p + 32 ≤ 8 * (sealS s).data.toList.length) (hb : b < 4294967296) (h : openB (ofL (Crc.flips (sealS s).data.toList p b 32)) = true) : b = 0 := by
  have h1 := open_yes h
  have h2 : Crc.sum (sealS s).data.toList = 0 := by rw [seal_data]; exact Crc.sum_seal _
  refine Crc.burst_seen _ p b hp hb h2 ?_
  have h3 := congrArg (fun z : ByteArray => z.data.toList) h1
  simp only [seal_data] at h3
  have h4 : (ofL (Crc.flips (sealS s).data.toList p b 32)).data.toList = Crc.flips (sealS s).data.toList p b 32 := by simp [ofL]
  rw [seal_data s] at h4
  rw [h4] at h3
  rw [seal_data s, ← h3]
  exact Crc.sum_seal _
theorem flips_no {dl : List UInt8} {p b k : Nat} (h : b.testBit k = false) : Crc.flips dl p b (k + 1) = Crc.flips dl p b k := by
  simp [Crc.flips, h]
theorem flips_yes {dl : List UInt8} {p b k : Nat} (h : b.testBit k = true) : Crc.flips dl p b (k + 1) = Crc.flip (Crc.flips dl p b k) (p + k) := by
  simp [Crc.flips, h]
set_option maxRecDepth 100000 in
set_option maxHeartbeats 4000000 in
theorem burst_walk (s : ByteArray) (at' n : Int) (w : World) (ht : HasTab w) (_hs : s.size ≤ maxLen) (ha : (Lit.int .u16 at').wf = true) (hn : (Lit.int .u32 n).wf = true) :
    Calls Tryd.prog 6 #[.string s, .int .u16 at', .int .u32 n] w fun e w' => e = .returned (.bool true) ∧ Below w.heap.size w w' := by
  obtain ⟨u, rfl⟩ := u32_word hn
  clear _hs hn
  by_cases h1 : s.size ≤ 1000
  · have hs : s.size ≤ 1000000 := by omega
    have d1 : decide ((1000 : Int) < (s.size : Int)) = false := decide_eq_false (by omega)
    have hz := seal_size s
    obtain ⟨ss, hss⟩ : ∃ x, sealS s = x := ⟨_, rfl⟩
    rw [hss] at hz
    have HS := Lib.hid hss
    clear hss
    obtain ⟨L, hL⟩ : ∃ L, ss.size = L := ⟨_, rfl⟩
    have hl1 : 4 ≤ L := by omega
    have hl2 : L ≤ 1004 := by omega
    clear hz
    have ha2 : 0 ≤ at' ∧ at' ≤ 65535 := by
      simp only [Lit.wf, Bool.and_eq_true, decide_eq_true_eq] at ha
      exact ha
    have hwa : wrap64 at' = at' := by unfold wrap64; omega
    obtain ⟨p, hp, hpl⟩ : ∃ p : Nat, at'.tmod (8 * (L : Int) - 31) = (p : Int) ∧ p + 32 ≤ 8 * L := by
      refine ⟨(at' % (8 * (L : Int) - 31)).toNat, ?_, ?_⟩
      · rw [Int.tmod_eq_emod_of_nonneg ha2.1, Int.toNat_of_nonneg (Int.emod_nonneg _ (by omega))]
      · have := Int.emod_lt_of_pos at' (show (0 : Int) < 8 * (L : Int) - 31 by omega)
        have := Int.emod_nonneg at' (show 8 * (L : Int) - 31 ≠ 0 by omega)
        omega
    clear ha ha2
    go_enter Tryd.func6, Tryd.ntmps6
    go_wp2_with fail
    refine (awake_any _ ht).mono ?_
    rintro e w1 ⟨rfl, b1⟩
    go_wp2_with fail
    refine (seal_any s _ (ht.below b1) hs).mono ?_
    rintro e w2 ⟨rfl, c2⟩
    rw [HS.out]
    have b2 := step_b b1 c2
    clear c2 b1
    obtain ⟨cap, w3, hrun, hB, c3⟩ := bytes_of ss w2
    have b3 := step_b b2 c3
    have d4 : decide ((L : Int) < 4) = false := decide_eq_false (by omega)
    have g4 : ¬ (L : Int) < 4 := by omega
    have g5 : ¬ (8 * (L : Int) - 31 = 0) := by omega
    go_wp2_with fail
    have hdl : ss.data.toList.length = L := by simpa using hL
    obtain ⟨dl, hdd⟩ : ∃ dl, ss.data.toList = dl := ⟨_, rfl⟩
    rw [hdd] at hdl hB
    go_loopw [10] (fun i w' => ∃ k : Nat, k ≤ 32 ∧ i = .int .i64 k ∧ HasB w' w2.heap.size (Crc.flips dl p u.toNat k) ∧ Below w2.heap.size w2 w') (fun i _ => 32 - (RowKit.intOf i).toNat)
    case atStart => exact ⟨0, by omega, rfl, hB, c3⟩
    case round =>
      obtain ⟨k, hk, rfl, hBk, ck⟩ := hrel
      have HBk := Lib.hid hBk
      clear hBk hB
      by_cases hk32 : k < 32
      · have hbit := bit_test u.toNat k
        cases htb : u.toNat.testBit k with
        | true =>
          rw [htb] at hbit
          have hql : (p + k) / 8 < dl.length := by omega
          obtain ⟨x, hx⟩ : ∃ x, (Crc.flips dl p u.toNat k)[(p + k) / 8]? = some x := ⟨_, List.getElem?_eq_getElem (by rw [Crc.flips_length]; omega)⟩
          have hcell := HBk.out.cell _ _ hx
          have hfree := HBk.out.free ((p + k) / 8) (by rw [Crc.flips_length]; omega)
          have Htb := Lib.hid htb
          have hBt := HBk.out.turn hx
          have hturn := turn_ok x (p + k)
          obtain ⟨y, hy⟩ : ∃ y, x ^^^ (128 >>> UInt8.ofNat ((p + k) % 8)) = y := ⟨_, rfl⟩
          rw [hy] at hBt hturn
          have HBt := Lib.hid hBt
          clear hBt hy
          clear htb
          go_wp2_with fail
          go_roundw
          case rel => exact ⟨k + 1, by omega, by go_num, by rw [flips_yes Htb.out]; exact HBt.out, ck.setCell (Nat.le_refl _) _⟩
          case measure => simp [RowKit.intOf]; omega
        | false =>
          rw [htb] at hbit
          have Htb := Lib.hid htb
          clear htb
          go_wp2_with fail
          go_roundw
          case rel => exact ⟨k + 1, by omega, by go_num, by rw [flips_no Htb.out]; exact HBk.out, ck⟩
          case measure => simp [RowKit.intOf]; omega
      · have e : k = 32 := by omega
        subst e
        have hconv := string_of HBk.out (L := L) (by rw [Crc.flips_length]; exact hdl) cap
        have bk := step_b b2 ck
        by_cases hu : u.toNat = 0
        · have d0 : ((u.toNat : Int) == 0) = true := by rw [hu]; rfl
          have hfs : ofL (Crc.flips dl p u.toNat 32) = sealS s := by rw [hu, Crc.flips_none, ← hdd, HS.out]; rfl
          rw [hfs] at hconv
          clear hu hfs
          go_wp2_with fail
          refine (open_seal s _ (ht.below bk) (by omega)).mono ?_
          rintro e w5 ⟨rfl, c5⟩
          have b5 := step_b bk c5
          go_wp2
          go_ret
          exact ⟨rfl, b5⟩
        · have d0 : ((u.toNat : Int) == 0) = false := by rw [beq_eq_false_iff_ne]; omega
          obtain ⟨fs, hfs⟩ : ∃ fs, ofL (Crc.flips dl p u.toNat 32) = fs := ⟨_, rfl⟩
          have hfl : fs.size ≤ 1000000 := by
            have : (ofL (Crc.flips dl p u.toNat 32)).size = (Crc.flips dl p u.toNat 32).length := rfl
            rw [← hfs, this, Crc.flips_length]; omega
          have hno : openB fs = false := by
            cases hb : openB fs with
            | false => rfl
            | true =>
              rw [← hfs, ← hdd, ← HS.out] at hb
              exact absurd (burst_no (by rw [HS.out, hdd]; omega) u.isLt hb) hu
          have HN := Lib.hid hno
          have HY := Lib.hid (open_no hno)
          rw [hfs] at hconv
          clear hu hfs hno
          go_wp2_with fail
          refine (open_any fs _ (ht.below bk) hfl).mono ?_
          rintro e w5 ⟨rfl, c5⟩
          rw [HN.out, HY.out]
          have b5 := step_b bk c5
          go_wp2
          go_ret
          exact ⟨rfl, b5⟩
  · have d1 : decide ((1000 : Int) < (s.size : Int)) = true := decide_eq_true (by omega)
    clear h1
    go_enter Tryd.func6, Tryd.ntmps6
    go_wp2_with fail
    refine (awake_any _ ht).mono ?_
    rintro e w1 ⟨rfl, b1⟩
    go_wp2
    go_ret
    exact ⟨rfl, b1⟩
end Go.Proofs.YtoagcaldclljgaaDoor
