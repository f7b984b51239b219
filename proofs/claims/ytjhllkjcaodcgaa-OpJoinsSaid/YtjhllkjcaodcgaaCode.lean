/-
  The contracts of package vlq: Size, lay, Put, Text, lead, Take, TakeText.
-/
import Derived.Test.YtjhllkjcaodcgaaRTake
import Derived.Test.YtjhllkjcaodcgaaBytesOwn
import Derived.Test.YtjhllkjcaodcgaaShelf
import Derived.Lib.BitFns
import Derived.Lib.ItoaNum
namespace Go.Proofs.Ytjhllkjcaodcgaa
open Go.RowKit Go.Lib
namespace Vlq
theorem size_of (n : Nat) (h : n < 9223372036854775808) : (one n).length = max ((Lib.bitLen n + 6) / 7) 1 := by
  have h64 : n < 2 ^ 64 := by omega
  have hb : n ≠ 0 → 1 ≤ Lib.bitLen n ∧ 2 ^ (Lib.bitLen n - 1) ≤ n ∧ n < 2 ^ Lib.bitLen n := fun h0 => bitLenAux_bounds 64 n h64 h0
  rw [one_len]
  by_cases h0 : n = 0
  · subst h0
    have : Lib.bitLen 0 = 0 := bitLenAux_zero 64
    rw [this, show 0 / 128 = 0 from rfl, high_zero]; rfl
  · obtain ⟨h1, h2, h3⟩ := hb h0
    obtain ⟨B, hB⟩ : ∃ B, Lib.bitLen n = B := ⟨_, rfl⟩
    rw [hB] at h1 h2 h3 ⊢
    obtain ⟨q, hq⟩ : ∃ q, (B + 6) / 7 = q := ⟨_, rfl⟩
    have e7 : ∀ k, (128 : Nat) ^ k = 2 ^ (7 * k) := fun k => by rw [Nat.pow_mul]
    have u1 : (high (n / 128)).length ≤ q - 1 := high_len _ _ (by
      have : n < 128 ^ q := Nat.lt_of_lt_of_le h3 (by rw [e7]; exact Nat.pow_le_pow_right (by omega) (by omega))
      rw [Nat.div_lt_iff_lt_mul (by omega), ← Nat.pow_succ, Nat.succ_eq_add_one, show q - 1 + 1 = q by omega]; exact this)
    have u2 : B - 1 < 7 * ((high (n / 128)).length + 1) := by
      have h5 : n < 128 ^ ((high (n / 128)).length + 1) := by
        rw [Nat.pow_succ, ← Nat.div_lt_iff_lt_mul (by omega)]; exact high_lt _
      rw [e7] at h5
      exact (Nat.pow_lt_pow_iff_right (by omega)).1 (Nat.lt_of_le_of_lt h2 h5)
    omega
theorem bitLen_few (n : Nat) (h : n < 9223372036854775808) : Lib.bitLen n ≤ 63 := by
  by_cases h0 : n = 0
  · subst h0; rw [show Lib.bitLen 0 = 0 from bitLenAux_zero 64]; omega
  · have h1 := (bitLenAux_bounds 64 n (by omega) h0).2.1
    have h2 : 2 ^ (Lib.bitLen n - 1) < 2 ^ 63 := Nat.lt_of_le_of_lt h1 (by omega)
    have := (Nat.pow_lt_pow_iff_right (by omega)).1 h2
    omega
theorem high_at (n : Nat) : ∀ i, i < (high n).length → (high n)[i]? = some (UInt8.ofNat (n / 128 ^ ((high n).length - 1 - i) % 128 + 128)) := by
  induction n using Nat.strongRecOn with
  | _ n ih =>
    intro i hi
    by_cases h : n = 0
    · subst h; rw [high_zero] at hi; simp at hi
    · have hl : (high n).length = (high (n / 128)).length + 1 := by rw [high_pos h]; simp
      rw [hl] at hi ⊢
      rw [high_pos h]
      by_cases e : i < (high (n / 128)).length
      · rw [List.getElem?_append_left e, ih _ (by omega) i e, Nat.div_div_eq_div_mul, ← Nat.pow_succ']
        rw [show ((high (n / 128)).length - 1 - i).succ = (high (n / 128)).length + 1 - 1 - i by omega]
      · obtain rfl : i = (high (n / 128)).length := by omega
        rw [List.getElem?_append_right (Nat.le_refl _), Nat.sub_self]
        simp
theorem high_head (n : Nat) : ∀ x, (high n)[0]? = some x → x.toNat ≠ 128 := by
  induction n using Nat.strongRecOn with
  | _ n ih =>
    intro x hx
    by_cases h : n = 0
    · subst h; rw [high_zero] at hx; cases hx
    · rw [high_pos h] at hx
      by_cases h1 : n / 128 = 0
      · rw [h1, high_zero] at hx
        simp only [List.nil_append, List.getElem?_cons_zero, Option.some.injEq] at hx
        rw [← hx, up_toNat]
        omega
      · have hl : 0 < (high (n / 128)).length := by rw [high_pos h1]; simp
        rw [List.getElem?_append_left hl] at hx
        exact ih _ (by omega) x hx
theorem one_head {n : Nat} {r l : List UInt8} {x : UInt8} (h : l = one n ++ r) (hx : l[0]? = some x) : x.toNat ≠ 128 := by
  subst h
  by_cases h1 : n / 128 = 0
  · rw [one_append, h1, high_zero] at hx
    simp at hx
    rw [← hx, low_toNat]; omega
  · have hl : 0 < (high (n / 128)).length := by rw [high_pos h1]; simp
    rw [one_append, List.getElem?_append_left hl] at hx
    exact high_head _ x hx
theorem high_val : ∀ (k : Nat) (t : List UInt8), t.length = k → (∀ x ∈ t, 128 ≤ x.toNat) → (∀ x, t[0]? = some x → x.toNat ≠ 128) → (t ≠ [] → val t ≠ 0) ∧ high (val t) = t := by
  intro k
  induction k with
  | zero =>
    intro t ht _ _
    obtain rfl : t = [] := List.eq_nil_of_length_eq_zero ht
    exact ⟨fun h => absurd rfl h, high_zero⟩
  | succ k ih =>
    intro t ht hb h0
    obtain ⟨u, x, rfl⟩ : ∃ u x, t = u ++ [x] := by
      have hne : t ≠ [] := by intro e; subst e; simp at ht
      exact ⟨t.dropLast, t.getLast hne, (List.dropLast_concat_getLast hne).symm⟩
    have hu : u.length = k := by simpa using ht
    have hx1 := hb x (by simp)
    have hx2 := UInt8.toNat_lt x
    obtain ⟨i1, i2⟩ := ih u hu (fun y hy => hb y (by simp [hy])) (fun y hy => h0 y (by
      have hl : 0 < u.length := (List.getElem?_eq_some_iff.1 hy).1
      rw [List.getElem?_append_left hl]; exact hy))
    have hne : val (u ++ [x]) ≠ 0 := by
      rw [val_snoc]
      by_cases hk : u = []
      · subst hk
        have := h0 x (by simp)
        have hv : val [] = 0 := rfl
        omega
      · have := i1 hk
        omega
    refine ⟨fun _ => hne, ?_⟩
    rw [high_pos hne, val_snoc]
    have e1 : (val u * 128 + x.toNat % 128) / 128 = val u := by omega
    have e2 : (val u * 128 + x.toNat % 128) % 128 + 128 = x.toNat := by omega
    rw [e1, e2, i2]
    simp
theorem one_val {t : List UInt8} {x : UInt8} (hb : ∀ y ∈ t, 128 ≤ y.toNat) (h0 : ∀ y, t[0]? = some y → y.toNat ≠ 128) (hx : x.toNat < 128) : one (val t * 128 + x.toNat) = t ++ [x] := by
  unfold one
  have e1 : (val t * 128 + x.toNat) / 128 = val t := by omega
  have e2 : (val t * 128 + x.toNat) % 128 = x.toNat := by omega
  rw [e1, e2, (high_val _ t rfl hb h0).2]
  simp
end Vlq
set_option maxHeartbeats 2000000 in
theorem size_any (n : Int) (hl : -9223372036854775808 ≤ n) (hn : n ≤ 9223372036854775807) (w : World) :
    Calls Try.prog 24 #[.int .i64 n] w fun e w' => e = .returned (.int .i64 (sizeI n)) ∧ Below w.heap.size w w' := by
  by_cases h : n < 0
  · have e : sizeI n = 0 := by unfold sizeI; rw [if_pos h]
    rw [e]
    go_enter Try.func24, Try.ntmps24
    go_wp2
    go_ret
    exact ⟨rfl, Below.refl _ _⟩
  · obtain ⟨k, rfl⟩ : ∃ k : Nat, n = (k : Int) := ⟨n.toNat, by omega⟩
    have e : sizeI (k : Int) = ((Vlq.one k).length : Nat) := by unfold sizeI; rw [if_neg h, Int.toNat_natCast]
    have hz := Vlq.size_of k (by omega)
    rw [e, hz]
    have hbl := Vlq.bitLen_few k (by omega)
    obtain ⟨B, hB⟩ : ∃ B, Lib.bitLen k = B := ⟨_, rfl⟩
    have HB := Lib.hid hB
    rw [hB] at hbl ⊢
    clear e hz hB
    go_enter Try.func24, Try.ntmps24
    go_wp2_with (go_at_call 43; refine (Try.bits_Len _ _ (by omega) (by omega)).mono ?_; rintro e w' ⟨rfl, rfl⟩; try rw [Int.toNat_natCast]; rw [HB.out])
    go_ret
    refine ⟨?_, Below.refl _ _⟩
    show Ending.returned (Value.int .i64 (max (((B : Int) + 7 - 1) / 7) 1)) = _
    congr 2; omega
def LayPost (base : Nat) (l : List UInt8) (e : Ending) (w w' : World) : Prop := ∃ v, e = .returned v ∧ OwnB w' base v l ∧ Below base w w'
theorem lay_digit (n k : Nat) (hk : k < (Vlq.high (n / 128)).length) :
    ∃ x : UInt8, (Vlq.high (n / 128))[k]? = some x ∧ (n : Int) / 2 ^ (7 * ((Vlq.high (n / 128)).length - k)) % 128 + 128 = ((x.toNat : Nat) : Int) := by
  refine ⟨_, Vlq.high_at _ k hk, ?_⟩
  rw [Vlq.up_toNat, Nat.div_div_eq_div_mul, ← Nat.pow_succ', show ((Vlq.high (n / 128)).length - 1 - k).succ = (Vlq.high (n / 128)).length - k by omega]
  have e7 : (128 : Nat) ^ ((Vlq.high (n / 128)).length - k) = 2 ^ (7 * ((Vlq.high (n / 128)).length - k)) := by rw [Nat.pow_mul]
  rw [e7]
  have : ((2 : Int) ^ (7 * ((Vlq.high (n / 128)).length - k))) = ((2 ^ (7 * ((Vlq.high (n / 128)).length - k)) : Nat) : Int) := by push_cast; rfl
  rw [this]
  omega
set_option maxHeartbeats 2000000 in
theorem lay_any (base : Nat) (v : Value) (l : List UInt8) (n : Nat) (w : World) (hv : OwnB w base v l) (hl : l.length ≤ 10000000) (hn : n < 9223372036854775808) (hbase : base ≤ w.heap.size) :
    Calls Try.prog 54 #[v, .int .i64 n] w fun e w' => LayPost base (l ++ Vlq.one n) e w w' := by
  obtain ⟨H, hH⟩ : ∃ H, Vlq.high (n / 128) = H := ⟨_, rfl⟩
  have hdig := fun k hk => lay_digit n k hk
  have hone : Vlq.one n = H ++ [UInt8.ofNat (n % 128)] := by unfold Vlq.one; rw [hH]
  have hH8 := Vlq.high_len (n / 128) 8 (by have : (128 : Nat) ^ 8 = 72057594037927936 := by decide
                                           omega)
  rw [hH] at hdig hH8
  obtain ⟨L, hL⟩ : ∃ L, H.length = L := ⟨_, rfl⟩
  rw [hL] at hdig hH8
  have hsz : sizeI n = (L : Int) + 1 := by
    unfold sizeI
    rw [if_neg (by omega), Int.toNat_natCast, hone, List.length_append, hL]; rfl
  obtain ⟨z, hz⟩ : ∃ z, UInt8.ofNat (n % 128) = z := ⟨_, rfl⟩
  have hzn := Vlq.low_toNat n
  rw [hz] at hzn hone
  have hz2 : (n : Int) % 128 = ((z.toNat : Nat) : Int) := by omega
  rw [hone]
  have Hdig := Lib.hid hdig
  have HL := Lib.hid hL
  have Hsz := Lib.hid hsz
  have Hv := Lib.hid hv
  clear hdig hL hsz hone hz hzn hH hv
  obtain ⟨a, c, rfl⟩ := Hv.out.shape
  go_enter Try.func54, Try.ntmps54
  go_wp2_with fail
  refine (size_any n (by omega) (by omega) _).mono ?_
  rintro e w1 ⟨rfl, b1⟩
  rw [Hsz.out]
  have Hv1 := Lib.hid (Hv.out.below b1)
  have c1 := b1.mono hbase
  go_wp2_with fail
  go_loopw [0, 11] (fun u i w' => ∃ k : Nat, k ≤ L ∧ i = .int .i64 k ∧ OwnB w' base u (l ++ H.take k) ∧ Below base w w') (fun _ i _ => L - (RowKit.intOf i).toNat)
  case atStart => exact ⟨0, Nat.zero_le _, rfl, by rw [List.take_zero, List.append_nil]; exact Hv1.out, c1⟩
  case round =>
    obtain ⟨k, hk, rfl, hown, ck⟩ := hrel
    have Ho := Lib.hid hown
    have hbw := ck.size
    clear hown
    by_cases hkl : k < L
    · obtain ⟨x, hx, hxv⟩ := Hdig.out k hkl
      have Htk := Lib.hid (show H.take (k + 1) = H.take k ++ [x] by rw [List.take_add_one, hx]; rfl)
      clear hx
      have gk : (k : Int) < (L : Int) := by omega
      have hlen : (l ++ H.take k).length ≤ 20000000 := by rw [List.length_append, List.length_take]; omega
      have hxt : (128 + ((n : Int) / 2 ^ (7 * (L - k))).tmod 128) % 256 = ((x.toNat : Nat) : Int) := by
        have h0 : 0 ≤ (n : Int) / 2 ^ (7 * (L - k)) := Int.ediv_nonneg (by omega) (Int.pow_nonneg (by omega))
        rw [Int.tmod_eq_emod_of_nonneg h0]
        have := UInt8.toNat_lt x
        omega
      have Hxt := Lib.hid hxt
      clear hxv hxt
      have q1 := ((Below.refl wr.heap.size wr).alloc (Nat.le_refl _) (.cells #[Value.int .u8 ((128 + ((n : Int) / 2 ^ (7 * (L - k))).tmod 128) % 256)] 5))
      go_wp2_with (at_builtin; refine wpList_append_byte rfl _ _ rfl base _ _ rfl (Ho.out.below ((Below.refl _ _).alloc (Nat.le_refl _) _)) _ _ x rfl ?c1 (by omega) ?c3 ?_)
      case c1 => rw [World.cell?_alloc_at _ _ _ _ rfl, Hxt.out]; rfl
      case c3 => have := q1.size; omega
      intro v' w' ho hb
      have ck2 : Below base w w' := (ck.trans (q1.mono (by omega))).trans hb
      go_wp2_with fail
      go_roundw
      case rel => exact ⟨k + 1, by omega, by go_num, by rw [Htk.out]; exact ho, ck2⟩
      case measure => simp [RowKit.intOf]; omega
    · obtain rfl : k = L := by omega
      have Hfin := Lib.hid (show OwnB wr base u0 (l ++ H) by have := Ho.out; rwa [List.take_of_length_le (by rw [HL.out]; exact Nat.le_refl _)] at this)
      clear Ho
      have hlen : (l ++ H).length ≤ 20000000 := by rw [List.length_append, HL.out]; omega
      have hzt : ((n : Int).tmod 128) % 256 = ((z.toNat : Nat) : Int) := by
        rw [Int.tmod_eq_emod_of_nonneg (by omega)]
        omega
      have Hzt := Lib.hid hzt
      have q1 := ((Below.refl wr.heap.size wr).alloc (Nat.le_refl _) (.cells #[Value.int .u8 ((z.toNat : Nat) : Int)] 5))
      clear hzt
      go_wp2_with (at_builtin; refine wpList_append_byte rfl _ _ rfl base _ _ rfl (Hfin.out.below ((Below.refl _ _).alloc (Nat.le_refl _) _)) _ _ z rfl ?c1 (by omega) ?c3 ?_)
      case c1 => rw [World.cell?_alloc_at _ _ _ _ rfl]; rfl
      case c3 => have := q1.size; omega
      intro v' w' ho hb
      have ck2 : Below base w w' := (ck.trans (q1.mono (by omega))).trans hb
      go_wp2_with fail
      go_ret
      exact ⟨_, rfl, ho, ck2⟩
theorem ones_few {l : List Int} (h : l.length ≤ 1000000) (hi : ∀ x ∈ l, -9223372036854775808 ≤ x ∧ x ≤ 9223372036854775807) (k : Nat) : (Vlq.ones (l.take k)).length ≤ 9000000 := by
  have := take_le (fun x hx => (hi x hx).2) k
  omega
set_option maxHeartbeats 2000000 in
theorem put_any (b : ByteArray) (a : Option Addr) (c : Nat) (l : List Int) (w : World) (hb : b.size ≤ 1000000) (h : IsI w a c l) (hl : l.length ≤ 1000000) (hi : ∀ x ∈ l, -9223372036854775808 ≤ x ∧ x ≤ 9223372036854775807) :
    Calls Try.prog 45 #[.string b, .slice a l.length c] w fun e w' => e = .returned (.tuple #[.string (putS b l), .int .i64 (putE l)]) ∧ Below w.heap.size w w' := by
  obtain ⟨v0, w1, hconv, ho, b1⟩ := bytes_own b w (by omega)
  have Ho := Lib.hid ho
  have hbl : b.data.toList.length ≤ 1000000 := by simpa using hb
  have hw := b1.size
  clear ho
  go_enter Try.func45, Try.ntmps45
  go_wp2
  go_loopw [6, 13] (fun u i w' => ∃ k : Nat, k ≤ l.length ∧ i = .int .i64 k ∧ OwnB w' w.heap.size u (b.data.toList ++ Vlq.ones (l.take k)) ∧ negB (l.take k) = false ∧ Below w.heap.size w w') (fun _ i _ => l.length - (RowKit.intOf i).toNat)
  case atStart => exact ⟨0, Nat.zero_le _, rfl, by rw [List.take_zero]; simpa [Vlq.ones] using Ho.out, rfl, b1⟩
  case round =>
    obtain ⟨k, hk, rfl, hown, hng, ck⟩ := hrel
    have Hng := Lib.hid hng
    have Hown := Lib.hid hown
    have hsz := ones_few hl hi k
    have hws := ck.size
    clear hng hown
    by_cases hkl : k < l.length
    · obtain ⟨g, o, rfl, hlt, hc⟩ := h.2 (fun e => by rw [e] at hkl; simp at hkl)
      obtain ⟨x, hx⟩ : ∃ x, l[k]? = some x := ⟨l[k], List.getElem?_eq_getElem hkl⟩
      have hcell : wr.cell? ⟨g, o + k, none⟩ = some (.int .i64 x) := by rw [ck.cell (p := ⟨g, o + k, none⟩) hlt]; exact hc k x hx
      have hxl := hi x (List.mem_of_getElem? hx)
      have Hx := Lib.hid hx
      clear hx hc
      by_cases hx0 : x < 0
      · have Hn := Lib.hid (neg_at Hx.out hx0)
        go_wp2
        go_ret2
        exact ⟨by unfold putS putE; rw [Hn.out]; rfl, ck⟩
      · have Hn := Lib.hid (neg_take Hx.out)
        have Hon := Lib.hid (ones_take Hx.out)
        obtain ⟨m, rfl⟩ : ∃ m : Nat, x = (m : Int) := ⟨x.toNat, by omega⟩
        have Hi := Lib.hid hi
        clear hi
        go_wp2_with fail
        refine (lay_any w.heap.size _ _ m _ Hown.out (by rw [List.length_append]; omega) (by omega) (by omega)).mono ?_
        rintro e w2 ⟨v2, rfl, ho2, c2⟩
        have b2 := ck.trans c2
        go_wp2_with fail
        go_roundw
        case rel => exact ⟨k + 1, by omega, by go_num, by rw [Hon.out, ← List.append_assoc]; exact ho2, by rw [Hn.out, Hng.out]; simp, b2⟩
        case measure => simp [RowKit.intOf]; omega
    · have e : k = l.length := by omega
      subst e
      rw [List.take_length] at Hng Hown
      have hstr := string_own Hown.out
      go_wp2
      go_ret2
      refine ⟨?_, ck⟩
      unfold putS putE
      rw [Hng.out, ← ofL_append, ofL_data]; rfl
set_option maxHeartbeats 2000000 in
theorem text_any (b t : ByteArray) (w : World) (hb : b.size ≤ 1000000) (ht : t.size ≤ 1000000) :
    Calls Try.prog 83 #[.string b, .string t] w fun e w' => e = .returned (.string (b ++ ofL (Vlq.one t.size) ++ t)) ∧ Below w.heap.size w w' := by
  obtain ⟨v0, w1, hconv, ho, b1⟩ := bytes_own b w (by omega)
  have Ho := Lib.hid ho
  have hbl : b.data.toList.length ≤ 1000000 := by simpa using hb
  have hw := b1.size
  have h9 := Vlq.one_nine (n := t.size) (by omega)
  clear ho
  go_enter Try.func83, Try.ntmps83
  go_wp2_with fail
  refine (lay_any w.heap.size _ _ t.size _ Ho.out (by omega) (by omega) (by omega)).mono ?_
  rintro e w2 ⟨v2, rfl, ho2, c2⟩
  have b2 := b1.trans c2
  have hw2 := b2.size
  have Ho2 := Lib.hid ho2
  clear ho2
  go_wp2_with (at_builtin; refine wpList_append_text rfl _ _ rfl w.heap.size _ _ rfl Ho2.out t rfl (by rw [List.length_append]; omega) (by omega) (by omega) ?_)
  intro v3 w3 ho3 c3
  have b3 := b2.trans c3
  have hstr := string_own ho3
  clear ho3
  go_wp2
  go_ret
  refine ⟨?_, b3⟩
  rw [ByteArray.append_assoc]; rfl
theorem far_zero (l : List UInt8) : Far l 0 0 := ⟨rfl, fun _ _ hj => absurd hj (Nat.not_lt_zero _)⟩
set_option maxHeartbeats 2000000 in
theorem lead_yes (s : ByteArray) (n : Nat) (r : List UInt8) (w : World) (hs : s.size ≤ 1000000) (h : Vlq.Takes s.data.toList n r) :
    Calls Try.prog 59 #[.string s] w fun e w' => e = .returned (.tuple #[.int .i64 n, .int .i64 ((Vlq.one n).length : Nat)]) ∧ Below w.heap.size w w' := by
  have H := Lib.hid h
  have h9 := Vlq.one_nine h.2
  have hsl : s.data.toList.length = s.size := by simp
  have hlen : (Vlq.one n).length ≤ s.size := by
    have := congrArg List.length h.1
    rw [List.length_append, hsl] at this
    omega
  obtain ⟨L, hL⟩ : ∃ L, (Vlq.one n).length = L := ⟨_, rfl⟩
  rw [hL] at h9 hlen ⊢
  have HL := Lib.hid hL
  clear h hL
  go_enter Try.func59, Try.ntmps59
  go_wp2; go_step3; go_wp2; go_step3; go_wp2
  go_loopw [2, 7] (fun v i w' => ∃ k m : Nat, k ≤ s.size ∧ i = .int .i64 k ∧ v = .int .i64 m ∧ Far s.data.toList k m ∧ Below w.heap.size w w') (fun _ i _ => s.size - (RowKit.intOf i).toNat)
  case atStart => exact ⟨0, 0, Nat.zero_le _, rfl, rfl, far_zero _, Below.refl _ _⟩
  case round =>
    obtain ⟨k, m, hk, rfl, rfl, hf, ck⟩ := hrel
    have hkL : k < L := by
      rcases Nat.lt_or_ge k L with h1 | h1
      · exact h1
      · exact (Vlq.one_none H.out.1 (by rw [HL.out]; exact h1) hf.2).elim
    have hm8 : m < 72057594037927936 := Nat.lt_of_lt_of_le hf.lt (pow8 (by omega))
    have HF := Lib.hid hf
    clear hf
    have hks : k < s.size := by omega
    have hx := byte_at s k hks
    have hxl : s[k].toNat < 256 := UInt8.toNat_lt s[k]
    obtain ⟨x, hxx⟩ : ∃ x, s[k].toNat = x := ⟨_, rfl⟩
    have hxl2 : x < 256 := by omega
    have Hx := Lib.hid hx
    have Hxx := Lib.hid hxx
    have gk : (k : Int) < (s.size : Int) := by omega
    have gm : ¬ (72057594037927935 : Int) < (m : Int) := by omega
    have gd : decide ((72057594037927935 : Int) < (m : Int)) = false := decide_eq_false gm
    have hz : k = 0 → x ≠ 128 := fun e => by subst e; rw [← hxx]; exact Vlq.one_head H.out.1 hx
    clear hx hxl
    have go : ∃ t : Bool, ((k : Int) == 0) = t ∧ (t = true → ((x : Int) == 128) = false) := by
      refine ⟨_, rfl, fun e => ?_⟩
      have e0 : (k : Int) = 0 := by simpa using e
      have := hz (by omega)
      rw [beq_eq_false_iff_ne]; omega
    obtain ⟨t, ht, htx⟩ := go
    clear hz
    by_cases hb : 128 ≤ x
    · have d1 : decide ((x : Int) < 128) = false := decide_eq_false (by omega)
      have g1 : ¬ (x : Int) < 128 := by omega
      have Hb := Lib.hid hb
      cases t with
      | true =>
        have hx2 := htx rfl
        clear htx
        go_wp2_with fail
        go_roundw
        case rel => exact ⟨k + 1, m * 128 + x % 128, by omega, by go_num, by go_num, by have := HF.out.more Hx.out (by rw [Hxx.out]; exact Hb.out); rw [Hxx.out] at this; exact this, ck⟩
        case measure => simp [RowKit.intOf]; omega
      | false =>
        clear htx
        go_wp2_with fail
        go_roundw
        case rel => exact ⟨k + 1, m * 128 + x % 128, by omega, by go_num, by go_num, by have := HF.out.more Hx.out (by rw [Hxx.out]; exact Hb.out); rw [Hxx.out] at this; exact this, ck⟩
        case measure => simp [RowKit.intOf]; omega
    · have d1 : decide ((x : Int) < 128) = true := decide_eq_true (by omega)
      have g1 : (x : Int) < 128 := by omega
      have hxlow : s[k].toNat < 128 := by rw [Hxx.out]; omega
      have e1 := Vlq.one_at H.out.1 Hx.out hxlow HF.out.2
      have hv : n = m * 128 + x := by
        have h1 := Vlq.val_one n
        rw [e1, val_take Hx.out, HF.out.1, Hxx.out] at h1
        omega
      have hLk : L = k + 1 := by
        have h1 := HL.out
        rw [e1, List.length_take, hsl] at h1
        omega
      have hn2 := H.out.2
      clear e1 hxlow hb
      subst hLk
      have Hv := Lib.hid hv
      cases t with
      | true =>
        have hx2 := htx rfl
        clear htx hv
        go_wp2_with fail
        go_ret2
        have hv2 : 128 * (m : Int) + (x : Int) = (n : Int) := by have := Hv.out; omega
        have hk2 : (k : Int) + 1 = ((k + 1 : Nat) : Int) := by omega
        refine ⟨?_, ck⟩
        show Ending.returned (.tuple #[.int .i64 (128 * (m : Int) + (x : Int)), .int .i64 ((k : Int) + 1)]) = _
        rw [hv2, hk2]
      | false =>
        clear htx hv
        go_wp2_with fail
        go_ret2
        have hv2 : 128 * (m : Int) + (x : Int) = (n : Int) := by have := Hv.out; omega
        have hk2 : (k : Int) + 1 = ((k + 1 : Nat) : Int) := by omega
        refine ⟨?_, ck⟩
        show Ending.returned (.tuple #[.int .i64 (128 * (m : Int) + (x : Int)), .int .i64 ((k : Int) + 1)]) = _
        rw [hv2, hk2]
/-- The first k bytes have 128 more, and the first one of all is not a 0 that needs not be there. -/
def Far0 (l : List UInt8) (k m : Nat) : Prop := Far l k m ∧ (0 < k → ∀ y, l[0]? = some y → y.toNat ≠ 128)
set_option maxHeartbeats 4000000 in
theorem lead_no (s : ByteArray) (w : World) (hs : s.size ≤ 1000000) (h : NoTake s.data.toList) :
    Calls Try.prog 59 #[.string s] w fun e w' => e = .returned (.tuple #[.int .i64 0, .int .i64 0]) ∧ Below w.heap.size w w' := by
  have H := Lib.hid h
  have hsl : s.data.toList.length = s.size := by simp
  clear h
  go_enter Try.func59, Try.ntmps59
  go_wp2; go_step3; go_wp2; go_step3; go_wp2
  go_loopw [2, 7] (fun v i w' => ∃ k m : Nat, k ≤ s.size ∧ i = .int .i64 k ∧ v = .int .i64 m ∧ m < 9223372036854775808 ∧ Far0 s.data.toList k m ∧ Below w.heap.size w w') (fun _ i _ => s.size - (RowKit.intOf i).toNat)
  case atStart => exact ⟨0, 0, Nat.zero_le _, rfl, rfl, by omega, ⟨far_zero _, fun h => absurd h (Nat.lt_irrefl _)⟩, Below.refl _ _⟩
  case round =>
    obtain ⟨k, m, hk, rfl, rfl, hm, hf, ck⟩ := hrel
    have HF := Lib.hid hf
    clear hf
    by_cases hks : k < s.size
    · have gk : (k : Int) < (s.size : Int) := by omega
      by_cases hm8 : 72057594037927935 < m
      · have gm : (72057594037927935 : Int) < (m : Int) := by omega
        have gd : decide ((72057594037927935 : Int) < (m : Int)) = true := decide_eq_true gm
        go_wp2_with fail
        rw [Exit.noGoto_ret]
        go_ret2
        exact ⟨rfl, ck⟩
      · have gm : ¬ (72057594037927935 : Int) < (m : Int) := by omega
        have gd : decide ((72057594037927935 : Int) < (m : Int)) = false := decide_eq_false gm
        have hx := byte_at s k hks
        have hxl : s[k].toNat < 256 := UInt8.toNat_lt s[k]
        obtain ⟨x, hxx⟩ : ∃ x, s[k].toNat = x := ⟨_, rfl⟩
        have hxl2 : x < 256 := by omega
        have Hx := Lib.hid hx
        have Hxx := Lib.hid hxx
        clear hx hxl
        by_cases hz : k = 0 ∧ x = 128
        · obtain ⟨hz1, hz2⟩ := hz
          have g0 : ((k : Int) == 0) = true := by rw [beq_iff_eq]; omega
          have g2 : ((x : Int) == 128) = true := by rw [beq_iff_eq]; omega
          clear hz1 hz2
          go_wp2_with fail
          go_ret2
          exact ⟨rfl, ck⟩
        · have h0 : 0 < k + 1 → ∀ y, s.data.toList[0]? = some y → y.toNat ≠ 128 := by
            intro _ y hy
            by_cases e : k = 0
            · subst e
              have := Hx.out.symm.trans hy
              simp only [Option.some.injEq] at this
              rw [← this, Hxx.out]
              omega
            · exact HF.out.2 (by omega) y hy
          have H0 := Lib.hid h0
          have go : ∃ t : Bool, ((k : Int) == 0) = t ∧ (t = true → ((x : Int) == 128) = false) := by
            refine ⟨_, rfl, fun e => ?_⟩
            have e0 : (k : Int) = 0 := by simpa using e
            rw [beq_eq_false_iff_ne]; omega
          obtain ⟨t, ht, htx⟩ := go
          clear hz h0
          by_cases hb : 128 ≤ x
          · have d1 : decide ((x : Int) < 128) = false := decide_eq_false (by omega)
            have g1 : ¬ (x : Int) < 128 := by omega
            have Hb := Lib.hid hb
            cases t with
            | true =>
              have hx2 := htx rfl
              clear htx
              go_wp2_with fail
              go_roundw
              case rel => exact ⟨k + 1, m * 128 + x % 128, by omega, by go_num, by go_num, by omega, ⟨by have := HF.out.1.more Hx.out (by rw [Hxx.out]; exact Hb.out); rw [Hxx.out] at this; exact this, H0.out⟩, ck⟩
              case measure => simp [RowKit.intOf]; omega
            | false =>
              clear htx
              go_wp2_with fail
              go_roundw
              case rel => exact ⟨k + 1, m * 128 + x % 128, by omega, by go_num, by go_num, by omega, ⟨by have := HF.out.1.more Hx.out (by rw [Hxx.out]; exact Hb.out); rw [Hxx.out] at this; exact this, H0.out⟩, ck⟩
              case measure => simp [RowKit.intOf]; omega
          · exfalso
            have hxlow : s[k].toNat < 128 := by rw [Hxx.out]; omega
            have hbt : ∀ y ∈ s.data.toList.take k, 128 ≤ y.toNat := fun y hy => by
              obtain ⟨j, hj, rfl⟩ := List.mem_iff_getElem.1 hy
              rw [List.length_take] at hj
              refine HF.out.1.2 j _ (by omega) ?_
              rw [List.getElem?_eq_getElem (by omega), List.getElem_take]
            have hh : ∀ y, (s.data.toList.take k)[0]? = some y → y.toNat ≠ 128 := fun y hy => by
              have hl := (List.getElem?_eq_some_iff.1 hy).1
              rw [List.length_take] at hl
              rw [List.getElem?_take_of_lt (by omega)] at hy
              exact H0.out (by omega) y hy
            have e1 := Vlq.one_val hbt hh hxlow
            have e2 : s.data.toList = (s.data.toList.take k ++ [s[k]]) ++ s.data.toList.drop (k + 1) := by
              have h1 : s.data.toList.take (k + 1) = s.data.toList.take k ++ [s[k]] := by rw [List.take_add_one, Hx.out]; rfl
              rw [← h1, List.take_append_drop]
            rw [HF.out.1.1, Hxx.out] at e1
            exact H.out (m * 128 + x) (s.data.toList.drop (k + 1)) ⟨by rw [e1]; exact e2, by omega⟩
    · have gk : ¬ (k : Int) < (s.size : Int) := by omega
      go_wp2_with fail
      go_ret2
      exact ⟨rfl, ck⟩
theorem clone_any (s : ByteArray) (w : World) (hs : s.size ≤ 1000000) :
    Calls Try.prog 31 #[.string s] w fun e w' => e = .returned (.string s) ∧ Below w.heap.size w w' := by
  go_enter Try.func31, Try.ntmps31
  go_wp2_with (go_at_call 49; refine (Try.stringslite_Clone _ _ (by omega)).mono ?_; rintro e w' ⟨rfl, hb⟩)
  go_ret
  exact ⟨rfl, hb⟩
theorem behind {s : ByteArray} {n : Nat} {r : List UInt8} (h : Vlq.Takes s.data.toList n r) : s.extract (Vlq.one n).length s.size = ofL r := text_eq (by
  rw [extract_data, data_ofL, h.1, List.take_of_length_le (by rw [← h.1]; simp), List.drop_append_of_le_length (Nat.le_refl _), List.drop_length, List.nil_append])
theorem one_le {s : ByteArray} {n : Nat} {r : List UInt8} (h : Vlq.Takes s.data.toList n r) : (Vlq.one n).length + r.length = s.size := by
  have := congrArg List.length h.1
  rw [List.length_append] at this
  rw [← this]; simp
set_option maxHeartbeats 2000000 in
theorem take_yes (s : ByteArray) (n : Nat) (r : List UInt8) (w : World) (hs : s.size ≤ 1000000) (h : Vlq.Takes s.data.toList n r) :
    Calls Try.prog 56 #[.string s] w fun e w' => e = .returned (.tuple #[.int .i64 n, .string (ofL r), .int .i64 0]) ∧ Below w.heap.size w w' := by
  have H := Lib.hid h
  have e1 := behind h
  have h1 := one_le h
  have hp := Vlq.one_pos n
  obtain ⟨L, hL⟩ : ∃ L, (Vlq.one n).length = L := ⟨_, rfl⟩
  have HL := Lib.hid hL
  rw [hL] at e1 h1 hp
  have gl : (L : Int) ≤ (s.size : Int) := by omega
  have g0 : (0 : Int) ≤ (L : Int) := by omega
  have d0 : ((L : Int) == 0) = false := by rw [beq_eq_false_iff_ne]; omega
  have hr : (ofL r).size ≤ 1000000 := by rw [ofL_size]; omega
  obtain ⟨q, hq⟩ : ∃ q, ofL r = q := ⟨_, rfl⟩
  rw [hq] at e1 hr ⊢
  clear h hL h1 hq
  go_enter Try.func56, Try.ntmps56
  go_wp2_with fail
  refine (lead_yes s n r _ hs H.out).mono ?_
  rintro e w1 ⟨rfl, b1⟩
  rw [HL.out]
  go_wp2_with fail
  refine (clone_any q _ hr).mono ?_
  rintro e w2 ⟨rfl, c2⟩
  have b2 := step_b b1 c2
  go_wp2
  go_ret3
  exact ⟨rfl, b2⟩
set_option maxHeartbeats 2000000 in
theorem take_no (s : ByteArray) (w : World) (hs : s.size ≤ 1000000) (h : NoTake s.data.toList) :
    Calls Try.prog 56 #[.string s] w fun e w' => e = .returned (.tuple #[.int .i64 0, .string ⟨#[]⟩, .int .i64 40]) ∧ Below w.heap.size w w' := by
  have H := Lib.hid h
  clear h
  go_enter Try.func56, Try.ntmps56
  go_wp2_with fail
  refine (lead_no s _ hs H.out).mono ?_
  rintro e w1 ⟨rfl, b1⟩
  go_wp2_with fail
  go_ret3
  exact ⟨rfl, b1⟩
set_option maxHeartbeats 2000000 in
theorem tt_yes (s : ByteArray) (t r : List UInt8) (w : World) (hs : s.size ≤ 1000000) (h : TakesT s.data.toList t r) :
    Calls Try.prog 84 #[.string s] w fun e w' => e = .returned (.tuple #[.string (ofL t), .string (ofL r), .int .i64 0]) ∧ Below w.heap.size w w' := by
  have H := Lib.hid h
  have h1 := one_le h
  have hp := Vlq.one_pos t.length
  rw [List.length_append] at h1
  obtain ⟨L, hL⟩ : ∃ L, (Vlq.one t.length).length = L := ⟨_, rfl⟩
  have HL := Lib.hid hL
  have hd : s.data.toList = Vlq.one t.length ++ (t ++ r) := h.1
  have e1 : s.extract L (L + t.length) = ofL t := text_eq (by
    rw [extract_data, data_ofL, hd, ← List.append_assoc, List.take_append_of_le_length (by rw [List.length_append, hL]; exact Nat.le_refl _), List.take_of_length_le (by rw [List.length_append, hL]; exact Nat.le_refl _),
      List.drop_append_of_le_length (by rw [hL]; exact Nat.le_refl _), ← hL, List.drop_length, List.nil_append])
  have e2 : s.extract (L + t.length) s.size = ofL r := text_eq (by
    rw [extract_data, data_ofL, List.take_of_length_le (by simp), hd, ← List.append_assoc, List.drop_append_of_le_length (by rw [List.length_append, hL]; exact Nat.le_refl _), ← hL, ← List.length_append, List.drop_length, List.nil_append])
  rw [hL] at h1 hp
  obtain ⟨m, hm⟩ : ∃ m, t.length = m := ⟨_, rfl⟩
  have HM := Lib.hid hm
  have ht : (ofL t).size ≤ 1000000 := by rw [ofL_size]; omega
  have hr : (ofL r).size ≤ 1000000 := by rw [ofL_size]; omega
  rw [hm] at h1 e1 e2
  obtain ⟨q, hq⟩ : ∃ q, ofL r = q := ⟨_, rfl⟩
  obtain ⟨p, hp2⟩ : ∃ p, ofL t = p := ⟨_, rfl⟩
  rw [hq] at e2 hr ⊢
  rw [hp2] at e1 ht ⊢
  have d0 : ((L : Int) == 0) = false := by rw [beq_eq_false_iff_ne]; omega
  have d1 : decide ((s.size : Int) - (L : Int) < (m : Int)) = false := decide_eq_false (by omega)
  have g1 : (L : Int) ≤ (s.size : Int) := by omega
  have g2 : (L : Int) + (m : Int) ≤ (s.size : Int) := by omega
  have g3 : (0 : Int) ≤ (L : Int) := by omega
  have g4 : (0 : Int) ≤ (L : Int) + (m : Int) := by omega
  have g5 : (L : Int) ≤ (L : Int) + (m : Int) := by omega
  have g6 : ((L : Int) + (m : Int)).toNat = L + m := by omega
  clear h hL hm hq hp2 hd h1
  go_enter Try.func84, Try.ntmps84
  go_wp2_with fail
  refine (lead_yes s t.length (t ++ r) _ hs H.out).mono ?_
  rintro e w1 ⟨rfl, b1⟩
  rw [HL.out, HM.out]
  go_wp2_with fail
  refine wp_region_r (by kernel_rfl) (by kernel_rfl) ?_
  repeat (refine wpR_pure (fun K hK => ?_); go_simp; (try go_ints); refine hK _ ?_; clear hK K)
  refine wpR_pure (fun K hK => ?_)
  go_simp
  apply Exists.intro
  refine ⟨fun m => ?_, hK _ ?_⟩
  · go_at_call 31
    exact clone_any p _ ht
  clear hK K
  repeat (refine wpR_pure (fun K hK => ?_); go_simp; (try go_ints); refine hK _ ?_; clear hK K)
  refine wpR_pure (fun K hK => ?_)
  go_simp
  apply Exists.intro
  refine ⟨fun m => ?_, hK _ ?_⟩
  · go_at_call 31
    exact clone_any q _ hr
  clear hK K
  repeat (refine wpR_pure (fun K hK => ?_); go_simp; (try go_ints); refine hK _ ?_; clear hK K)
  refine wpR_nil (fun xs n _ => ?_)
  have b2 := step_b b1 n.below
  generalize n.w = w2 at b2 ⊢
  go_wp2
  go_ret3
  exact ⟨rfl, b2⟩
set_option maxHeartbeats 2000000 in
theorem tt_no (s : ByteArray) (w : World) (hs : s.size ≤ 1000000) (h : NoTakeT s.data.toList) :
    Calls Try.prog 84 #[.string s] w fun e w' => e = .returned (.tuple #[.string ⟨#[]⟩, .string ⟨#[]⟩, .int .i64 40]) ∧ Below w.heap.size w w' := by
  by_cases hy : ∃ n r, Vlq.Takes s.data.toList n r
  · obtain ⟨n, r, hy⟩ := hy
    have hnr : r.length < n := by
      rcases Nat.lt_or_ge r.length n with h1 | h1
      · exact h1
      · exact absurd (show TakesT s.data.toList (r.take n) (r.drop n) by unfold TakesT; rw [List.length_take, List.take_append_drop, Nat.min_eq_left h1]; exact hy) (h _ _)
    have h1 := one_le hy
    have hp := Vlq.one_pos n
    obtain ⟨L, hL⟩ : ∃ L, (Vlq.one n).length = L := ⟨_, rfl⟩
    have HL := Lib.hid hL
    rw [hL] at h1 hp
    have d0 : ((L : Int) == 0) = false := by rw [beq_eq_false_iff_ne]; omega
    have d1 : decide ((s.size : Int) - (L : Int) < (n : Int)) = true := decide_eq_true (by omega)
    have g1 : (L : Int) ≤ (s.size : Int) := by omega
    have HY := Lib.hid hy
    have g2 := hy.2
    clear hy h hnr h1 hL
    go_enter Try.func84, Try.ntmps84
    go_wp2_with fail
    refine (lead_yes s n r _ hs HY.out).mono ?_
    rintro e w1 ⟨rfl, b1⟩
    rw [HL.out]
    go_wp2_with fail
    go_ret3
    exact ⟨rfl, b1⟩
  · have H := Lib.hid (show NoTake s.data.toList from fun n r hn => hy ⟨n, r, hn⟩)
    clear h hy
    go_enter Try.func84, Try.ntmps84
    go_wp2_with fail
    refine (lead_no s _ hs H.out).mono ?_
    rintro e w1 ⟨rfl, b1⟩
    go_wp2_with fail
    go_ret3
    exact ⟨rfl, b1⟩
end Go.Proofs.Ytjhllkjcaodcgaa
