import Derived.Test.YtjilmnadcbamaaaDoorCuts
import Derived.Test.YtjilmnadcbamaaaDoorRefCheck
import Derived.Test.YtjilmnadcbamaaaDoorDeep
namespace Go.Proofs.YtjilmnadcbamaaaDoor
open Go.RowKit Go.Lib Go.PlainAid
theorem get_at? (s : ByteArray) (i : Nat) (h : i < s.size) : s.data.toList[i]? = some (s.get! i) := by
  have hk : i < s.data.toList.length := by simpa using h
  rw [List.getElem?_eq_getElem hk]
  have := get_at s i h
  rw [Nat.add_zero] at this
  rw [this]; rfl
theorem mark_at {s : ByteArray} {i : Nat} (h : i ≤ s.size) (hm : i = s.size ∨ (s.get! i).toNat = 47) : (s.data.toList ++ [47])[i]? = some 47 := by
  have hl : s.data.toList.length = s.size := by simp
  by_cases e : i < s.size
  · rw [List.getElem?_append_left (by omega), get_at? s i e]
    rcases hm with rfl | hm
    · omega
    · rw [UInt8.toNat_inj.1 (show (s.get! i).toNat = (47 : UInt8).toNat from hm)]
  · have : i = s.size := by omega
    subst this
    rw [List.getElem?_append_right (by omega), hl, Nat.sub_self]; rfl
theorem piece_no {s : ByteArray} {f i : Nat} (hi : i ≤ s.size) (h : ∀ j, f ≤ j → j < i → (s.get! j).toNat ≠ 47) : 47 ∉ (s.data.toList.drop f).take (i - f) := by
  intro hm
  obtain ⟨k, hk, e⟩ := List.getElem_of_mem hm
  have e2 : ((s.data.toList.drop f).take (i - f))[k]? = some 47 := by rw [List.getElem?_eq_getElem hk, e]
  rw [List.length_take] at hk
  rw [List.getElem?_take_of_lt (by omega), List.getElem?_drop, get_at? s (f + k) (by omega)] at e2
  exact h (f + k) (by omega) (by omega) (by rw [Option.some.inj e2]; rfl)
theorem own_below {w w' : World} {base : Nat} {e : TypeId} {size : Nat} {v : Value} {n : Nat} {xs : List Value} (h : w.ownsRow base e size v n xs) (hb : Below w.heap.size w w') : w'.ownsRow base e size v n xs := by
  have hlt := h.lt
  obtain ⟨hn, h0 | ⟨g, cap, cur, rfl, hbg, hg, hcap, hm, hs, hx⟩⟩ := h
  · exact ⟨hn, .inl h0⟩
  · exact ⟨hn, .inr ⟨g, cap, cur, rfl, hbg, by rw [hb.block g (hlt g rfl).2]; exact hg, hcap, hm, hs, hx⟩⟩
theorem snoc_chk {done : List ByteArray} {x : ByteArray} {l : List UInt8} (h : ∀ d ∈ done, chk d.data.toList = true) (hx : x.data.toList = l) (hc : chk l = true) : ∀ d ∈ done ++ [x], chk d.data.toList = true := by
  intro d hd
  rcases List.mem_append.1 hd with hd | hd
  · exact h d hd
  · rw [List.mem_singleton.1 hd, hx]; exact hc
theorem snoc_cut {p : List UInt8} {n : Nat} {done : List ByteArray} {x : ByteArray} {l : List UInt8} (h : CutAt p n (done.map (·.data.toList) ++ [l])) (hx : x.data.toList = l) : CutAt p n ((done ++ [x]).map (·.data.toList)) := by
  rw [List.map_append, List.map_cons, List.map_nil, hx]; exact h
def RSPost (s : ByteArray) (w : World) (e : Ending) (w' : World) : Prop :=
  (e = .returned (.tuple #[.slice none 0 0, .int .i64 10]) ∧ Below w.heap.size w w' ∧ ∀ l, namesB l = true → joinS l ≠ s) ∨
  (∃ l a c, namesB l = true ∧ joinS l = s ∧ e = .returned (.tuple #[.slice a l.length c, .int .i64 0]) ∧ IsL w' a c l ∧ Below w.heap.size w w')
set_option maxHeartbeats 4000000 in
theorem refSplit_long (s : ByteArray) (w : World) (hs : s.size ≤ 1000000) (h1 : 1 < s.size) (h47 : (s.get! 0).toNat = 47) :
    Calls Tryd.prog 14 #[.string s] w (RSPost s w) := by
  have hbt := get_bt s
  have hg0 : bt s 0 = 47 := by rw [bt_get, h47]; rfl
  have hl : s.data.toList.length = s.size := by simp
  have hz0 : ((s.size : Int) == 0) = false := beq_eq_false_iff_ne.2 (by omega)
  have hz1 : ((s.size : Int) == 1) = false := beq_eq_false_iff_ne.2 (by omega)
  have H0 := Lib.hid (show ∃ r, s.data.toList = 47 :: r from by
    have e := get_at? s 0 (by omega)
    rw [UInt8.toNat_inj.1 (show (s.get! 0).toNat = (47 : UInt8).toNat from h47)] at e
    cases hd : s.data.toList with
    | nil => rw [hd] at e; cases e
    | cons b r => rw [hd] at e; exact ⟨r, by rw [Option.some.inj e]⟩)
  have HL := Lib.hid hl
  clear h47 hl
  obtain ⟨i9, hi9, hz9, hz91, hz92⟩ := info_parts info9
  go_enter Tryd.func14, Tryd.ntmps14
  go_wp2
  go_loopw [4, 5, 6] (fun v f i w' => ∃ (ip fp : Nat) (done : List ByteArray), 1 ≤ fp ∧ fp ≤ ip ∧ ip ≤ s.size + 1 ∧ i = .int .i64 ip ∧ f = .int .i64 fp ∧ w'.ownsRow w.heap.size 9 1 v done.length (done.map Value.string) ∧ done.length ≤ 16 ∧ (∀ d ∈ done, chk d.data.toList = true) ∧ CutAt s.data.toList fp (done.map (·.data.toList)) ∧ (∀ j, fp ≤ j → j < ip → (s.get! j).toNat ≠ 47) ∧ (ip = s.size + 1 → fp = s.size + 1) ∧ Below w.heap.size w w') (fun _ _ i _ => s.size + 1 - (RowKit.intOf i).toNat)
  case atStart => 
    obtain ⟨r, hr⟩ := H0.out
    exact ⟨1, 1, [], by omega, by omega, by omega, rfl, rfl, World.ownsRow_nil _ _ _ _, by simp, by simp, cut_start hr, fun j h2 h3 => by omega, by omega, Below.refl _ _⟩
  case round =>
    obtain ⟨ip, fp, done, hf1, hfi, his, rfl, rfl, how, h16, hd, hcut, hno, hend, hb⟩ := hrel
    have HO := Lib.hid how
    have HD := Lib.hid hd
    have HC := Lib.hid hcut
    have HN := Lib.hid hno
    have HE := Lib.hid hend
    have hws := hb.size
    clear how hd hcut hno hend
    by_cases hil : ip ≤ s.size
    · by_cases hm : ip = s.size ∨ (s.get! ip).toNat = 47
      · have HM := Lib.hid (mark_at hil hm)
        have HP := Lib.hid (piece_no hil HN.out)
        have hx : (s.extract fp ip).data.toList = (s.data.toList.drop fp).take (ip - fp) := Lib.extract_data s fp ip
        have HX := Lib.hid hx
        have hxs : (s.extract fp ip).size ≤ 1000000 := by
          have e := congrArg List.length hx
          have e2 : (s.extract fp ip).data.toList.length = (s.extract fp ip).size := Array.length_toList
          rw [List.length_take] at e
          have hll := HL.out
          rw [List.length_drop] at e
          omega
        have HXS := Lib.hid hxs
        clear hx hxs
        have hAB : (ip < s.size ∧ bt s ip = 47) ∨ ¬ ip < s.size := by
          by_cases hie : ip < s.size
          · left
            refine ⟨hie, ?_⟩
            rw [bt_get]
            rcases hm with e | e
            · omega
            · rw [e]; rfl
          · exact .inr hie
        clear hm
        cases hck : chk ((s.data.toList.drop fp).take (ip - fp)) with
        | false =>
          have HK := Lib.hid hck
          have HBad := Lib.hid (cut_no HC.out hfi (by have := HL.out; omega) HM.out HD.out HP.out (by have := HL.out; omega) (.inl hck))
          clear hck
          rcases hAB with ⟨hie, hg⟩ | hie
          all_goals
            go_wp2_with fail
            refine (refCheck_any _ _ HXS.out).mono ?_
            rintro e w1 ⟨rfl, hb1⟩
            rw [HX.out, HK.out]
            go_wp2
            go_ret2
            exact .inl ⟨rfl, hb.trans (hb1.mono hb.size), HBad.out⟩
        | true =>
          have HK := Lib.hid hck
          by_cases hd16 : done.length = 16
          · have HBad := Lib.hid (cut_no HC.out hfi (by have := HL.out; omega) HM.out HD.out HP.out (by have := HL.out; omega) (.inr (by omega)))
            have q16 : ((done.length : Int) == 16) = true := beq_iff_eq.2 (by omega)
            clear hck hd16
            obtain ⟨va, vc, rfl, hlv⟩ := own_isL HO.out rfl
            clear hlv
            rcases hAB with ⟨hie, hg⟩ | hie
            all_goals
              go_wp2_with fail
              refine (refCheck_any _ _ HXS.out).mono ?_
              rintro e w1 ⟨rfl, hb1⟩
              rw [HX.out, HK.out]
              go_wp2
              go_ret2
              exact .inl ⟨rfl, hb.trans (hb1.mono hb.size), HBad.out⟩
          · have q16 : ((done.length : Int) == 16) = false := beq_eq_false_iff_ne.2 (by omega)
            have HS := Lib.hid (cut_step HC.out hfi (by have := HL.out; omega) HM.out)
            clear hck
            obtain ⟨va, vc, rfl, hlv⟩ := own_isL HO.out rfl
            clear hlv
            rcases hAB with ⟨hie, hg⟩ | hie
            · go_wp2_with fail
              refine (refCheck_any _ _ HXS.out).mono ?_
              rintro e w1 ⟨rfl, hb1⟩
              rw [HX.out, HK.out]
              have hbw := hb.trans (hb1.mono hb.size)
              have HO1 := Lib.hid (own_below HO.out hb1)
              have hw1 := hbw.size
              go_wp2_with (at_builtin; refine wpList_append_own _ rfl _ _ 22 rfl w.heap.size 9 i9 (.string ByteArray.empty) 1 16 Tryd.underlying22 hi9 hz9 hz91 hz92 rfl (by decide) _ _ _ rfl (HO1.out.alloc _) ⟨w1.heap.size, 0, none⟩ 1 1 [.string (s.extract fp ip)] rfl rfl ?c1 ?c2 ?c3 ?c4 ?c5 ?_)
              case c1 =>
                intro j u hj
                match j, hj with
                | 0, hj => simp at hj; subst hj; simp [Addr.add]
              case c2 => intro u hu; simp at hu; subst hu; rfl
              case c3 => unfold maxLen; omega
              case c4 => omega
              case c5 => simp; omega
              intro v' w2 hown' hgrow _
              have b2 := ((hbw.alloc hw1 _).grown hgrow (by simp; omega) (fun r hr => (HO1.out.lt r hr).1))
              have HO2 := Lib.hid hown'
              clear hown' hgrow
              go_wp2
              go_roundw
              case rel => exact ⟨ip + 1, ip + 1, done ++ [s.extract fp ip], by omega, by omega, by omega, by go_num, by go_num, by rw [List.length_append, List.map_append]; exact HO2.out, by rw [List.length_append, List.length_singleton]; omega, snoc_chk HD.out HX.out HK.out, snoc_cut HS.out HX.out, fun j h2 h3 => by omega, fun h => h, b2⟩
              case measure => simp [RowKit.intOf]; omega
            · go_wp2_with fail
              refine (refCheck_any _ _ HXS.out).mono ?_
              rintro e w1 ⟨rfl, hb1⟩
              rw [HX.out, HK.out]
              have hbw := hb.trans (hb1.mono hb.size)
              have HO1 := Lib.hid (own_below HO.out hb1)
              have hw1 := hbw.size
              go_wp2_with (at_builtin; refine wpList_append_own _ rfl _ _ 22 rfl w.heap.size 9 i9 (.string ByteArray.empty) 1 16 Tryd.underlying22 hi9 hz9 hz91 hz92 rfl (by decide) _ _ _ rfl (HO1.out.alloc _) ⟨w1.heap.size, 0, none⟩ 1 1 [.string (s.extract fp ip)] rfl rfl ?c1 ?c2 ?c3 ?c4 ?c5 ?_)
              case c1 =>
                intro j u hj
                match j, hj with
                | 0, hj => simp at hj; subst hj; simp [Addr.add]
              case c2 => intro u hu; simp at hu; subst hu; rfl
              case c3 => unfold maxLen; omega
              case c4 => omega
              case c5 => simp; omega
              intro v' w2 hown' hgrow _
              have b2 := ((hbw.alloc hw1 _).grown hgrow (by simp; omega) (fun r hr => (HO1.out.lt r hr).1))
              have HO2 := Lib.hid hown'
              clear hown' hgrow
              go_wp2
              go_roundw
              case rel => exact ⟨ip + 1, ip + 1, done ++ [s.extract fp ip], by omega, by omega, by omega, by go_num, by go_num, by rw [List.length_append, List.map_append]; exact HO2.out, by rw [List.length_append, List.length_singleton]; omega, snoc_chk HD.out HX.out HK.out, snoc_cut HS.out HX.out, fun j h2 h3 => by omega, fun h => h, b2⟩
              case measure => simp [RowKit.intOf]; omega
      · have hie : ip < s.size := by
          by_cases e : ip < s.size
          · exact e
          · exact absurd (.inl (by omega)) hm
        have hne : (s.get! ip).toNat ≠ 47 := fun e => hm (.inr e)
        have hg : bt s ip = ((s.get! ip).toNat : Int) := bt_get s ip
        have q47 : (((s.get! ip).toNat : Int) != 47) = true := by rw [bne_iff_ne]; omega
        have hle : (s.get! ip).toNat ≤ 255 := by have := UInt8.toNat_lt (s.get! ip); omega
        have HNE := Lib.hid hne
        clear hm hne
        go_wp2
        go_roundw
        case rel => exact ⟨ip + 1, fp, done, hf1, by omega, by omega, by go_num, rfl, HO.out, h16, HD.out, HC.out, fun j h2 h3 => by
          by_cases e : j < ip
          · exact HN.out j h2 e
          · rw [show j = ip from by omega]; exact HNE.out, fun h => by omega, hb⟩
        case measure => simp [RowKit.intOf]; omega
    · have hip : ip = s.size + 1 := by omega
      have hfp := HE.out hip
      have hc := HC.out
      rw [hfp, ← HL.out] at hc
      obtain ⟨r, hr⟩ := H0.out
      have he := cut_end hc (by rw [hr]; simp)
      have hj : joinS done = s := by
        apply ByteArray.ext
        apply Array.ext'
        rw [joinS_data]; exact he.2.symm
      have hn : namesB done = true := by
        unfold namesB
        rw [decide_eq_true h16, Bool.true_and, List.all_eq_true]
        exact HD.out
      have HJ := Lib.hid hj
      have HNB := Lib.hid hn
      obtain ⟨va, vc, rfl, hlv⟩ := own_isL HO.out rfl
      have HV := Lib.hid hlv
      clear hip hfp hc hr he hj hn hlv
      go_wp2
      go_ret2
      exact .inr ⟨done, va, vc, HNB.out, HJ.out, rfl, HV.out, hb⟩
theorem refSplit_any (s : ByteArray) (w : World) (hs : s.size ≤ 1000000) : Calls Tryd.prog 14 #[.string s] w (RSPost s w) := by
  have hl : s.data.toList.length = s.size := Array.length_toList
  by_cases h0 : s.size = 0
  · have hno : ∀ l, namesB l = true → joinS l ≠ s := fun l _ e => by
      have := congrArg List.length (joinS_data l); rw [e, hl, h0] at this; simp at this
    have HNO := Lib.hid hno
    have hz0 : ((s.size : Int) == 0) = true := beq_iff_eq.2 (by omega)
    clear h0 hno
    go_enter Tryd.func14, Tryd.ntmps14
    go_wp2
    go_ret2
    exact .inl ⟨rfl, Below.refl _ _, HNO.out⟩
  · have hz0 : ((s.size : Int) == 0) = false := beq_eq_false_iff_ne.2 (by omega)
    have e0 := get_at? s 0 (by omega)
    by_cases h47 : (s.get! 0).toNat = 47
    · by_cases h1 : 1 < s.size
      · exact refSplit_long s w hs h1 h47
      · have hd : s.data.toList = [47] := by
          rw [UInt8.toNat_inj.1 (show (s.get! 0).toNat = (47 : UInt8).toNat from h47)] at e0
          match hh : s.data.toList with
          | [] => rw [hh] at e0; cases e0
          | [b] => rw [hh] at e0; simp at e0; rw [e0]
          | b :: c :: r => rw [hh] at hl; simp at hl; omega
        have hj : joinS [] = s := by
          apply ByteArray.ext; apply Array.ext'; rw [joinS_data, hd]; rfl
        have HJ := Lib.hid hj
        have hg0 : bt s 0 = 47 := by rw [bt_get, h47]; rfl
        have hz1 : ((s.size : Int) == 1) = true := beq_iff_eq.2 (by omega)
        have hbt := get_bt s
        have hp : 0 < s.size := by omega
        clear e0 hd hj h47 hl
        go_enter Tryd.func14, Tryd.ntmps14
        go_wp2
        go_ret2
        exact .inr ⟨[], none, 0, by decide, HJ.out, rfl, isL_nil _, Below.refl _ _⟩
    · have hno : ∀ l, namesB l = true → joinS l ≠ s := fun l _ e => by
        have := joinS_data l
        rw [e] at this
        rw [this] at e0
        simp at e0
        exact h47 (by rw [← e0]; rfl)
      have HNO := Lib.hid hno
      have hg : bt s 0 = ((s.get! 0).toNat : Int) := bt_get s 0
      have q47 : (((s.get! 0).toNat : Int) != 47) = true := by rw [bne_iff_ne]; omega
      have hle : (s.get! 0).toNat ≤ 255 := by have := UInt8.toNat_lt (s.get! 0); omega
      have hbt := get_bt s
      have hp : 0 < s.size := by omega
      clear e0 hno h47 hl
      go_enter Tryd.func14, Tryd.ntmps14
      go_wp2
      go_ret2
      exact .inl ⟨rfl, Below.refl _ _, HNO.out⟩
end Go.Proofs.YtjilmnadcbamaaaDoor
