/-
  The document's Read: operations, one behind the other, that bytes are.
-/
import Derived.Test.YtjhllkjcaodcgaaRTkT
import Derived.OwnWalk
import Derived.Laws.AppendOwnNone
namespace Go.Proofs.Ytjhllkjcaodcgaa
open Go.RowKit Go.Lib
/-- The cells of operations that lie side by side. -/
def opCells (l : List Opn) : List Value := l.flatMap cellsO
theorem flat_len {α : Type} (f : α → List Value) (k : Nat) (hf : ∀ x, (f x).length = k) : ∀ l : List α, (l.flatMap f).length = l.length * k
  | [] => by simp
  | x :: l => by rw [List.flatMap_cons, List.length_append, hf, flat_len f k hf l, List.length_cons, Nat.succ_mul]; omega
theorem flat_get {α : Type} (f : α → List Value) (k : Nat) (hf : ∀ x, (f x).length = k) : ∀ (l : List α) (i : Nat) (x : α), l[i]? = some x → ∀ j, j < k → (l.flatMap f)[i * k + j]? = (f x)[j]?
  | [], i, x, h, _, _ => by simp at h
  | y :: l, 0, x, h, j, hj => by
    simp at h; subst h
    rw [List.flatMap_cons, List.getElem?_append_left (by rw [hf]; omega)]
    congr 1; omega
  | y :: l, i + 1, x, h, j, hj => by
    rw [List.flatMap_cons, List.getElem?_append_right (by rw [hf, Nat.succ_mul]; omega), hf]
    have e : (i + 1) * k + j - k = i * k + j := by rw [Nat.succ_mul]; omega
    rw [e]
    exact flat_get f k hf l i x (by simpa using h) j hj
theorem opCells_len (l : List Opn) : (opCells l).length = l.length * 7 := flat_len cellsO 7 (fun _ => rfl) l
theorem opCells_append (l m : List Opn) : opCells (l ++ m) = opCells l ++ opCells m := by simp [opCells]
theorem own_isO {w : World} {base : Nat} {e : TypeId} {v : Value} {n : Nat} {l : List Opn} (h : w.ownsRow base e 7 v n (opCells l)) (hnl : l.length = n) :
    ∃ a c, v = .slice a l.length c ∧ IsO w a c l := by
  subst hnl
  have hc : ∀ g, v.ownBlock = some g → ∀ j u, (opCells l)[j]? = some u → w.cell? ((⟨g, 0, none⟩ : Addr).add j) = some u := fun g hg => h.cells hg
  have hlt := h.lt
  obtain ⟨hn, ⟨rfl, h0⟩ | ⟨g, cap, cur, rfl, hb, hg, hcap, hm, hs, hx⟩⟩ := h
  · have : l = [] := List.eq_nil_of_length_eq_zero h0
    subst this
    exact ⟨none, 0, rfl, Nat.le_refl _, fun h => absurd rfl h⟩
  · refine ⟨_, cap, rfl, hcap, fun _ => ⟨g, 0, rfl, (hlt g rfl).2, fun j x hj => ?_⟩⟩
    have at_ : ∀ i u, i < 7 → (cellsO x)[i]? = some u → w.cell? ⟨g, 0 + j * 7 + i, none⟩ = some u := fun i u hi hu => by
      have h2 := flat_get cellsO 7 (fun _ => rfl) l j x hj i hi
      have h3 := hc g rfl _ u (h2.trans hu)
      have e : (⟨g, 0, none⟩ : Addr).add (j * 7 + i) = ⟨g, 0 + j * 7 + i, none⟩ := by unfold Addr.add; split <;> simp_all
      rw [e] at h3
      exact h3
    exact ⟨at_ 0 _ (by omega) rfl, at_ 1 _ (by omega) rfl, at_ 2 _ (by omega) rfl, at_ 3 _ (by omega) rfl, at_ 4 _ (by omega) rfl, at_ 5 _ (by omega) rfl, at_ 6 _ (by omega) rfl⟩
theorem own_below {w w' : World} {base : Nat} {e : TypeId} {size : Nat} {v : Value} {n : Nat} {xs : List Value} (h : w.ownsRow base e size v n xs) (hb : Below w.heap.size w w') : w'.ownsRow base e size v n xs := by
  have hlt := h.lt
  obtain ⟨hn, ⟨rfl, h0⟩ | ⟨g, cap, cur, rfl, hbs, hg, hcap, hm, hs, hx⟩⟩ := h
  · exact ⟨hn, .inl ⟨rfl, h0⟩⟩
  · exact ⟨hn, .inr ⟨g, cap, cur, rfl, hbs, (hb.block g (hlt g rfl).2).trans hg, hcap, hm, hs, hx⟩⟩
/-- Operations whose bytes begin with those of other ones begin with these. -/
theorem opsB_rest : ∀ {a l : List Opn} {r : List UInt8}, allO a = true → allO l = true → opsB l = opsB a ++ r → ∃ m, allO m = true ∧ r = opsB m
  | [], l, r, _, hl, h => ⟨l, hl, by rw [h]; rfl⟩
  | o :: a, [], r, _, _, h => by
    rw [opsB_cons] at h
    have := congrArg List.length h
    have hp := List.length_pos_iff.2 (opB_pos o)
    simp only [opsB, List.flatMap_nil, List.length_nil, List.length_append] at this
    omega
  | o :: a, q :: l, r, ha, hl, h => by
    rw [opsB_cons, opsB_cons, List.append_assoc] at h
    simp only [allO, List.all_cons, Bool.and_eq_true] at ha hl
    obtain ⟨_, h2⟩ := opB_inj hl.1 ha.1 h
    exact opsB_rest (a := a) (l := l) ha.2 hl.2 h2
/-- These operations' bytes. -/
def ReadsO (b : List UInt8) (l : List Opn) : Prop := allO l = true ∧ b = opsB l
def NoRead (b : List UInt8) : Prop := ∀ l, ¬ ReadsO b l
def RdPost (b : List UInt8) (w : World) (e : Ending) (w' : World) : Prop :=
  ((∃ l, ReadsO b l ∧ ∃ a c, e = .returned (.tuple #[.slice a l.length c, .int .i64 0]) ∧ IsO w' a c l) ∨ (NoRead b ∧ e = .returned (.tuple #[.slice none 0 0, .int .i64 50]))) ∧ Below w.heap.size w w'
def strSz : Value → Nat | .string b => b.size | _ => 0
theorem infoO : (Try.prog.info? 25).map (fun i => (i.zero, i.size, i.bytes)) = some (some (.agg #[.int .i64 0, .int .i64 0, .int .i64 0, .int .i64 0, .int .i64 0, .string ByteArray.empty, .string ByteArray.empty]), 7, 72) := by kernel_rfl
set_option maxRecDepth 100000 in
set_option maxHeartbeats 4000000 in
theorem rread_any (b : ByteArray) (w : World) (hb : b.size ≤ 10000) : Calls Try.prog 18 #[.string b] w fun e w' => RdPost b.data.toList w e w' := by
  obtain ⟨i25, hi, hz, hsz, hby⟩ := info_parts infoO
  go_enter Try.func18, Try.ntmps18
  go_wp2
  go_loopw [0, 4] (fun s v w' => ∃ (l : List Opn) (r : ByteArray), allO l = true ∧ l.length + r.size ≤ b.size ∧ b.data.toList = opsB l ++ r.data.toList ∧ s = .string r ∧ w'.ownsRow w.heap.size 25 7 v l.length (opCells l) ∧ Below w.heap.size w w') (fun s _ _ => strSz s)
  case atStart => exact ⟨[], b, rfl, by simp, rfl, rfl, World.ownsRow_nil _ _ _ _, Below.refl _ _⟩
  case round =>
    obtain ⟨l, r, hl, hlr, hbr, rfl, how, ck⟩ := hrel
    have HB := Lib.hid hbr
    have HL := Lib.hid hl
    have HO := Lib.hid how
    have hws := ck.size
    clear hbr hl how
    by_cases hr0 : r.size = 0
    · have hre : r.data.toList = [] := List.eq_nil_of_length_eq_zero (by simpa using hr0)
      have HY := Lib.hid (show ReadsO b.data.toList l from ⟨HL.out, by rw [HB.out, hre, List.append_nil]⟩)
      obtain ⟨a, c, rfl, hio⟩ := own_isO HO.out rfl
      have HI := Lib.hid hio
      have d1 : decide ((0 : Int) < (r.size : Int)) = false := decide_eq_false (by omega)
      clear hre hio
      go_wp2_with fail
      go_ret2
      exact ⟨.inl ⟨l, HY.out, a, c, rfl, HI.out⟩, ck⟩
    · have d1 : decide ((0 : Int) < (r.size : Int)) = true := decide_eq_true (by omega)
      by_cases ht : ∃ q s, TakesO r.data.toList q s
      · obtain ⟨q, s, hq⟩ := ht
        have HQ := Lib.hid hq
        have hqs : s.length < r.size := by
          have h1 := congrArg List.length hq.2
          have h2 := List.length_pos_iff.2 (opB_pos q)
          simp only [List.length_append] at h1
          have h3 : r.data.toList.length = r.size := by simp
          omega
        obtain ⟨y, hy⟩ : ∃ y, ofL s = y := ⟨_, rfl⟩
        have hys : y.size = s.length := by rw [← hy, ofL_size]
        have HY := Lib.hid hy
        have hyl : y.size < r.size := by omega
        clear hq hys hqs
        go_wp2_with fail
        refine (rtko_yes r (by omega) q s HQ.out _).mono ?_
        rintro e w1 ⟨rfl, c1⟩
        rw [HY.out]
        clear hy
        have b1 := step_b ck c1
        have HO1 := Lib.hid (own_below HO.out c1)
        have hwb := b1.size
        go_wp2_with (at_builtin; refine wpList_append_own _ rfl _ _ 26 rfl w.heap.size 25 i25 _ 7 72 Try.underlying26 hi hz hsz hby rfl (by decide) _ l.length (opCells l) rfl ((HO1.out.alloc _).alloc _) ⟨w1.heap.size + 1, 0, none⟩ 1 1 (cellsO q) rfl rfl ?c1 ?c2 ?c3 ?c4 ?c5 ?_)
        case c1 =>
          intro j u hj
          match j, hj with
          | 0, hj => simp [cellsO] at hj; subst hj; simp [Addr.add]
          | 1, hj => simp [cellsO] at hj; subst hj; simp [Addr.add]
          | 2, hj => simp [cellsO] at hj; subst hj; simp [Addr.add]
          | 3, hj => simp [cellsO] at hj; subst hj; simp [Addr.add]
          | 4, hj => simp [cellsO] at hj; subst hj; simp [Addr.add]
          | 5, hj => simp [cellsO] at hj; subst hj; simp [Addr.add]
          | 6, hj => simp [cellsO] at hj; subst hj; simp [Addr.add]
        case c2 => intro u hu; simp [cellsO] at hu; rcases hu with rfl | rfl | rfl | rfl | rfl | rfl | rfl <;> rfl
        case c3 => unfold maxLen; omega
        case c4 => omega
        case c5 => simp; omega
        intro v' w2 hown' hgrow _
        have b2 := (((b1.alloc hwb _).alloc (by simp; omega) _).grown hgrow (by simp; omega) (fun r hr => (HO1.out.lt r hr).1))
        have HO2 := Lib.hid hown'
        clear hown' hgrow
        go_wp2
        go_roundw
        case rel => exact ⟨l ++ [q], y, by unfold allO at HL ⊢; rw [List.all_append, HL.out]; simp [HQ.out.1], by simp only [List.length_append, List.length_singleton]; omega, by rw [HB.out, HQ.out.2, opsB_append, ← HY.out, data_ofL]; simp [opsB], rfl, by rw [List.length_append, opCells_append]; simpa [opCells] using HO2.out, b2⟩
        case measure => exact hyl
      · have HN := Lib.hid (show NoRead b.data.toList from fun m hm => by
          obtain ⟨m2, hm2, e⟩ := opsB_rest HL.out hm.1 (hm.2.symm.trans HB.out)
          cases m2 with
          | nil =>
            have := congrArg List.length e
            simp [opsB] at this
            exact hr0 (by simpa using this)
          | cons q m3 =>
            rw [opsB_cons] at e
            simp only [allO, List.all_cons, Bool.and_eq_true] at hm2
            exact ht ⟨q, opsB m3, hm2.1, e⟩)
        have HT := Lib.hid (show NoTakeO r.data.toList from fun q s h => ht ⟨q, s, h⟩)
        clear ht
        go_wp2_with fail
        refine (rtko_no r (by omega) HT.out _).mono ?_
        rintro e w1 ⟨rfl, c1⟩
        have b1 := step_b ck c1
        go_wp2_with fail
        go_ret2
        exact ⟨.inr ⟨HN.out, rfl⟩, b1.alloc b1.size _⟩
end Go.Proofs.Ytjhllkjcaodcgaa
