/-
  PLAIN LEAN: a path that is cut mark by mark, from the left.
-/
import Derived.Test.YtjilmnadcbamaaaDoorBack
namespace Go.Proofs.YtjilmnadcbamaaaDoor
open Go.RowKit Go.Lib
/-- A mark, and each text with a mark behind it. -/
def pre (l : List (List UInt8)) : List UInt8 := 47 :: (l.map (· ++ [47])).flatten
theorem pre_snoc (l : List (List UInt8)) (x : List UInt8) : pre (l ++ [x]) = pre l ++ x ++ [47] := by simp [pre]
theorem pre_join : ∀ {l : List (List UInt8)}, l ≠ [] → pre l = 47 :: join l [47] ++ [47]
  | [], h => absurd rfl h
  | [x], _ => by rw [join_one]; simp [pre]
  | x :: y :: r, _ => by
    have ih := pre_join (l := y :: r) (by simp)
    rw [join_cons2 x (y :: r) (by simp)]
    simp only [pre, List.map_cons, List.flatten_cons, List.cons_append, List.cons.injEq, true_and] at ih ⊢
    rw [ih]
    simp
theorem cut_eq : ∀ (d y A B : List UInt8), 47 ∉ d → 47 ∉ y → d ++ 47 :: A = y ++ 47 :: B → d = y ∧ A = B
  | [], [], A, B, _, _, h => by simpa using h
  | [], b :: y, A, B, _, hy, h => by
    simp only [List.nil_append, List.cons_append, List.cons.injEq] at h
    exact absurd (by rw [← h.1]; simp) hy
  | a :: d, [], A, B, hd, _, h => by
    simp only [List.nil_append, List.cons_append, List.cons.injEq] at h
    exact absurd (by rw [h.1]; simp) hd
  | a :: d, b :: y, A, B, hd, hy, h => by
    simp only [List.cons_append, List.cons.injEq] at h
    have := cut_eq d y A B (fun hm => hd (List.mem_cons_of_mem _ hm)) (fun hm => hy (List.mem_cons_of_mem _ hm)) h.2
    exact ⟨by rw [h.1, this.1], this.2⟩
theorem decomp (x rest : List UInt8) (hx : 47 ∉ x) : ∀ (done ys : List (List UInt8)), (∀ d ∈ done, 47 ∉ d) → (∀ y ∈ ys, 47 ∉ y) → pre done ++ x ++ 47 :: rest = pre ys → ∃ ys', ys = done ++ x :: ys'
  | [], [], _, _, h => by simp [pre] at h
  | [], y :: ys, _, hy, h => by
    simp only [pre, List.map_nil, List.flatten_nil, List.map_cons, List.flatten_cons, List.cons_append, List.nil_append, List.cons.injEq, true_and, List.append_assoc] at h
    have := cut_eq x y _ _ hx (hy y (by simp)) h
    exact ⟨ys, by rw [this.1]; rfl⟩
  | d :: done, [], _, _, h => by
    simp [pre] at h
  | d :: done, y :: ys, hd, hy, h => by
    simp only [pre, List.map_cons, List.flatten_cons, List.cons_append, List.cons.injEq, true_and, List.append_assoc, List.nil_append] at h
    have h1 := cut_eq d y _ _ (hd d (by simp)) (hy y (by simp)) h
    obtain ⟨ys', e⟩ := decomp x rest hx done ys (fun z hz => hd z (by simp [hz])) (fun z hz => hy z (by simp [hz])) (by
      simp only [pre, List.cons_append, List.cons.injEq, true_and, List.append_assoc]; exact h1.2)
    exact ⟨ys', by rw [h1.1, e]; rfl⟩
/-- What has been cut off a path up to the place 'f'. -/
def CutAt (p : List UInt8) (f : Nat) (done : List (List UInt8)) : Prop := (p ++ [47]).take f = pre done
theorem cut_start {p : List UInt8} {r : List UInt8} (h : p = 47 :: r) : CutAt p 1 [] := by subst h; rfl
/-- One text more, up to a mark, or the end. -/
theorem cut_step {p : List UInt8} {f i : Nat} {done : List (List UInt8)} (h : CutAt p f done) (hf : f ≤ i) (hi : i ≤ p.length) (hm : (p ++ [47])[i]? = some 47) : CutAt p (i + 1) (done ++ [(p.drop f).take (i - f)]) := by
  unfold CutAt at h ⊢
  rw [pre_snoc, ← h, List.take_add_one, hm]
  congr 1
  have e : (p ++ [47]).take i = (p ++ [47]).take f ++ ((p ++ [47]).drop f).take (i - f) := by
    rw [← List.take_add]; congr 1; omega
  rw [e]
  congr 1
  rw [List.drop_append_of_le_length (by omega), List.take_append_of_le_length (by rw [List.length_drop]; omega)]
theorem cut_end {p : List UInt8} {done : List (List UInt8)} (h : CutAt p (p.length + 1) done) (hp : p ≠ []) : done ≠ [] ∧ p = 47 :: join done [47] := by
  unfold CutAt at h
  rw [List.take_of_length_le (by simp)] at h
  have hd : done ≠ [] := fun e => by
    subst e
    have := congrArg List.length h
    rw [List.length_append, show (pre []).length = 1 from rfl, List.length_singleton] at this
    exact hp (List.eq_nil_of_length_eq_zero (by omega))
  rw [pre_join hd] at h
  exact ⟨hd, List.append_cancel_right h⟩
/-- If the text that is cut next is none, or one too many, the path has no names. -/
theorem cut_no {p : ByteArray} {f i : Nat} {done : List ByteArray} (h : CutAt p.data.toList f (done.map (·.data.toList))) (hf : f ≤ i) (hi : i ≤ p.data.toList.length) (hm : (p.data.toList ++ [47])[i]? = some 47)
    (hd : ∀ d ∈ done, chk d.data.toList = true) (hx : 47 ∉ (p.data.toList.drop f).take (i - f)) (h1 : 1 < p.data.toList.length) (hbad : chk ((p.data.toList.drop f).take (i - f)) = false ∨ 16 ≤ done.length) :
    ∀ l, namesB l = true → joinS l ≠ p := by
  intro l hn hj
  have hl := joinS_data l
  rw [hj] at hl
  have hne : l ≠ [] := fun e => by
    subst e; rw [hl] at h1; simp [join_nil] at h1
  have hs := cut_step h hf hi hm
  unfold CutAt at hs
  rw [pre_snoc] at hs
  have hall : p.data.toList ++ [47] = pre (l.map (·.data.toList)) := by rw [pre_join (by simpa using hne), ← hl]
  have e := List.take_append_drop (i + 1) (p.data.toList ++ [47])
  rw [hs, hall] at e
  have e2 : pre (done.map (·.data.toList)) ++ (p.data.toList.drop f).take (i - f) ++ 47 :: (pre (l.map (·.data.toList))).drop (i + 1) = pre (l.map (·.data.toList)) := by
    simpa using e
  obtain ⟨ys', ey⟩ := decomp _ _ hx (done.map (·.data.toList)) (l.map (·.data.toList)) (fun d hd' => by
      obtain ⟨b, hb, rfl⟩ := List.mem_map.1 hd'; exact chk_no_mark (hd b hb))
    (fun y hy => by obtain ⟨b, hb, rfl⟩ := List.mem_map.1 hy; exact chk_no_mark (namesB_all hn b hb)) e2
  rcases hbad with hb | hb
  · have hmem : (p.data.toList.drop f).take (i - f) ∈ l.map (·.data.toList) := by rw [ey]; simp
    obtain ⟨b, hb2, e3⟩ := List.mem_map.1 hmem
    have := namesB_all hn b hb2
    rw [e3, hb] at this
    cases this
  · have := congrArg List.length ey
    simp at this
    have h16 := namesB_len hn
    omega
end Go.Proofs.YtjilmnadcbamaaaDoor
