/-
  A slice of ints that comes in; appended to; what the law's numbers are.
-/
import Derived.Test.YtnlhbaaoknbejaaAwake
import Derived.ProofKit
import Derived.OpenShut
import Derived.ChangeSlices
import Derived.OwnWalk
import Derived.Laws.AppendOwnNone
namespace Go.Proofs.Ytnlhbaaoknbejaa
open Go.ChangeShapes Go.WideShapes Go.ChangeAt Go.RowKit
def I64 (n : Int) : Prop := -9223372036854775808 ≤ n ∧ n ≤ 9223372036854775807
theorem i64_wf {n : Int} (h : (Lit.int .i64 n).wf = true) : I64 n := by
  simp only [Lit.wf, IntKind.min, IntKind.max, IntKind.signed, IntKind.bits, Bool.and_eq_true, decide_eq_true_eq, if_true] at h
  unfold I64; omega
theorem u16_wf {n : Int} (h : (Lit.int .u16 n).wf = true) : 0 ≤ n ∧ n ≤ 65535 := by
  simp only [Lit.wf, Bool.and_eq_true, decide_eq_true_eq] at h
  exact h
theorem add_none (b off j : Nat) : (⟨b, off, none⟩ : Addr).add j = ⟨b, off + j, none⟩ := by unfold Addr.add; split <;> simp_all
section
variable {H : Type} {enc : TypeId × Value → H} {W : World} {base : Nat} {v : Value} {d : DataW H} {p : List MemPlace}
theorem open_intl (hv : Value.okWide Try.prog W .any base 22 v) (h : DataW.Trod enc Try.prog W 0 (fun _ => true) true 22 v d p) :
    ∃ (a : Option Addr) (cap : Nat) (l : List Int), v = .slice a l.length cap ∧ (IsI W a cap l ∧ l.length ≤ maxLen ∧ (∀ x ∈ l, I64 x) ∧ (a = none → cap = 0)) := by
  obtain ⟨a, len, cap, rfl⟩ := okWide_slice Try.underlying22 hv
  obtain ⟨fuel, hf⟩ := h
  rcases open_ints Try.underlying22 Try.underlying3 (by kernel_rfl) hf with ⟨hcs, _⟩ | ⟨x, l, c, zs, hcs, _, hl, hm, hz, _, hcell, hwf⟩
  · simp [Value.cells] at hcs
    obtain ⟨rfl, rfl, rfl⟩ := hcs
    exact ⟨none, 0, [], rfl, ⟨Nat.le_refl _, fun hne => absurd rfl hne⟩, Nat.zero_le _, fun x hx => (by cases hx), fun _ => rfl⟩
  · simp [Value.cells] at hcs
    obtain ⟨rfl, rfl, rfl⟩ := hcs
    have hzl : zs.length = cap := by simpa using hz
    have hlen : (zs.take len).length = len := by rw [List.length_take]; omega
    refine ⟨some x, cap, zs.take len, by rw [hlen], ⟨by omega, fun hne => ?_⟩, by rw [hlen]; omega, fun y hy => i64_wf (hwf y (List.mem_of_mem_take hy)), fun e => by cases e⟩
    have hpos : 0 < len := by
      have := List.length_pos_iff.2 hne
      omega
    obtain ⟨b, off, spot⟩ := x
    have hc0 := hcell 0 (by omega)
    have hspot : spot = none := by simpa [Addr.add] using World.cell?_spot hc0
    subst hspot
    refine ⟨b, off, rfl, World.block_lt_of_cell? W _ (by rw [add_none] at hc0; exact hc0), fun j s hj => ?_⟩
    have hjl : j < len := by
      by_cases e : j < len
      · exact e
      · rw [List.getElem?_eq_none (by omega)] at hj; cases hj
    rw [List.getElem?_take_of_lt hjl] at hj
    have := hcell j (by omega)
    rw [add_none] at this
    rw [this, List.getD, hj]; rfl
end
def intCells (l : List Int) : List Value := l.map (Value.int .i64)
theorem infoI : (Try.prog.info? 3).map (fun i => (i.zero, i.size, i.bytes)) = some (some (.int .i64 0), 1, 8) := by kernel_rfl
theorem own_isI {w : World} {base : Nat} {v : Value} {n : Nat} {l : List Int} (h : w.ownsRow base 3 1 v n (intCells l)) (hnl : l.length = n) :
    ∃ a c, v = .slice a l.length c ∧ IsI w a c l := by
  subst hnl
  have hc : ∀ g, v.ownBlock = some g → ∀ j u, (intCells l)[j]? = some u → w.cell? ((⟨g, 0, none⟩ : Addr).add j) = some u := fun g hg => h.cells hg
  have hlt := h.lt
  obtain ⟨hn, ⟨rfl, h0⟩ | ⟨g, cap, cur, rfl, hb, hg, hcap, hm, hs, hx⟩⟩ := h
  · have : l = [] := List.eq_nil_of_length_eq_zero h0
    subst this
    exact ⟨none, 0, rfl, Nat.le_refl _, fun h => absurd rfl h⟩
  · refine ⟨_, cap, rfl, hcap, fun _ => ⟨g, 0, rfl, (hlt g rfl).2, fun j x hj => ?_⟩⟩
    have h3 := hc g rfl j (.int .i64 x) (by simp [intCells, hj])
    rw [add_none] at h3
    exact h3
/-- append(v, x...), both slices of ints, v a row of the call's own. -/
theorem wpList_append_ints {w : World} {ops : Array Oper} {rest : List Oper} {o : Oper} {a : Act} {Q : Exit → Act → World → Prop} (hgd : o.guard = none) (s x : Operand)
    (ho : o.op = .call { callee := .builtin .append, args := #[s, x], argTypes := #[22, 22] })
    (base : Nat) (v : Value) (l m : List Int) (hs : a.eval s = v) (hown : w.ownsRow base 3 1 v l.length (intCells l))
    (A : Option Addr) (c : Nat) (hx : a.eval x = .slice A m.length c) (hm : IsI w A c m) (hnone : A = none → c = 0)
    (h63 : l.length + m.length ≤ 1000000) (hbase : base ≤ w.heap.size)
    (h : ∀ v' w', w'.ownsRow base 3 1 v' (l ++ m).length (intCells (l ++ m)) → w.grownBy w' v.ownBlock → wpList Try.prog ops Q rest (a.put o.dst v') w') :
    wpList Try.prog ops Q (o :: rest) a w := by
  obtain ⟨i, hi, hz, hsz, hby⟩ := info_parts infoI
  have hlen : (l ++ m).length = l.length + m.length := List.length_append
  cases A with
  | none =>
    have hc := hnone rfl
    subst hc
    have : m = [] := List.eq_nil_of_length_eq_zero (by have := hm.1; omega)
    subst this
    refine wpList_append_own_none hgd s x 22 ho base 3 i 1 Try.underlying22 hi v l.length (intCells l) hs hown hx (h v w ?_ (World.grownBy.refl w _))
    simpa using hown
  | some ad =>
    refine wpList_append_own w hgd s x 22 ho base 3 i (.int .i64 0) 1 8 Try.underlying22 hi hz hsz hby rfl (by decide) v l.length (intCells l) hs hown ad m.length c (intCells m) hx (by simp [intCells]) ?_ (by intro u hu; simp only [intCells, List.mem_map] at hu; obtain ⟨y, _, rfl⟩ := hu; rfl) (by unfold maxLen; omega) (by omega) hbase ?_
    · intro j u hu
      simp only [intCells, List.getElem?_map, Option.map_eq_some_iff] at hu
      obtain ⟨y, hy, rfl⟩ := hu
      have hne : m ≠ [] := by intro e; subst e; simp at hy
      obtain ⟨b, off, e, _, hcell⟩ := hm.2 hne
      simp only [Option.some.injEq] at e
      subst e
      rw [add_none]
      exact hcell j y hy
    · intro v' w' h1 h2 _
      exact h v' w' (by rw [hlen]; simpa [intCells] using h1) h2
end Go.Proofs.Ytnlhbaaoknbejaa
