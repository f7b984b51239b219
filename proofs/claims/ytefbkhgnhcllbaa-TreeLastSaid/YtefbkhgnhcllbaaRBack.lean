/-
  The document's Back, and its lists of nodes, and numbers, that are the same.
-/
import Derived.Test.YtefbkhgnhcllbaaRWith
import Derived.Test.YtefbkhgnhcllbaaRDo
namespace Go.Proofs.Ytefbkhgnhcllbaa
open Go.RowKit Go.Lib
def ListPost (r : List Nod) (w : World) (e : Ending) (w' : World) : Prop := ∃ a c, e = .returned (.slice a r.length c) ∧ IsNd w' a c r ∧ Below w.heap.size w w'
set_option maxRecDepth 100000 in
set_option maxHeartbeats 8000000 in
theorem rback_any (a : Option Addr) (c : Nat) (l : List Nod) (o : Opn) (u : Und) (w : World) (h : IsNd w a c l) (hl : l.length ≤ 100000) :
    Calls Try.prog 24 #[.slice a l.length c, OV o, UV u] w (ListPost (backN l o u) w) := by
  have hlm : l.length ≤ maxLen := by unfold maxLen; omega
  have q0 := (below_alloc w (.cells #[.int .i64 o.c, .int .i64 o.r, .int .i64 o.k, .int .i64 o.n, .int .i64 o.p, .string o.s, .string o.d] 26)).trans ((below_alloc (w.alloc (.cells #[.int .i64 o.c, .int .i64 o.r, .int .i64 o.k, .int .i64 o.n, .int .i64 o.p, .string o.s, .string o.d] 26)) (.cells (cellsU u).toArray 30)).mono (by simp))
  have hO0 := Lib.hid ((hasO_new w o 26).below (below_alloc _ (.cells (cellsU u).toArray 30)))
  have hU0 := cells_new (w.alloc (.cells #[.int .i64 o.c, .int .i64 o.r, .int .i64 o.k, .int .i64 o.n, .int .i64 o.p, .string o.s, .string o.d] 26)) (cellsU u) 30
  have hs1 : (w.alloc (.cells #[.int .i64 o.c, .int .i64 o.r, .int .i64 o.k, .int .i64 o.n, .int .i64 o.p, .string o.s, .string o.d] 26)).heap.size = w.heap.size + 1 := by simp
  rw [hs1] at hU0
  have HU0 := Lib.hid hU0
  have H0 := Lib.hid h
  have h1 := Lib.hid (h.below q0)
  clear hU0 hs1 h
  go_enter Try.func24, Try.ntmps24
  go_wp2_with fail
  refine (rnchk_any a c l _ h1.out hlm).mono ?_
  rintro e w1 ⟨rfl, c1⟩
  have b1 := step_b q0 c1
  have hO1 := Lib.hid (hO0.out.below c1)
  have hU1 := Lib.hid (HU0.out.below c1)
  clear h1 hO0 HU0 c1 q0
  obtain ⟨m0, m1, m2, m3, m4, m5, m6⟩ := hO1.out
  obtain ⟨z0, z1, z2, z3, z4, z5, z6, z7, z8, z9⟩ := cellU_cells hU1.out
  cases hc : chkN l with
  | false =>
    have HD := Lib.hid (show backN l o u = l by unfold backN; rw [hc]; rfl)
    go_wp2_with fail
    go_ret
    exact ⟨a, c, by rw [HD.out]; rfl, by rw [HD.out]; exact H0.out.below b1, b1⟩
  | true =>
    have HC := Lib.hid hc
    clear hc
    obtain ⟨du, hdu⟩ : ∃ b, u.did = b := ⟨_, rfl⟩
    rw [hdu] at z0
    cases du with
    | false =>
      have HD := Lib.hid (show backN l o u = l by unfold backN; rw [HC.out, hdu]; rfl)
      clear hdu
      go_wp2_with fail
      go_ret
      exact ⟨a, c, by rw [HD.out]; rfl, by rw [HD.out]; exact H0.out.below b1, b1⟩
    | true =>
      have HDu := Lib.hid hdu
      obtain ⟨is, his⟩ : ∃ b, isN o.n = b := ⟨_, rfl⟩
      obtain ⟨hu, hhu⟩ : ∃ b, u.had = b := ⟨_, rfl⟩
      have HOf := Lib.hid (fun w => rof_any o.n w)
      rw [his] at HOf
      rw [hhu] at z1
      have HI := Lib.hid his
      have HH := Lib.hid hhu
      clear hdu his hhu
      go_wp2_with fail
      refine (HOf.out _).mono ?_
      rintro e w2 ⟨rfl, c2⟩
      have b2 := step_b b1 c2
      have hO2 := Lib.hid (hO1.out.below c2)
      have hU2 := Lib.hid (hU1.out.below c2)
      have lt5 := hU2.out.lt
      have lt6 : w.heap.size < w2.heap.size := by omega
      have bA := b2.trans ((below_alloc w2 (.cells #[.int .i64 (ofC o.n), .int .i64 (ofR o.n)] 24)).mono b2.size)
      clear m0 m1 m2 m3 m4 m5 m6 z0 z1 z2 z3 z4 z5 z6 z7 z8 z9 hO1 hU1 b1 c2
      obtain ⟨m0, m1, m2, m3, m4, m5, m6⟩ := hO2.out
      obtain ⟨z0, z1, z2, z3, z4, z5, z6, z7, z8, z9⟩ := cellU_cells hU2.out
      rw [HH.out] at z1
      rw [HDu.out] at z0
      obtain ⟨eq, heq⟩ : ∃ b, (u.was.id == o.n) = b := ⟨_, rfl⟩
      have HE := Lib.hid (show decide (u.was.id = o.n) = eq from heq)
      by_cases hall : hu = true ∧ eq = true ∧ is = true
      · obtain ⟨rfl, rfl, rfl⟩ := hall
        have HD := Lib.hid (show backN l o u = withN l u.was by unfold backN; rw [HC.out, HDu.out, HH.out, HE.out, HI.out]; rfl)
        go_wp2_with fail
        refine (rwith_any a c l u.was _ (H0.out.below bA) hl).mono ?_
        rintro e w3 ⟨v, rfl, hv, c3⟩
        obtain ⟨av, cv, rfl, hi⟩ := hv.isR nd_len
        have b3 := bA.trans (c3.mono bA.size)
        have Hi := Lib.hid hi
        clear hv hi
        go_wp2_with fail
        go_ret
        exact ⟨av, cv, by rw [HD.out]; rfl, by rw [HD.out]; exact Hi.out, b3⟩
      · have HD := Lib.hid (show backN l o u = without l o.n by
          unfold backN
          rw [HC.out, HDu.out, HH.out, HE.out, HI.out]
          simp only [Bool.and_self, if_true]
          rw [if_neg (by simpa [and_assoc] using hall)])
        cases hu <;> cases eq <;> cases is
        case true.true.true => exact absurd ⟨rfl, rfl, rfl⟩ hall
        all_goals
          clear hall
          go_wp2_with fail
          refine (rwithout_any a c l o.n _ (H0.out.below bA) (by omega)).mono ?_
          rintro e w3 ⟨v, rfl, hv, c3⟩
          obtain ⟨av, cv, rfl, hi⟩ := hv.isR nd_len
          have b3 := bA.trans (c3.mono bA.size)
          have Hi := Lib.hid hi
          clear hv hi
          go_wp2_with fail
          go_ret
          exact ⟨av, cv, by rw [HD.out]; rfl, by rw [HD.out]; exact Hi.out, b3⟩
end Go.Proofs.Ytefbkhgnhcllbaa
