/-
  Contracts of the laws' marks: they write numbers into a program of the call's own, and touch nothing else; and of what looks whether the numbers still stand.
-/
import Derived.Test.YtaghidaamcnpkaaSpecWo
import Derived.Test.YtaghidaamcnpkaaOnly
namespace Go.Proofs.Ytaghidaamcnpkaa
open Go.RowKit Pl
set_option maxHeartbeats 400000
set_option linter.unusedVariables false

/-- What marks have come to in one block behind k statements. -/
def MarkS (w wr : World) (g : Nat) (K : Int) (n k : Nat) : Prop :=
  Only g (g + 1) w wr ∧ ∃ cs, Bk wr g 46 cs ∧ n * 5 ≤ cs.size ∧ ∀ j, j < k → SmCs cs (j * 5) (num5 (K + 5 * (j : Int)))
theorem MarkS.next {w wr : World} {g n k : Nat} {K : Int} (h : MarkS w wr g K n k) (hk : k < n) {x : Sm} (hx : x = num5 (K + 5 * (k : Int))) :
    MarkS w (((((wr.setCell ⟨g, k * 5, none⟩ (.int .i64 x.k)).setCell ⟨g, k * 5 + 1, none⟩ (.int .i64 x.a)).setCell ⟨g, k * 5 + 2, none⟩ (.int .i64 x.b)).setCell ⟨g, k * 5 + 3, none⟩ (.int .i64 x.c)).setCell ⟨g, k * 5 + 4, none⟩ (.bool x.s)) g K n (k + 1) := by
  obtain ⟨h0, cs, hbk, hsz, hc⟩ := h
  refine ⟨((((h0.setCell (Nat.le_refl _) (Nat.lt_succ_self _) _).setCell (Nat.le_refl _) (Nat.lt_succ_self _) _).setCell (Nat.le_refl _) (Nat.lt_succ_self _) _).setCell (Nat.le_refl _) (Nat.lt_succ_self _) _).setCell (Nat.le_refl _) (Nat.lt_succ_self _) _, _, hbk.put5 x, by rw [size_put5]; exact hsz, ?_⟩
  intro j hj
  by_cases e : j = k
  · subst e
    rw [← hx]
    exact put5_at x (by omega)
  · exact put5_other x (hc j (by omega)) (Or.inl (by omega))
theorem MarkS.done {w wr : World} {g n : Nat} {K : Int} (h : MarkS w wr g K n n) : OwnRow wr g (g + 1) (some ⟨g, 0, none⟩) (nums K n) := fun hn => by
  obtain ⟨_, cs, hbk, _, hc⟩ := h
  refine ⟨g, cs, rfl, Nat.le_refl _, by omega, hbk, fun j x hj => ?_⟩
  have hl := (List.getElem?_eq_some_iff.1 hj)
  obtain ⟨h1, h2⟩ := hl
  rw [nums_at] at h2
  rw [← h2]
  exact hc j (by rw [nums_length] at h1; exact h1)

theorem num5_eq (q : Int) : (⟨q, q + 1, q + 1 + 1, q + 1 + 1 + 1, (q + 1 + 1 + 1 + 1) % 3 == 0⟩ : Sm) = num5 q := by
  simp only [num5, Sm.mk.injEq, true_and]
  refine ⟨by omega, by omega, ?_⟩
  rw [show q + 1 + 1 + 1 + 1 = q + 4 by omega]

theorem held_ints (K : Int) (n : Nat) {k : Nat} (hk : k < n) : (nums K n)[k]? = some (num5 (K + 5 * (k : Int))) := by
  rw [List.getElem?_eq_getElem (by rw [nums_length]; exact hk), nums_at]

end Go.Proofs.Ytaghidaamcnpkaa
