/-
  The contract of the program's edited: a new program of the call's own, one thread of which is spliced.
-/
import Derived.Test.YtaghidaamcnpkaaSplice
namespace Go.Proofs.Ytaghidaamcnpkaa
open Go.RowKit Pl
set_option maxHeartbeats 400000
set_option linter.unusedVariables false

/-- What a program of the call's own has come to behind k rounds, each thread in a new block. -/
def BuildS (w wr : World) (E : List (List Sm)) (k : Nat) : Prop :=
  Below w.heap.size w wr ∧ ∃ (cs : Array Value) (D C : Nat → Nat), Bk wr w.heap.size 44 cs ∧ cs.size = E.length ∧
    (∀ (i : Nat) (xs : List Sm), i < k → E[i]? = some xs → cs[i]? = some (.slice (some ⟨D i, 0, none⟩) xs.length (C i)) ∧ xs.length ≤ C i ∧ C i ≤ maxLen ∧ D i < wr.heap.size ∧ OwnRow wr (w.heap.size + 1) wr.heap.size (some ⟨D i, 0, none⟩) xs) ∧
    ∀ i j, i < j → j < k → D i < D j
theorem BuildS.next {w wr w1 : World} {E : List (List Sm)} {k c : Nat} {xs : List Sm} (h : BuildS w wr E k) (hb1 : Below wr.heap.size wr w1) (hnew : wr.heap.size < w1.heap.size)
    (hdone : OwnRow w1 wr.heap.size (wr.heap.size + 1) (some ⟨wr.heap.size, 0, none⟩) xs) (hc1 : xs.length ≤ c) (hc2 : c ≤ maxLen) (hx : E[k]? = some xs) :
    BuildS w (w1.setCell ⟨w.heap.size, k, none⟩ (.slice (some ⟨wr.heap.size, 0, none⟩) xs.length c)) E (k + 1) := by
  obtain ⟨h0, cs, D, C, hbk, hsz, hc0, hd⟩ := h
  have hk : k < E.length := (List.getElem?_eq_some_iff.1 hx).1
  have hlt := hbk.lt
  have hz := hb1.size
  have hset : ∀ i, i ≠ w.heap.size → (w1.setCell ⟨w.heap.size, k, none⟩ (.slice (some ⟨wr.heap.size, 0, none⟩) xs.length c)).heap[i]? = w1.heap[i]? := fun i hi => Below.heap_setCell w1 ⟨w.heap.size, k, none⟩ _ i hi
  have hs2 : (w1.setCell ⟨w.heap.size, k, none⟩ (.slice (some ⟨wr.heap.size, 0, none⟩) xs.length c)).heap.size = w1.heap.size := World.size_setCell ..
  refine ⟨(below_on h0 hb1).setCell (Nat.le_refl _) _, _, fun i => if i = k then wr.heap.size else D i, fun i => if i = k then c else C i, (hbk.below hb1 hlt).set _ _, by simpa using hsz, ?_, ?_⟩
  · intro i ys hi hy
    by_cases e : i = k
    · subst e
      obtain rfl : xs = ys := by rw [hx] at hy; injection hy
      refine ⟨by simp [hsz, hk], by simp [hc1], by simp [hc2], by simp [hs2, hnew], ?_⟩
      simp only [if_true]
      exact hdone.keep (by omega) (by omega) fun j hj _ => hset j (by omega)
    · obtain ⟨g0, g01, g02, g1, g2⟩ := hc0 i ys (by omega) hy
      simp only [if_neg e]
      refine ⟨?_, g01, g02, ?_, ?_⟩
      · rw [Array.getElem?_setIfInBounds_ne (by omega)]; exact g0
      · omega
      · exact g2.keep (by omega) (by omega) fun j hj hj2 => (hset j (by omega)).trans (hb1.block j hj2)
  · intro i j hij hj
    have hDi : D i < wr.heap.size := by
      have : i < E.length := by omega
      exact (hc0 i _ (by omega) (List.getElem?_eq_getElem this)).2.2.2.1
    by_cases e : j = k
    · have e' : i ≠ k := by omega
      simp only [if_pos e, if_neg e']
      exact hDi
    · have e' : i ≠ k := by omega
      simp only [if_neg e, if_neg e']
      exact hd i j hij (by omega)
theorem BuildS.done {w wr : World} {E : List (List Sm)} (h : BuildS w wr E E.length) : OwnRows2 wr w.heap.size wr.heap.size (some ⟨w.heap.size, 0, none⟩) E := fun _ => by
  obtain ⟨_, cs, D, C, hbk, _, hc, hd⟩ := h
  refine ⟨_, cs, fun i => some ⟨D i, 0, none⟩, C, rfl, Nat.le_refl _, hbk.lt, hbk, ?_, ?_⟩
  · intro i xs hi
    have hlt := (List.getElem?_eq_some_iff.1 hi).1
    obtain ⟨g0, g01, g02, _, g2⟩ := hc i xs hlt hi
    exact ⟨g0, g01, g02, (fun e0 => by cases e0), g2.keep (by omega) (Nat.le_refl _) fun _ _ _ => rfl⟩
  · intro i j xs ys hij hi hj _ _ e
    have := hd i j hij (List.getElem?_eq_some_iff.1 hj).1
    injection e with e
    injection e with e
    omega
theorem splice_zero (xs : List Sm) : splice xs 0 0 [] = xs := by simp [splice]

end Go.Proofs.Ytaghidaamcnpkaa
