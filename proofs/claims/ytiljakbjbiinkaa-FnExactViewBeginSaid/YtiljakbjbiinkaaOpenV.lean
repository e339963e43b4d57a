/-
  How lists of numbers and of truths that came in read, whatever holds them.
-/
import Derived.Test.YtiljakbjbiinkaaVs
import Derived.Test.YtiljakbjbiinkaaOpenP
namespace Go.Proofs.Ytiljakbjbiinkaa
open Go.ChangeShapes Go.WideShapes Go.ChangeAt Go.RowKit Go.Deep
set_option maxRecDepth 100000

section
variable {H : Type} {enc : TypeId × Value → H} {w : World} {base : Nat} {spare : Nat → Bool} {held : Bool}
theorem ints_of {t : TypeId} {fuel : Nat} {v : Value} {y : DataW H × List MemPlace} (ht : Try.prog.underlying t = some (.slice 3)) (h : DataW.trod enc Try.prog w base spare held fuel t [v] = some y) :
    ∃ (A : Option Addr) (xs : List Int) (c : Nat), v = .slice A xs.length c ∧ xs.length ≤ c ∧ c ≤ maxLen ∧ (A = none → c = 0) ∧ Vs w w.heap.size A (ints xs) := by
  rcases open_slice1 ht (by kernel_rfl) h with ⟨h0, _⟩ | ⟨a, len, cap, m, n, V, D, Pl, hcs, hb, hl, hm, hmm, _, hi⟩
  · simp at h0
    exact ⟨none, [], 0, h0, Nat.le_refl _, Nat.zero_le _, fun _ => rfl, Vs.nil _ _ _⟩
  · simp at hcs
    have hlm : len ≤ m := by rw [hmm]; split <;> omega
    have key : ∀ i, i < len → ∃ x : Int, w.cell? (a.add i) = some (.int .i64 x) := by
      intro i hlt
      obtain ⟨hc, htr⟩ := hi i (by omega)
      obtain ⟨k, e0, _⟩ := DataW.trod_int Try.underlying3 htr
      simp at e0
      exact ⟨k, by rw [hc, e0]⟩
    obtain ⟨f, hf⟩ := choose_lt key
    refine ⟨some a, (List.range len).map f, cap, by simpa using hcs, by simpa using hl, hm, (fun e => by cases e), fun hn => ?_⟩
    have hn' : 0 < len := by simpa using hn
    have h0 := hf 0 hn'
    obtain ⟨b, off, spot⟩ := a
    have hspot : spot = none := by simpa [Addr.add] using World.cell?_spot h0
    subst hspot
    refine ⟨b, off, rfl, by have := World.block_lt_of_cell? w _ h0; simpa [Addr.add] using this, fun j v hj => ?_⟩
    have hjl : j < len := by
      have := (List.getElem?_eq_some_iff.1 hj).1
      simpa using this
    have hx : v = .int .i64 (f j) := by
      simp only [ints, List.getElem?_map, List.getElem?_range hjl] at hj
      simpa using hj.symm
    subst hx
    have := hf j hjl
    rw [addr_add] at this
    exact this
theorem bools_of {t : TypeId} {fuel : Nat} {v : Value} {y : DataW H × List MemPlace} (ht : Try.prog.underlying t = some (.slice 4)) (h : DataW.trod enc Try.prog w base spare held fuel t [v] = some y) :
    ∃ (A : Option Addr) (xs : List Bool) (c : Nat), v = .slice A xs.length c ∧ xs.length ≤ c ∧ c ≤ maxLen ∧ (A = none → c = 0) ∧ Vs w w.heap.size A (bools xs) := by
  rcases open_slice1 ht (by kernel_rfl) h with ⟨h0, _⟩ | ⟨a, len, cap, m, n, V, D, Pl, hcs, hb, hl, hm, hmm, _, hi⟩
  · simp at h0
    exact ⟨none, [], 0, h0, Nat.le_refl _, Nat.zero_le _, fun _ => rfl, Vs.nil _ _ _⟩
  · simp at hcs
    have hlm : len ≤ m := by rw [hmm]; split <;> omega
    have key : ∀ i, i < len → ∃ x : Bool, w.cell? (a.add i) = some (.bool x) := by
      intro i hlt
      obtain ⟨hc, htr⟩ := hi i (by omega)
      obtain ⟨k, e0, _⟩ := DataW.trod_bool Try.underlying4 htr
      simp at e0
      exact ⟨k, by rw [hc, e0]⟩
    obtain ⟨f, hf⟩ := choose_lt key
    refine ⟨some a, (List.range len).map f, cap, by simpa using hcs, by simpa using hl, hm, (fun e => by cases e), fun hn => ?_⟩
    have hn' : 0 < len := by simpa using hn
    have h0 := hf 0 hn'
    obtain ⟨b, off, spot⟩ := a
    have hspot : spot = none := by simpa [Addr.add] using World.cell?_spot h0
    subst hspot
    refine ⟨b, off, rfl, by have := World.block_lt_of_cell? w _ h0; simpa [Addr.add] using this, fun j v hj => ?_⟩
    have hjl : j < len := by
      have := (List.getElem?_eq_some_iff.1 hj).1
      simpa using this
    have hx : v = .bool (f j) := by
      simp only [bools, List.getElem?_map, List.getElem?_range hjl] at hj
      simpa using hj.symm
    subst hx
    have := hf j hjl
    rw [addr_add] at this
    exact this
end
end Go.Proofs.Ytiljakbjbiinkaa
