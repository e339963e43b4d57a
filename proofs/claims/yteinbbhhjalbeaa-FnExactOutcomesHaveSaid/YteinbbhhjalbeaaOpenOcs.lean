/-
  How a list of outcomes that came in reads, whatever holds it.
-/
import Derived.Test.YteinbbhhjalbeaaOcs
import Derived.Test.YteinbbhhjalbeaaOpenOc
namespace Go.Proofs.Yteinbbhhjalbeaa
open Go.ChangeShapes Go.WideShapes Go.ChangeAt Go.RowKit Go.Deep
set_option maxRecDepth 100000

section
variable {H : Type} {enc : TypeId × Value → H} {w : World} {base : Nat} {spare : Nat → Bool} {held : Bool}
theorem ocs_of {fuel : Nat} {v : Value} {y : DataW H × List MemPlace} (h : DataW.trod enc Try.prog w base spare held fuel 78 [v] = some y) :
    ∃ (h : OcsH) (o : Ocs), v = OcsV h o ∧ OcsL o maxLen ∧ OcsR w w.heap.size h o := by
  have hC : Try.prog.cellsOf 73 = 3 := by kernel_rfl
  rcases open_slice Try.underlying78 h with ⟨h0, _⟩ | ⟨a, len, cap, m, n, D, Pl, hcs, hb, hl, hm, hmm, _, hi⟩
  · simp at h0
    exact ⟨⟨none, 0⟩, [], h0, ⟨Nat.zero_le _, fun x hx => absurd hx (by simp)⟩, fun hn => absurd hn (by simp)⟩
  · simp at hcs
    have hlm : len ≤ m := by rw [hmm]; split <;> omega
    have key : ∀ i, i < len → ∃ p : OcH × Oc, w.cell? ((a.add (i * 3)).add 0) = some (.slice p.1.A0 p.2.f0.length p.1.c0) ∧ w.cell? ((a.add (i * 3)).add 1) = some (.slice p.1.A1 p.2.f1.length p.1.c1) ∧ w.cell? ((a.add (i * 3)).add 2) = some (.slice p.1.A2 p.2.f2.length p.1.c2) ∧ OcL p.2 maxLen ∧ OcR w w.heap.size p.1 p.2 := by
      intro i hlt
      obtain ⟨cs', hc, htr⟩ := hi i (by omega)
      rw [hC] at hc
      obtain ⟨_, hlen, hat⟩ := World.cells?_some hc
      obtain ⟨k, x, e, l, r⟩ := cells_Oc hlen htr
      subst e
      exact ⟨⟨k, x⟩, hat 0 (by omega), hat 1 (by omega), hat 2 (by omega), l, r⟩
    obtain ⟨f, hf⟩ := choose_lt key
    refine ⟨⟨some a, cap⟩, (List.range len).map fun i => (f i).2, by rw [hcs, OcsV, List.length_map, List.length_range], ⟨by simp; omega, fun x hx => ?_⟩, fun hn => ?_⟩
    · simp only [List.mem_map, List.mem_range] at hx
      obtain ⟨i, hi', rfl⟩ := hx
      exact (hf i hi').2.2.2.1
    have hn' : 0 < len := by simpa using hn
    have h0 := (hf 0 hn').1
    obtain ⟨b, off, spot⟩ := a
    have hspot : spot = none := by simpa [Addr.add] using World.cell?_spot h0
    subst hspot
    refine ⟨b, off, rfl, by have := World.block_lt_of_cell? w _ h0; simpa [Addr.add] using this, fun j x hj => ?_⟩
    have hjl : j < len := by
      have := (List.getElem?_eq_some_iff.1 hj).1
      simpa using this
    have hx : x = (f j).2 := by
      rw [List.getElem?_map, List.getElem?_range hjl] at hj
      simpa using hj.symm
    subst hx
    obtain ⟨g0, g1, g2, _, g4⟩ := hf j hjl
    rw [addr_add, addr_add] at g0 g1 g2
    exact ⟨(f j).1, ⟨g0, g1, g2⟩, g4⟩
theorem open_Ocs {r : Reach} {b0 : Nat} {v : Value} {d : DataW H} {p : List MemPlace} (hv : Value.okWide Try.prog w r b0 78 v) (h : DataW.Trod enc Try.prog w base spare held 78 v d p) :
    ∃ (h : OcsH) (o : Ocs), v = OcsV h o ∧ OcsL o maxLen ∧ OcsR w w.heap.size h o := by
  obtain ⟨a, len, cap, rfl⟩ := okWide_slice Try.underlying78 hv
  obtain ⟨fuel, hf⟩ := h
  exact ocs_of hf
end
end Go.Proofs.Yteinbbhhjalbeaa
