/-
  How a record of lists (Outcome) that came in reads, whatever holds it.
-/
import Derived.Test.YteinbbhhjalbeaaOc
import Derived.Test.YteinbbhhjalbeaaOpenV
namespace Go.Proofs.Yteinbbhhjalbeaa
open Go.ChangeShapes Go.WideShapes Go.ChangeAt Go.RowKit Go.Deep
set_option maxRecDepth 100000

section
variable {H : Type} {enc : TypeId × Value → H} {w : World} {base : Nat} {spare : Nat → Bool} {held : Bool}
theorem cells_Oc {fuel : Nat} {l : List Value} {y : DataW H × List MemPlace} (hl : l.length = 3) (hf : DataW.trod enc Try.prog w base spare held fuel 73 l = some y) :
    ∃ (h : OcH) (o : Oc), l = (OcV h o).cells.toList ∧ OcL o maxLen ∧ OcR w w.heap.size h o := by
  match l, hl with
  | [x0, x1, x2], _ =>
    obtain ⟨xs, n, _, _, _, hsx, hat⟩ := DataW.trod_struct Try.underlying73 hf
    have hsx' : xs.length = 3 := hsx
    have g : ∀ i, i < 3 → ∃ y, xs[i]? = some y := fun i hi => ⟨_, List.getElem?_eq_getElem (by omega)⟩
    obtain ⟨y0, hy0⟩ := g 0 (by omega)
    have t0 := hat 0 _ rfl
    rw [hy0] at t0
    obtain ⟨A0, v0, c0, e0, p0, q0, _, s0⟩ := ints_of (v := x0) Try.underlying43 t0
    obtain ⟨y1, hy1⟩ := g 1 (by omega)
    have t1 := hat 1 _ rfl
    rw [hy1] at t1
    obtain ⟨A1, v1, c1, e1, p1, q1, _, s1⟩ := ints_of (v := x1) Try.underlying43 t1
    obtain ⟨y2, hy2⟩ := g 2 (by omega)
    have t2 := hat 2 _ rfl
    rw [hy2] at t2
    obtain ⟨A2, v2, c2, e2, p2, q2, _, s2⟩ := bools_of (v := x2) Try.underlying66 t2
    exact ⟨⟨A0, A1, A2, c0, c1, c2⟩, ⟨v0, v1, v2⟩, by rw [e0, e1, e2]; rfl, ⟨Nat.le_trans p0 q0, Nat.le_trans p1 q1, Nat.le_trans p2 q2⟩, ⟨s0, s1, s2⟩⟩
theorem open_Oc {r : Reach} {b0 : Nat} {v : Value} {d : DataW H} {p : List MemPlace} (hv : Value.okWide Try.prog w r b0 73 v) (h : DataW.Trod enc Try.prog w base spare held 73 v d p) :
    ∃ (h : OcH) (o : Oc), v = OcV h o ∧ OcL o maxLen ∧ OcR w w.heap.size h o := by
  obtain ⟨cs, rfl, hsz⟩ := okWide_struct Try.underlying73 hv
  rw [show Try.prog.cellsOf 73 = 3 from by kernel_rfl] at hsz
  obtain ⟨fuel, hf⟩ := h
  obtain ⟨h, o, e, l, r⟩ := cells_Oc (show cs.toList.length = _ from by simpa using hsz) hf
  refine ⟨h, o, ?_, l, r⟩
  simp only [Value.cells] at e
  rw [show cs = _ from Array.ext' e]
end
end Go.Proofs.Yteinbbhhjalbeaa
