/-
  How a record of lists (State) that came in reads, whatever holds it.
-/
import Derived.Test.YtiljakbjbiinkaaSt
import Derived.Test.YtiljakbjbiinkaaOpenV
namespace Go.Proofs.Ytiljakbjbiinkaa
open Go.ChangeShapes Go.WideShapes Go.ChangeAt Go.RowKit Go.Deep
set_option maxRecDepth 100000

section
variable {H : Type} {enc : TypeId × Value → H} {w : World} {base : Nat} {spare : Nat → Bool} {held : Bool}
theorem cells_Sta {fuel : Nat} {l : List Value} {y : DataW H × List MemPlace} (hl : l.length = 5) (hf : DataW.trod enc Try.prog w base spare held fuel 50 l = some y) :
    ∃ (h : StaH) (o : Sta), l = (StaV h o).cells.toList ∧ StaL o maxLen ∧ StaR w w.heap.size h o := by
  match l, hl with
  | [x0, x1, x2, x3, x4], _ =>
    obtain ⟨xs, n, _, _, _, hsx, hat⟩ := DataW.trod_struct Try.underlying50 hf
    have hsx' : xs.length = 5 := hsx
    have g : ∀ i, i < 5 → ∃ y, xs[i]? = some y := fun i hi => ⟨_, List.getElem?_eq_getElem (by omega)⟩
    obtain ⟨y0, hy0⟩ := g 0 (by omega)
    have t0 := hat 0 _ rfl
    rw [hy0] at t0
    obtain ⟨A0, v0, c0, e0, p0, q0, _, s0⟩ := ints_of (v := x0) Try.underlying39 t0
    obtain ⟨y1, hy1⟩ := g 1 (by omega)
    have t1 := hat 1 _ rfl
    rw [hy1] at t1
    obtain ⟨A1, v1, c1, e1, p1, q1, _, s1⟩ := ints_of (v := x1) Try.underlying39 t1
    obtain ⟨y2, hy2⟩ := g 2 (by omega)
    have t2 := hat 2 _ rfl
    rw [hy2] at t2
    obtain ⟨A2, v2, c2, e2, p2, q2, _, s2⟩ := ints_of (v := x2) Try.underlying39 t2
    obtain ⟨y3, hy3⟩ := g 3 (by omega)
    have t3 := hat 3 _ rfl
    rw [hy3] at t3
    obtain ⟨A3, v3, c3, e3, p3, q3, _, s3⟩ := ints_of (v := x3) Try.underlying39 t3
    obtain ⟨y4, hy4⟩ := g 4 (by omega)
    have t4 := hat 4 _ rfl
    rw [hy4] at t4
    obtain ⟨A4, v4, c4, e4, p4, q4, _, s4⟩ := ints_of (v := x4) Try.underlying39 t4
    exact ⟨⟨A0, A1, A2, A3, A4, c0, c1, c2, c3, c4⟩, ⟨v0, v1, v2, v3, v4⟩, by rw [e0, e1, e2, e3, e4]; rfl, ⟨Nat.le_trans p0 q0, Nat.le_trans p1 q1, Nat.le_trans p2 q2, Nat.le_trans p3 q3, Nat.le_trans p4 q4⟩, ⟨s0, s1, s2, s3, s4⟩⟩
theorem open_Sta {r : Reach} {b0 : Nat} {v : Value} {d : DataW H} {p : List MemPlace} (hv : Value.okWide Try.prog w r b0 50 v) (h : DataW.Trod enc Try.prog w base spare held 50 v d p) :
    ∃ (h : StaH) (o : Sta), v = StaV h o ∧ StaL o maxLen ∧ StaR w w.heap.size h o := by
  obtain ⟨cs, rfl, hsz⟩ := okWide_struct Try.underlying50 hv
  rw [show Try.prog.cellsOf 50 = 5 from by kernel_rfl] at hsz
  obtain ⟨fuel, hf⟩ := h
  obtain ⟨h, o, e, l, r⟩ := cells_Sta (show cs.toList.length = _ from by simpa using hsz) hf
  refine ⟨h, o, ?_, l, r⟩
  simp only [Value.cells] at e
  rw [show cs = _ from Array.ext' e]
end
end Go.Proofs.Ytiljakbjbiinkaa
