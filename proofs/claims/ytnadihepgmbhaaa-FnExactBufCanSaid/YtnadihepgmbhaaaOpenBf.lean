/-
  How a state with buffers that came in reads, whatever holds it.
-/
import Derived.Test.YtnadihepgmbhaaaSpr
import Derived.Test.YtnadihepgmbhaaaOpenSt
namespace Go.Proofs.Ytnadihepgmbhaaa
open Go.ChangeShapes Go.WideShapes Go.ChangeAt Go.RowKit Go.Deep
set_option maxRecDepth 100000

section
variable {H : Type} {enc : TypeId × Value → H} {w : World} {base : Nat} {spare : Nat → Bool} {held : Bool}
theorem open_Buf {r : Reach} {b0 : Nat} {v : Value} {d : DataW H} {p : List MemPlace} (hv : Value.okWide Try.prog w r b0 64 v) (h : DataW.Trod enc Try.prog w base spare held 64 v d p) :
    ∃ (h : BufH) (o : Buf), v = BufV h o ∧ BufL o maxLen ∧ BufR w w.heap.size h o := by
  obtain ⟨cs, rfl, hsz⟩ := okWide_struct Try.underlying64 hv
  rw [show Try.prog.cellsOf 64 = 6 from by kernel_rfl] at hsz
  obtain ⟨fuel, hf⟩ := h
  obtain ⟨l⟩ := cs
  match l, hsz with
  | [x0, x1, x2, x3, x4, x5], _ =>
    obtain ⟨xs, n, _, _, _, hsx, hat⟩ := DataW.trod_struct Try.underlying64 hf
    have hsx' : xs.length = 2 := hsx
    have g : ∀ i, i < 2 → ∃ y, xs[i]? = some y := fun i hi => ⟨_, List.getElem?_eq_getElem (by omega)⟩
    obtain ⟨y0, hy0⟩ := g 0 (by omega)
    have t0 := hat 0 _ rfl
    rw [hy0] at t0
    obtain ⟨h0, o0, e0, l0, r0⟩ := cells_Sta (l := [x0, x1, x2, x3, x4]) rfl t0
    obtain ⟨y1, hy1⟩ := g 1 (by omega)
    have t1 := hat 1 _ rfl
    rw [hy1] at t1
    obtain ⟨k, L, e1, l1, r1⟩ := iss_of (v := x5) t1
    refine ⟨⟨h0, k⟩, ⟨o0, L⟩, ?_, ⟨l0, l1⟩, ⟨r0, r1⟩⟩
    simp only [Value.cells, List.cons.injEq, and_true] at e0
    obtain ⟨a0, a1, a2, a3, a4⟩ := e0
    rw [a0, a1, a2, a3, a4, e1]
end
end Go.Proofs.Ytnadihepgmbhaaa
