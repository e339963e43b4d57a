/-
  How a list of numbers that came in reads.
-/
import Derived.Test.YtidibnmlceccnaaOpenV
import Derived.Test.YtidibnmlceccnaaIs
namespace Go.Proofs.Ytidibnmlceccnaa
open Go.ChangeShapes Go.WideShapes Go.ChangeAt Go.RowKit Go.Deep
set_option maxRecDepth 100000
section
variable {H : Type} {enc : TypeId × Value → H} {w : World} {base : Nat} {spare : Nat → Bool} {held : Bool}
theorem open_Is {r : Reach} {b0 : Nat} {v : Value} {d : DataW H} {p : List MemPlace} (hv : Value.okWide Try.prog w r b0 25 v) (h : DataW.Trod enc Try.prog w base spare held 25 v d p) :
    ∃ (h : IsH) (o : List Int), v = IsV h o ∧ IsL o maxLen ∧ IsR w w.heap.size h o := by
  obtain ⟨a, len, cap, rfl⟩ := okWide_slice Try.underlying25 hv
  obtain ⟨fuel, hf⟩ := h
  obtain ⟨A, xs, c, e, h1, h2, -, hr⟩ := ints_of Try.underlying25 hf
  exact ⟨⟨A, c⟩, xs, e, ⟨Nat.le_trans h1 h2⟩, ⟨hr⟩⟩
end
end Go.Proofs.Ytidibnmlceccnaa
