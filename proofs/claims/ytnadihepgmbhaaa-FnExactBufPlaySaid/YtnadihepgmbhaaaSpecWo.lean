/-
  The contract of the reference model's Without, over the same plain lists as the program's.
-/
import Derived.Test.YtnadihepgmbhaaaCopy1
namespace Go.Proofs.Ytnadihepgmbhaaa
open Go.RowKit Pl
set_option maxHeartbeats 400000
set_option linter.unusedVariables false

/-- The threads of a program of the call's own, blocks perhaps shared. -/
def InRows (w : World) (lo hi : Nat) (A : Option Addr) (L : List (List Sm)) : Prop :=
  0 < L.length → ∃ (g : Nat) (cs : Array Value), A = some ⟨g, 0, none⟩ ∧ lo ≤ g ∧ g < hi ∧ Bk w g 116 cs ∧
    ∀ (i : Nat) (xs : List Sm), L[i]? = some xs → ∃ Ai ci, cs[i]? = some (.slice Ai xs.length ci) ∧ xs.length ≤ ci ∧ ci ≤ maxLen ∧ (Ai = none → ci = 0) ∧ OwnRow w lo hi Ai xs
theorem InRows.rows {w : World} {lo hi : Nat} {A : Option Addr} {L : List (List Sm)} (h : InRows w lo hi A L) : Rows2 w hi A L := fun hn => by
  obtain ⟨g, cs, hA, _, hg, hb, hx⟩ := h hn
  refine ⟨g, 0, hA, hg, fun i xs hi => ?_⟩
  obtain ⟨Ai, ci, g0, g1, g2, g3, g4⟩ := hx i xs hi
  exact ⟨Ai, ci, by rw [Nat.zero_add]; exact (hb.cell i).trans g0, g1, g2, g3, g4.row⟩
theorem InRows.keep {w w' : World} {lo hi lo' hi' : Nat} {A : Option Addr} {L : List (List Sm)} (h : InRows w lo hi A L) (hl : lo' ≤ lo) (hh : hi ≤ hi') (hk : ∀ i, lo ≤ i → i < hi → w'.heap[i]? = w.heap[i]?) : InRows w' lo' hi' A L := fun hn => by
  obtain ⟨g, cs, hA, h0, hg, hb, hx⟩ := h hn
  refine ⟨g, cs, hA, by omega, by omega, (hk g h0 hg).trans hb, fun i xs hi => ?_⟩
  obtain ⟨Ai, ci, g0, g1, g2, g3, g4⟩ := hx i xs hi
  exact ⟨Ai, ci, g0, g1, g2, g3, g4.keep hl hh hk⟩
theorem InRows.below {w w' : World} {lo hi : Nat} {A : Option Addr} {L : List (List Sm)} {B : Nat} (h : InRows w lo hi A L) (hb : Below B w w') (hB : hi ≤ B) : InRows w' lo hi A L :=
  h.keep (Nat.le_refl _) (Nat.le_refl _) fun i _ hi => hb.block i (by omega)
/-- The reference model's answer. -/
def AnswerI (w : World) (E : List (List Sm)) (ok : Bool) (e : Ending) (w' : World) : Prop :=
  ∃ A c, e = .returned (.tuple #[.agg #[.slice A E.length c], .bool ok]) ∧ Below w.heap.size w w' ∧ InRows w' w.heap.size w'.heap.size A E

end Go.Proofs.Ytnadihepgmbhaaa
