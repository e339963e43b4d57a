/-
  The reference model's order of outcomes: l2Way, l2Bits; outcomes as records of three lists.
-/
import Derived.Test.YtnadihepgmbhaaaOrd
namespace Go.Proofs.Ytnadihepgmbhaaa
open Go.RowKit Pl
set_option maxHeartbeats 400000
set_option linter.unusedVariables false

theorem bitL_snoc {xs : List Bool} {k : Nat} {x : Bool} (h : xs[k]? = some x) : ints (bitL (xs.take (k + 1))) = ints (bitL (xs.take k)) ++ [.int .i64 (bit x)] := by
  rw [List.take_add_one, h]
  simp [ints, bitL]
/-- A row of numbers in memory of the call's own. -/
def MadeI (w : World) (zs : List Int) (e : Ending) (w' : World) : Prop :=
  ∃ g cap, e = .returned (.slice (some ⟨g, 0, none⟩) zs.length cap) ∧ zs.length ≤ cap ∧ cap ≤ maxLen ∧ w.heap.size ≤ g ∧ Below w.heap.size w w' ∧ OwnVs w' w.heap.size w'.heap.size 3 (some ⟨g, 0, none⟩) (ints zs)
theorem own_cap {w : World} {base g n cap : Nat} {t : TypeId} {vs : List Value} (h : w.ownsRow base t 1 (.slice (some ⟨g, 0, none⟩) n cap) n vs) : n ≤ cap ∧ cap ≤ maxLen := by
  rcases h.2 with ⟨h0, _⟩ | ⟨g', cap', cur, hv, _, _, h1, h2, _⟩
  · simp at h0
  · injection hv with _ _ hc
    subst hc
    exact ⟨h1, h2⟩
end Go.Proofs.Ytnadihepgmbhaaa
