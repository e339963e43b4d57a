/-
  The reference model's order of outcomes: l2Way, l2Bits; outcomes as records of three lists.
-/
import Derived.Test.YtnadihepgmbhaaaRec0
namespace Go.Proofs.Ytnadihepgmbhaaa
open Go.RowKit Pl
set_option maxHeartbeats 400000
set_option linter.unusedVariables false

def cmpZ (a b : Int) : Int := if a < b then -1 else if b < a then 1 else 0
def wayL : List Int → List Int → Int
  | [], ys => cmpZ 0 ys.length
  | x :: xs, [] => 1
  | x :: xs, y :: ys => if x < y then -1 else if y < x then 1 else wayL xs ys
def bit (b : Bool) : Int := if b then 1 else 0
def bitL (xs : List Bool) : List Int := xs.map bit
theorem figure_any (b : Bool) (w : World) : Calls Try.prog 143 #[.bool b] w fun e w' => e = .returned (.int .i64 (bit b)) ∧ w' = w := by
  cases b
  all_goals
    go_enter Try.func143, Try.ntmps143
    go_wp2
    go_ret
    exact ⟨rfl, rfl⟩

end Go.Proofs.Ytnadihepgmbhaaa
namespace Go.Proofs.Ytnadihepgmbhaaa
open Go.RowKit Pl
set_option maxHeartbeats 400000
set_option linter.unusedVariables false

/-- A row of numbers in memory of the call's own. -/
def MadeI (w : World) (zs : List Int) (e : Ending) (w' : World) : Prop :=
  ∃ g cap, e = .returned (.slice (some ⟨g, 0, none⟩) zs.length cap) ∧ zs.length ≤ cap ∧ cap ≤ maxLen ∧ w.heap.size ≤ g ∧ Below w.heap.size w w' ∧ OwnVs w' w.heap.size w'.heap.size 3 (some ⟨g, 0, none⟩) (ints zs)
theorem own_cap {w : World} {base g n cap : Nat} {t : TypeId} {vs : List Value} (h : w.ownsRow base t 1 (.slice (some ⟨g, 0, none⟩) n cap) n vs) : n ≤ cap ∧ cap ≤ maxLen := by
  rcases h.2 with ⟨h0, _⟩ | ⟨g', cap', cur, hv, _, _, h1, h2, _⟩
  · simp at h0
  · injection hv with _ _ hc
    subst hc
    exact ⟨h1, h2⟩
end Go.Proofs.Ytnadihepgmbhaaa
