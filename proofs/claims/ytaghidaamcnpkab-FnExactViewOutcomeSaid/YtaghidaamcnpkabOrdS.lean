/-
  The reference model's order of outcomes: l2Way, l2Bits; outcomes as records of three lists.
-/
import Derived.Test.YtaghidaamcnpkabVec
namespace Go.Proofs.Ytaghidaamcnpkab
open Go.RowKit Pl
set_option maxHeartbeats 400000
set_option linter.unusedVariables false

def cmpZ (a b : Int) : Int := if a < b then -1 else if b < a then 1 else 0
def wayL : List Int → List Int → Int
  | [], ys => cmpZ 0 ys.length
  | x :: xs, [] => 1
  | x :: xs, y :: ys => if x < y then -1 else if y < x then 1 else wayL xs ys
def bit (b : Bool) : Int := if b then 1 else 0
def bitL (xs : List Bool) : List Int := xs.map bit
theorem wayL_end {xs ys : List Int} {k : Nat} (h : k = xs.length ∨ k = ys.length) (h1 : k ≤ xs.length) (h2 : k ≤ ys.length) : wayL (xs.drop k) (ys.drop k) = cmpZ xs.length ys.length := by
  have e1 : (xs.drop k).length = xs.length - k := List.length_drop
  have e2 : (ys.drop k).length = ys.length - k := List.length_drop
  generalize xs.drop k = a at *
  generalize ys.drop k = b at *
  cases a with
  | nil =>
    simp at e1
    simp only [wayL, cmpZ, e2]
    split <;> split <;> (try split) <;> omega
  | cons x a =>
    cases b with
    | nil =>
      simp at e1 e2
      simp only [wayL, cmpZ]
      split <;> (try split) <;> omega
    | cons y b => simp at e1 e2; omega
theorem wayL_ne {x y : Int} (xs ys : List Int) (h : x ≠ y) : wayL (x :: xs) (y :: ys) = cmpZ x y := by
  simp only [wayL, cmpZ]
  split
  · rfl
  · split
    · rfl
    · omega
theorem wayL_eq (x : Int) (xs ys : List Int) : wayL (x :: xs) (x :: ys) = wayL xs ys := by
  simp [wayL]
theorem bitL_length (xs : List Bool) : (bitL xs).length = xs.length := by simp [bitL]
theorem bitL_drop (xs : List Bool) (k : Nat) : (bitL xs).drop k = bitL (xs.drop k) := by simp [bitL, List.map_drop]

theorem figure_any (b : Bool) (w : World) : Calls Try.prog 108 #[.bool b] w fun e w' => e = .returned (.int .i64 (bit b)) ∧ w' = w := by
  cases b
  all_goals
    go_enter Try.func108, Try.ntmps108
    go_wp2
    go_ret
    exact ⟨rfl, rfl⟩

theorem bit_ne {x y : Bool} (h : x ≠ y) : bit x ≠ bit y := by cases x <;> cases y <;> simp_all [bit]
end Go.Proofs.Ytaghidaamcnpkab
namespace Go.Proofs.Ytaghidaamcnpkab
open Go.RowKit Pl
set_option maxHeartbeats 400000
set_option linter.unusedVariables false

theorem bitL_snoc {xs : List Bool} {k : Nat} {x : Bool} (h : xs[k]? = some x) : ints (bitL (xs.take (k + 1))) = ints (bitL (xs.take k)) ++ [.int .i64 (bit x)] := by
  rw [List.take_add_one, h]
  simp [ints, bitL]
/-- A row of numbers in memory of the call's own. -/
def MadeI (w : World) (zs : List Int) (e : Ending) (w' : World) : Prop :=
  ∃ g cap, e = .returned (.slice (some ⟨g, 0, none⟩) zs.length cap) ∧ zs.length ≤ cap ∧ cap ≤ maxLen ∧ w.heap.size ≤ g ∧ Below w.heap.size w w' ∧ OwnVs w' w.heap.size w'.heap.size 3 (some ⟨g, 0, none⟩) (ints zs)
theorem own_cap {w : World} {base g n cap : Nat} {t : TypeId} {vs : List Value} (h : w.ownsRow base t 1 (.slice (some ⟨g, 0, none⟩) n cap) n vs) : n ≤ cap ∧ cap ≤ maxLen := by
  rcases h.2 with ⟨h0, _⟩ | ⟨g', cap', cur, hv, _, _, h1, h2, _⟩
  · simp at h0
  · injection hv with _ _ hc
    subst hc
    exact ⟨h1, h2⟩
end Go.Proofs.Ytaghidaamcnpkab
