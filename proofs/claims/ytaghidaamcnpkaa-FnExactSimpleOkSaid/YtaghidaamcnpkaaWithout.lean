/-
  Contracts of the program's hasThread and Without, over plain lists, whatever the program and the memory.
-/
import Derived.Test.YtaghidaamcnpkaaEdit
import Derived.Test.YtaghidaamcnpkaaIsProg
namespace Go.Proofs.Ytaghidaamcnpkaa
open Go.RowKit Pl
set_option maxHeartbeats 400000
set_option linter.unusedVariables false

/-- A program's answer: a program of the call's own, and whether there is one. -/
def Answer (w : World) (E : List (List Sm)) (ok : Bool) (e : Ending) (w' : World) : Prop :=
  ∃ A c, e = .returned (.tuple #[.agg #[.slice A E.length c], .bool ok]) ∧ Below w.heap.size w w' ∧ OwnRows2 w' w.heap.size w'.heap.size A E
def hasB (L : List (List Sm)) (th : Int) : Bool := progB L && inB th 0 ((L.length : Int) - 1)
def woB (L : List (List Sm)) (th at_ : Int) : Bool := hasB L th && inB at_ 0 (((L.getD th.toNat []).length : Int) - 1)
def woE (L : List (List Sm)) (th at_ : Int) : List (List Sm) := if woB L th at_ then L.set th.toNat ((L.getD th.toNat []).eraseIdx at_.toNat) else []

theorem inB_iff {n lo hi : Int} : inB n lo hi = true ↔ lo ≤ n ∧ n ≤ hi := by simp [inB]
theorem prog_small {L : List (List Sm)} (h : progB L = true) : 1 ≤ L.length ∧ L.length ≤ 3 ∧ ∀ xs ∈ L, xs.length ≤ 6 := by
  simp only [progB, Bool.and_eq_true, decide_eq_true_eq, List.all_eq_true] at h
  exact ⟨h.1.1, h.1.2, fun xs hx => thr_len (h.2.1 xs hx)⟩

theorem splice_erase (xs : List Sm) (a : Nat) : splice xs a (a + 1) [] = xs.eraseIdx a := by
  rw [splice, List.nil_append, List.eraseIdx_eq_take_drop_succ]

end Go.Proofs.Ytaghidaamcnpkaa
