/-
  Contracts of StateOk, of the program and of the reference model: both come to the same plain function of the program and the state.
-/
import Derived.Test.YtnadihepgmbhaaaNums
import Derived.Deep.QuietTactic
import Derived.BigQuiet
namespace Go.Proofs.Ytnadihepgmbhaaa
open Go.RowKit Pl
set_option maxHeartbeats 2000000
set_option maxRecDepth 100000
set_option linter.unusedVariables false

/-- What is a state of a program. -/
def stB (L : Pg) (s : Sta) : Bool :=
  ((((progB L && atZ L s.f0) && numB s.f1 ((L.length : Int) * 3) 0 3) && numB s.f2 3 0 3) && numB s.f3 2 (-1) ((L.length : Int) - 1)) && numB s.f4 2 (-1) 3

end Go.Proofs.Ytnadihepgmbhaaa
