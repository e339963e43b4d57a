/-
  What the program's Can comes to.
-/
import Derived.Test.YtiljakbjbiinkaaPack
import Derived.Deep.QuietTactic
import Derived.BigQuiet
namespace Go.Proofs.Ytiljakbjbiinkaa
open Go.RowKit Pl Go.BigFrame
set_option maxHeartbeats 4000000
set_option maxRecDepth 100000
set_option linter.unusedVariables false

/-- Whether a thread of a state can do its next statement. -/
def canB (L : Pg) (s : Sta) (th : Int) : Bool := stB L s && (inB th 0 ((L.length : Int) - 1) && canF L (pkF s) th.toNat)
end Go.Proofs.Ytiljakbjbiinkaa
