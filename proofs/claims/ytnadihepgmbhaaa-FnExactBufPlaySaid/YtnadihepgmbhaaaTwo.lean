/-
  Contracts of Conflict, of the reference model and of the program: both come to the same plain function, whatever the statements and the memory.
-/
import Derived.Test.YtnadihepgmbhaaaReads
import Derived.Test.YtnadihepgmbhaaaFrame
namespace Go.Proofs.Ytnadihepgmbhaaa
open Go.RowKit Pl Go.BigFrame
set_option maxHeartbeats 400000

end Go.Proofs.Ytnadihepgmbhaaa
