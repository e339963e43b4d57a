/-
  Contracts of the reference model's Depend, and of the laws' copy of an event.
-/
import Derived.Test.YtakadejpgndhpaaDep
namespace Go.Proofs.Ytakadejpgndhpaa
open Go.RowKit Pl Go.BigFrame
set_option maxHeartbeats 4000000
set_option maxRecDepth 100000
set_option linter.unusedVariables false

def depB (t i k a b c : Int) (s : Bool) (t' i' k' a' b' c' : Int) (s' : Bool) : Bool := t == t' || touB k a b c s k' a' b' c' s'
end Go.Proofs.Ytakadejpgndhpaa
namespace Go.Proofs.Ytakadejpgndhpaa
open Go.RowKit Pl Go.BigFrame
set_option maxHeartbeats 4000000
set_option maxRecDepth 100000
set_option linter.unusedVariables false

end Go.Proofs.Ytakadejpgndhpaa
