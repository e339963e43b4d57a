/-
  No cell of these rows narrows 'for every input' (looked for: loops, veiled, ifaces, maps, wideKeys, modest, calm, conditions, laid).
  DERIVED. THE GIVEN ROWS OF THIS SEAT. 12 by the template 'for every input the law returns true; each argument reads behind the call as it read before'; 0 by the template 'total and deterministic' (their statements: YtbddmicgfhljeaaTotals.lean).
  GIVEN WITH THE SEED: the statements are not yours to turn. If you find one false, say at which input.
  Laid BY PROGRAM, IN A SANDBOX (cutbox-rows.mjs): the forced cells as the released guide's own fill.sh prints them over the translation 3c1db373be3c405a… (all of the seat's roots in one cut). By AI agents, Wed Nov 11 2026. No macro, syntax, notation, axiom, sorry.
-/
import Derived.Test.YtbddmicgfhljeaaChecked
import GoSem.Claim
import GoSem.ClaimJoined
import GoSem.ClaimMapViews
import Derived.JoinedTies
import Derived.KernelRfl
namespace Go.Proofs.Ytbddmicgfhljeaa
/- THE CELL 'sum', in the pinned program and in every row, IS THE sha256 OF THE DUMP (.gsa) THAT YtbddmicgfhljeaaProg.lean LOADS. Nothing in Lean hashes anything: it is a label: what it is worth is what the hold of that sum in a sandbox is worth. -/
noncomputable def Try.pinned : Pinned := { name := "ytbddmicgfhljeaa", sum := "3c1db373be3c405a8669a18687b0604db22e6b481520a9f02f5aa518ced35088", checked := Try.checked }
namespace Rows
def none {H : Type} : Left H := { results := [], args := [] }

/-- 'laws.FnExactEventsOf': WHATEVER THE INPUT: true; the input reads as it did. -/
def fnExactEventsOfSpec : ChangeSpec := { name := "fnExactEventsOf", fn := fun _ => fun
  | [d1, d2] => { results := [.lit (.bool true)], args := [d1, d2] }
  | _ => none }
def fnExactEventsOfRow : OpenClaim := { program := "ytbddmicgfhljeaa", sum := "3c1db373be3c405a8669a18687b0604db22e6b481520a9f02f5aa518ced35088", func := "loop.example/wholethreads/laws.FnExactEventsOf", spec := "fnExactEventsOf", apart := false }
def FnExactEventsOfSaid : Prop := fnExactEventsOfRow.holds Try.pinned (OpenSpec.ofChange fnExactEventsOfSpec)

/-- ITS FALSE NEIGHBOUR: 'it returns false'. Refute it at one input. -/
def fnExactEventsOfWrong : ChangeSpec := { name := "fnExactEventsOf", fn := fun _ => fun
  | [d1, d2] => { results := [.lit (.bool false)], args := [d1, d2] }
  | _ => none }
def FnExactEventsOfWrongFalsely : Prop := fnExactEventsOfRow.holds Try.pinned (OpenSpec.ofChange fnExactEventsOfWrong)

/-- 'laws.FnExactOutcomesBy': WHATEVER THE INPUT: true; the input reads as it did. -/
def fnExactOutcomesBySpec : ChangeSpec := { name := "fnExactOutcomesBy", fn := fun _ => fun
  | [d1, d2] => { results := [.lit (.bool true)], args := [d1, d2] }
  | _ => none }
def fnExactOutcomesByRow : OpenClaim := { program := "ytbddmicgfhljeaa", sum := "3c1db373be3c405a8669a18687b0604db22e6b481520a9f02f5aa518ced35088", func := "loop.example/wholethreads/laws.FnExactOutcomesBy", spec := "fnExactOutcomesBy", recurses := true, apart := false }
def FnExactOutcomesBySaid : Prop := fnExactOutcomesByRow.holds Try.pinned (OpenSpec.ofChange fnExactOutcomesBySpec)

/-- ITS FALSE NEIGHBOUR: 'it returns false'. Refute it at one input. -/
def fnExactOutcomesByWrong : ChangeSpec := { name := "fnExactOutcomesBy", fn := fun _ => fun
  | [d1, d2] => { results := [.lit (.bool false)], args := [d1, d2] }
  | _ => none }
def FnExactOutcomesByWrongFalsely : Prop := fnExactOutcomesByRow.holds Try.pinned (OpenSpec.ofChange fnExactOutcomesByWrong)

/-- 'laws.FnExactOutcomes': WHATEVER THE INPUT: true; the input reads as it did. -/
def fnExactOutcomesSpec : ChangeSpec := { name := "fnExactOutcomes", fn := fun _ => fun
  | [d] => { results := [.lit (.bool true)], args := [d] }
  | _ => none }
def fnExactOutcomesRow : OpenClaim := { program := "ytbddmicgfhljeaa", sum := "3c1db373be3c405a8669a18687b0604db22e6b481520a9f02f5aa518ced35088", func := "loop.example/wholethreads/laws.FnExactOutcomes", spec := "fnExactOutcomes", recurses := true, apart := false }
def FnExactOutcomesSaid : Prop := fnExactOutcomesRow.holds Try.pinned (OpenSpec.ofChange fnExactOutcomesSpec)

/-- ITS FALSE NEIGHBOUR: 'it returns false'. Refute it at one input. -/
def fnExactOutcomesWrong : ChangeSpec := { name := "fnExactOutcomes", fn := fun _ => fun
  | [d] => { results := [.lit (.bool false)], args := [d] }
  | _ => none }
def FnExactOutcomesWrongFalsely : Prop := fnExactOutcomesRow.holds Try.pinned (OpenSpec.ofChange fnExactOutcomesWrong)

/-- 'laws.FnExactCountStates': WHATEVER THE INPUT: true; the input reads as it did. -/
def fnExactCountStatesSpec : ChangeSpec := { name := "fnExactCountStates", fn := fun _ => fun
  | [d] => { results := [.lit (.bool true)], args := [d] }
  | _ => none }
def fnExactCountStatesRow : OpenClaim := { program := "ytbddmicgfhljeaa", sum := "3c1db373be3c405a8669a18687b0604db22e6b481520a9f02f5aa518ced35088", func := "loop.example/wholethreads/laws.FnExactCountStates", spec := "fnExactCountStates", recurses := true, apart := false }
def FnExactCountStatesSaid : Prop := fnExactCountStatesRow.holds Try.pinned (OpenSpec.ofChange fnExactCountStatesSpec)

/-- ITS FALSE NEIGHBOUR: 'it returns false'. Refute it at one input. -/
def fnExactCountStatesWrong : ChangeSpec := { name := "fnExactCountStates", fn := fun _ => fun
  | [d] => { results := [.lit (.bool false)], args := [d] }
  | _ => none }
def FnExactCountStatesWrongFalsely : Prop := fnExactCountStatesRow.holds Try.pinned (OpenSpec.ofChange fnExactCountStatesWrong)

/-- 'laws.FnExactOrders': WHATEVER THE INPUT: true; the input reads as it did. -/
def fnExactOrdersSpec : ChangeSpec := { name := "fnExactOrders", fn := fun _ => fun
  | [d] => { results := [.lit (.bool true)], args := [d] }
  | _ => none }
def fnExactOrdersRow : OpenClaim := { program := "ytbddmicgfhljeaa", sum := "3c1db373be3c405a8669a18687b0604db22e6b481520a9f02f5aa518ced35088", func := "loop.example/wholethreads/laws.FnExactOrders", spec := "fnExactOrders", recurses := true, apart := false }
def FnExactOrdersSaid : Prop := fnExactOrdersRow.holds Try.pinned (OpenSpec.ofChange fnExactOrdersSpec)

/-- ITS FALSE NEIGHBOUR: 'it returns false'. Refute it at one input. -/
def fnExactOrdersWrong : ChangeSpec := { name := "fnExactOrders", fn := fun _ => fun
  | [d] => { results := [.lit (.bool false)], args := [d] }
  | _ => none }
def FnExactOrdersWrongFalsely : Prop := fnExactOrdersRow.holds Try.pinned (OpenSpec.ofChange fnExactOrdersWrong)

/-- 'laws.FnExactLeastOrder': WHATEVER THE INPUT: true; the input reads as it did. -/
def fnExactLeastOrderSpec : ChangeSpec := { name := "fnExactLeastOrder", fn := fun _ => fun
  | [d1, d2] => { results := [.lit (.bool true)], args := [d1, d2] }
  | _ => none }
def fnExactLeastOrderRow : OpenClaim := { program := "ytbddmicgfhljeaa", sum := "3c1db373be3c405a8669a18687b0604db22e6b481520a9f02f5aa518ced35088", func := "loop.example/wholethreads/laws.FnExactLeastOrder", spec := "fnExactLeastOrder", apart := false }
def FnExactLeastOrderSaid : Prop := fnExactLeastOrderRow.holds Try.pinned (OpenSpec.ofChange fnExactLeastOrderSpec)

/-- ITS FALSE NEIGHBOUR: 'it returns false'. Refute it at one input. -/
def fnExactLeastOrderWrong : ChangeSpec := { name := "fnExactLeastOrder", fn := fun _ => fun
  | [d1, d2] => { results := [.lit (.bool false)], args := [d1, d2] }
  | _ => none }
def FnExactLeastOrderWrongFalsely : Prop := fnExactLeastOrderRow.holds Try.pinned (OpenSpec.ofChange fnExactLeastOrderWrong)

/-- 'laws.FnExactSameOrders': WHATEVER THE INPUT: true; the input reads as it did. -/
def fnExactSameOrdersSpec : ChangeSpec := { name := "fnExactSameOrders", fn := fun _ => fun
  | [d1, d2, d3] => { results := [.lit (.bool true)], args := [d1, d2, d3] }
  | _ => none }
def fnExactSameOrdersRow : OpenClaim := { program := "ytbddmicgfhljeaa", sum := "3c1db373be3c405a8669a18687b0604db22e6b481520a9f02f5aa518ced35088", func := "loop.example/wholethreads/laws.FnExactSameOrders", spec := "fnExactSameOrders", apart := false }
def FnExactSameOrdersSaid : Prop := fnExactSameOrdersRow.holds Try.pinned (OpenSpec.ofChange fnExactSameOrdersSpec)

/-- ITS FALSE NEIGHBOUR: 'it returns false'. Refute it at one input. -/
def fnExactSameOrdersWrong : ChangeSpec := { name := "fnExactSameOrders", fn := fun _ => fun
  | [d1, d2, d3] => { results := [.lit (.bool false)], args := [d1, d2, d3] }
  | _ => none }
def FnExactSameOrdersWrongFalsely : Prop := fnExactSameOrdersRow.holds Try.pinned (OpenSpec.ofChange fnExactSameOrdersWrong)

/-- 'laws.FnExactLeastOrders': WHATEVER THE INPUT: true; the input reads as it did. -/
def fnExactLeastOrdersSpec : ChangeSpec := { name := "fnExactLeastOrders", fn := fun _ => fun
  | [d] => { results := [.lit (.bool true)], args := [d] }
  | _ => none }
def fnExactLeastOrdersRow : OpenClaim := { program := "ytbddmicgfhljeaa", sum := "3c1db373be3c405a8669a18687b0604db22e6b481520a9f02f5aa518ced35088", func := "loop.example/wholethreads/laws.FnExactLeastOrders", spec := "fnExactLeastOrders", recurses := true, apart := false }
def FnExactLeastOrdersSaid : Prop := fnExactLeastOrdersRow.holds Try.pinned (OpenSpec.ofChange fnExactLeastOrdersSpec)

/-- ITS FALSE NEIGHBOUR: 'it returns false'. Refute it at one input. -/
def fnExactLeastOrdersWrong : ChangeSpec := { name := "fnExactLeastOrders", fn := fun _ => fun
  | [d] => { results := [.lit (.bool false)], args := [d] }
  | _ => none }
def FnExactLeastOrdersWrongFalsely : Prop := fnExactLeastOrdersRow.holds Try.pinned (OpenSpec.ofChange fnExactLeastOrdersWrong)

/-- 'laws.FnExactBefore': WHATEVER THE INPUT: true; the input reads as it did. -/
def fnExactBeforeSpec : ChangeSpec := { name := "fnExactBefore", fn := fun _ => fun
  | [d1, d2] => { results := [.lit (.bool true)], args := [d1, d2] }
  | _ => none }
def fnExactBeforeRow : OpenClaim := { program := "ytbddmicgfhljeaa", sum := "3c1db373be3c405a8669a18687b0604db22e6b481520a9f02f5aa518ced35088", func := "loop.example/wholethreads/laws.FnExactBefore", spec := "fnExactBefore", apart := false }
def FnExactBeforeSaid : Prop := fnExactBeforeRow.holds Try.pinned (OpenSpec.ofChange fnExactBeforeSpec)

/-- ITS FALSE NEIGHBOUR: 'it returns false'. Refute it at one input. -/
def fnExactBeforeWrong : ChangeSpec := { name := "fnExactBefore", fn := fun _ => fun
  | [d1, d2] => { results := [.lit (.bool false)], args := [d1, d2] }
  | _ => none }
def FnExactBeforeWrongFalsely : Prop := fnExactBeforeRow.holds Try.pinned (OpenSpec.ofChange fnExactBeforeWrong)

/-- 'laws.FnExactRacesOf': WHATEVER THE INPUT: true; the input reads as it did. -/
def fnExactRacesOfSpec : ChangeSpec := { name := "fnExactRacesOf", fn := fun _ => fun
  | [d1, d2] => { results := [.lit (.bool true)], args := [d1, d2] }
  | _ => none }
def fnExactRacesOfRow : OpenClaim := { program := "ytbddmicgfhljeaa", sum := "3c1db373be3c405a8669a18687b0604db22e6b481520a9f02f5aa518ced35088", func := "loop.example/wholethreads/laws.FnExactRacesOf", spec := "fnExactRacesOf", apart := false }
def FnExactRacesOfSaid : Prop := fnExactRacesOfRow.holds Try.pinned (OpenSpec.ofChange fnExactRacesOfSpec)

/-- ITS FALSE NEIGHBOUR: 'it returns false'. Refute it at one input. -/
def fnExactRacesOfWrong : ChangeSpec := { name := "fnExactRacesOf", fn := fun _ => fun
  | [d1, d2] => { results := [.lit (.bool false)], args := [d1, d2] }
  | _ => none }
def FnExactRacesOfWrongFalsely : Prop := fnExactRacesOfRow.holds Try.pinned (OpenSpec.ofChange fnExactRacesOfWrong)

/-- 'laws.FnExactRaceFree': WHATEVER THE INPUT: true; the input reads as it did. -/
def fnExactRaceFreeSpec : ChangeSpec := { name := "fnExactRaceFree", fn := fun _ => fun
  | [d] => { results := [.lit (.bool true)], args := [d] }
  | _ => none }
def fnExactRaceFreeRow : OpenClaim := { program := "ytbddmicgfhljeaa", sum := "3c1db373be3c405a8669a18687b0604db22e6b481520a9f02f5aa518ced35088", func := "loop.example/wholethreads/laws.FnExactRaceFree", spec := "fnExactRaceFree", recurses := true, apart := false }
def FnExactRaceFreeSaid : Prop := fnExactRaceFreeRow.holds Try.pinned (OpenSpec.ofChange fnExactRaceFreeSpec)

/-- ITS FALSE NEIGHBOUR: 'it returns false'. Refute it at one input. -/
def fnExactRaceFreeWrong : ChangeSpec := { name := "fnExactRaceFree", fn := fun _ => fun
  | [d] => { results := [.lit (.bool false)], args := [d] }
  | _ => none }
def FnExactRaceFreeWrongFalsely : Prop := fnExactRaceFreeRow.holds Try.pinned (OpenSpec.ofChange fnExactRaceFreeWrong)

/-- 'laws.FnExactRaceOrder': WHATEVER THE INPUT: true; the input reads as it did. -/
def fnExactRaceOrderSpec : ChangeSpec := { name := "fnExactRaceOrder", fn := fun _ => fun
  | [d] => { results := [.lit (.bool true)], args := [d] }
  | _ => none }
def fnExactRaceOrderRow : OpenClaim := { program := "ytbddmicgfhljeaa", sum := "3c1db373be3c405a8669a18687b0604db22e6b481520a9f02f5aa518ced35088", func := "loop.example/wholethreads/laws.FnExactRaceOrder", spec := "fnExactRaceOrder", recurses := true, apart := false }
def FnExactRaceOrderSaid : Prop := fnExactRaceOrderRow.holds Try.pinned (OpenSpec.ofChange fnExactRaceOrderSpec)

/-- ITS FALSE NEIGHBOUR: 'it returns false'. Refute it at one input. -/
def fnExactRaceOrderWrong : ChangeSpec := { name := "fnExactRaceOrder", fn := fun _ => fun
  | [d] => { results := [.lit (.bool false)], args := [d] }
  | _ => none }
def FnExactRaceOrderWrongFalsely : Prop := fnExactRaceOrderRow.holds Try.pinned (OpenSpec.ofChange fnExactRaceOrderWrong)

/- THE SECOND FORM. 'bulk': how many values and letters a reading holds, each counted each time it is reached (what is shared counts as often as it is met; a slice's spare places count too). A statement '..UptoSaid' is the law's where the arguments, and the package variables that the reading takes, are together of bulk at most 1048576: NARROWER than '..Said'. Prove '..Said' where nothing that the law and all that it calls make is longer than what came in: it says more and counts as full. Else prove '..UptoSaid'. A law counts once. -/
mutual
def uptoBulk {H : Type} : DataW H → Nat
  | .lit (.string bytes) => bytes.length + 1
  | .lit _ => 1
  | .nil => 1
  | .ptr d => uptoBulk d + 1
  | .slice elems spare => uptoBulkAll elems + uptoBulkAll spare + 1
  | .agg parts => uptoBulkAll parts + 1
  | .iface _ d => uptoBulk d + 1
  | .map entries => uptoBulkEntries entries + 1
  | .held _ => 1
def uptoBulkAll {H : Type} : List (DataW H) → Nat
  | [] => 0
  | d :: r => uptoBulk d + uptoBulkAll r
def uptoBulkEntries {H : Type} : List (Lit × DataW H) → Nat
  | [] => 0
  | x :: r => uptoBulkEntry x + uptoBulkEntries r
def uptoBulkEntry {H : Type} : Lit × DataW H → Nat
  | (.string bytes, d) => bytes.length + uptoBulk d + 1
  | (_, d) => uptoBulk d + 1
 end
def uptoSmall : (H : Type) → List (DataW H) → Bool := fun _ ds => decide (uptoBulkAll ds ≤ 1048576)
def OpenSpec.upto (s : _root_.Go.ChangeSpec) : _root_.Go.OpenSpec := { _root_.Go.OpenSpec.ofChange s with cond := some uptoSmall }

/-- 'laws.FnExactEventsOf', WHERE WHAT IT READS IS OF BULK AT MOST 1048576: true; the input reads as it did. -/
def fnExactEventsOfUptoRow : OpenClaim := { program := "ytbddmicgfhljeaa", sum := "3c1db373be3c405a8669a18687b0604db22e6b481520a9f02f5aa518ced35088", func := "loop.example/wholethreads/laws.FnExactEventsOf", spec := "fnExactEventsOf", apart := false, narrowed := true }
def FnExactEventsOfUptoSaid : Prop := fnExactEventsOfUptoRow.holds Try.pinned (OpenSpec.upto fnExactEventsOfSpec)

/-- 'laws.FnExactOutcomesBy', WHERE WHAT IT READS IS OF BULK AT MOST 1048576: true; the input reads as it did. -/
def fnExactOutcomesByUptoRow : OpenClaim := { program := "ytbddmicgfhljeaa", sum := "3c1db373be3c405a8669a18687b0604db22e6b481520a9f02f5aa518ced35088", func := "loop.example/wholethreads/laws.FnExactOutcomesBy", spec := "fnExactOutcomesBy", recurses := true, apart := false, narrowed := true }
def FnExactOutcomesByUptoSaid : Prop := fnExactOutcomesByUptoRow.holds Try.pinned (OpenSpec.upto fnExactOutcomesBySpec)

/-- 'laws.FnExactOutcomes', WHERE WHAT IT READS IS OF BULK AT MOST 1048576: true; the input reads as it did. -/
def fnExactOutcomesUptoRow : OpenClaim := { program := "ytbddmicgfhljeaa", sum := "3c1db373be3c405a8669a18687b0604db22e6b481520a9f02f5aa518ced35088", func := "loop.example/wholethreads/laws.FnExactOutcomes", spec := "fnExactOutcomes", recurses := true, apart := false, narrowed := true }
def FnExactOutcomesUptoSaid : Prop := fnExactOutcomesUptoRow.holds Try.pinned (OpenSpec.upto fnExactOutcomesSpec)

/-- 'laws.FnExactCountStates', WHERE WHAT IT READS IS OF BULK AT MOST 1048576: true; the input reads as it did. -/
def fnExactCountStatesUptoRow : OpenClaim := { program := "ytbddmicgfhljeaa", sum := "3c1db373be3c405a8669a18687b0604db22e6b481520a9f02f5aa518ced35088", func := "loop.example/wholethreads/laws.FnExactCountStates", spec := "fnExactCountStates", recurses := true, apart := false, narrowed := true }
def FnExactCountStatesUptoSaid : Prop := fnExactCountStatesUptoRow.holds Try.pinned (OpenSpec.upto fnExactCountStatesSpec)

/-- 'laws.FnExactOrders', WHERE WHAT IT READS IS OF BULK AT MOST 1048576: true; the input reads as it did. -/
def fnExactOrdersUptoRow : OpenClaim := { program := "ytbddmicgfhljeaa", sum := "3c1db373be3c405a8669a18687b0604db22e6b481520a9f02f5aa518ced35088", func := "loop.example/wholethreads/laws.FnExactOrders", spec := "fnExactOrders", recurses := true, apart := false, narrowed := true }
def FnExactOrdersUptoSaid : Prop := fnExactOrdersUptoRow.holds Try.pinned (OpenSpec.upto fnExactOrdersSpec)

/-- 'laws.FnExactLeastOrder', WHERE WHAT IT READS IS OF BULK AT MOST 1048576: true; the input reads as it did. -/
def fnExactLeastOrderUptoRow : OpenClaim := { program := "ytbddmicgfhljeaa", sum := "3c1db373be3c405a8669a18687b0604db22e6b481520a9f02f5aa518ced35088", func := "loop.example/wholethreads/laws.FnExactLeastOrder", spec := "fnExactLeastOrder", apart := false, narrowed := true }
def FnExactLeastOrderUptoSaid : Prop := fnExactLeastOrderUptoRow.holds Try.pinned (OpenSpec.upto fnExactLeastOrderSpec)

/-- 'laws.FnExactSameOrders', WHERE WHAT IT READS IS OF BULK AT MOST 1048576: true; the input reads as it did. -/
def fnExactSameOrdersUptoRow : OpenClaim := { program := "ytbddmicgfhljeaa", sum := "3c1db373be3c405a8669a18687b0604db22e6b481520a9f02f5aa518ced35088", func := "loop.example/wholethreads/laws.FnExactSameOrders", spec := "fnExactSameOrders", apart := false, narrowed := true }
def FnExactSameOrdersUptoSaid : Prop := fnExactSameOrdersUptoRow.holds Try.pinned (OpenSpec.upto fnExactSameOrdersSpec)

/-- 'laws.FnExactLeastOrders', WHERE WHAT IT READS IS OF BULK AT MOST 1048576: true; the input reads as it did. -/
def fnExactLeastOrdersUptoRow : OpenClaim := { program := "ytbddmicgfhljeaa", sum := "3c1db373be3c405a8669a18687b0604db22e6b481520a9f02f5aa518ced35088", func := "loop.example/wholethreads/laws.FnExactLeastOrders", spec := "fnExactLeastOrders", recurses := true, apart := false, narrowed := true }
def FnExactLeastOrdersUptoSaid : Prop := fnExactLeastOrdersUptoRow.holds Try.pinned (OpenSpec.upto fnExactLeastOrdersSpec)

/-- 'laws.FnExactBefore', WHERE WHAT IT READS IS OF BULK AT MOST 1048576: true; the input reads as it did. -/
def fnExactBeforeUptoRow : OpenClaim := { program := "ytbddmicgfhljeaa", sum := "3c1db373be3c405a8669a18687b0604db22e6b481520a9f02f5aa518ced35088", func := "loop.example/wholethreads/laws.FnExactBefore", spec := "fnExactBefore", apart := false, narrowed := true }
def FnExactBeforeUptoSaid : Prop := fnExactBeforeUptoRow.holds Try.pinned (OpenSpec.upto fnExactBeforeSpec)

/-- 'laws.FnExactRacesOf', WHERE WHAT IT READS IS OF BULK AT MOST 1048576: true; the input reads as it did. -/
def fnExactRacesOfUptoRow : OpenClaim := { program := "ytbddmicgfhljeaa", sum := "3c1db373be3c405a8669a18687b0604db22e6b481520a9f02f5aa518ced35088", func := "loop.example/wholethreads/laws.FnExactRacesOf", spec := "fnExactRacesOf", apart := false, narrowed := true }
def FnExactRacesOfUptoSaid : Prop := fnExactRacesOfUptoRow.holds Try.pinned (OpenSpec.upto fnExactRacesOfSpec)

/-- 'laws.FnExactRaceFree', WHERE WHAT IT READS IS OF BULK AT MOST 1048576: true; the input reads as it did. -/
def fnExactRaceFreeUptoRow : OpenClaim := { program := "ytbddmicgfhljeaa", sum := "3c1db373be3c405a8669a18687b0604db22e6b481520a9f02f5aa518ced35088", func := "loop.example/wholethreads/laws.FnExactRaceFree", spec := "fnExactRaceFree", recurses := true, apart := false, narrowed := true }
def FnExactRaceFreeUptoSaid : Prop := fnExactRaceFreeUptoRow.holds Try.pinned (OpenSpec.upto fnExactRaceFreeSpec)

/-- 'laws.FnExactRaceOrder', WHERE WHAT IT READS IS OF BULK AT MOST 1048576: true; the input reads as it did. -/
def fnExactRaceOrderUptoRow : OpenClaim := { program := "ytbddmicgfhljeaa", sum := "3c1db373be3c405a8669a18687b0604db22e6b481520a9f02f5aa518ced35088", func := "loop.example/wholethreads/laws.FnExactRaceOrder", spec := "fnExactRaceOrder", recurses := true, apart := false, narrowed := true }
def FnExactRaceOrderUptoSaid : Prop := fnExactRaceOrderUptoRow.holds Try.pinned (OpenSpec.upto fnExactRaceOrderSpec)

end Rows
end Go.Proofs.Ytbddmicgfhljeaa
