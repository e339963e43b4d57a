/-
  No cell of these rows narrows 'for every input' (looked for: loops, veiled, ifaces, maps, wideKeys, modest, calm, conditions, laid).
  DERIVED. THE GIVEN ROWS OF THIS SEAT. 12 by the template 'for every input the law returns true; each argument reads behind the call as it read before'; 0 by the template 'total and deterministic' (their statements: YtidibnmlceccnaaTotals.lean).
  GIVEN WITH THE SEED: the statements are not yours to turn. If you find one false, say at which input.
  Laid BY PROGRAM, IN A SANDBOX (cutbox-rows.mjs): the forced cells as the released guide's own fill.sh prints them over the translation c7d1aed027c9e973… (all of the seat's roots in one cut). By AI agents, Wed Nov 11 2026. No macro, syntax, notation, axiom, sorry.
-/
import Derived.Test.YtidibnmlceccnaaChecked
import GoSem.Claim
import GoSem.ClaimJoined
import GoSem.ClaimMapViews
import Derived.JoinedTies
import Derived.KernelRfl
namespace Go.Proofs.Ytidibnmlceccnaa
/- THE CELL 'sum', in the pinned program and in every row, IS THE sha256 OF THE DUMP (.gsa) THAT YtidibnmlceccnaaProg.lean LOADS. Nothing in Lean hashes anything: it is a label: what it is worth is what the hold of that sum in a sandbox is worth. -/
noncomputable def Try.pinned : Pinned := { name := "ytidibnmlceccnaa", sum := "c7d1aed027c9e973ef66806aa664261afdf6c5141b63a9eee51aa1aad8c6954e", checked := Try.checked }
namespace Rows
def none {H : Type} : Left H := { results := [], args := [] }

/-- 'laws.FnExactEventsOf': WHATEVER THE INPUT: true; the input reads as it did. -/
def fnExactEventsOfSpec : ChangeSpec := { name := "fnExactEventsOf", fn := fun _ => fun
  | [d1, d2] => { results := [.lit (.bool true)], args := [d1, d2] }
  | _ => none }
def fnExactEventsOfRow : OpenClaim := { program := "ytidibnmlceccnaa", sum := "c7d1aed027c9e973ef66806aa664261afdf6c5141b63a9eee51aa1aad8c6954e", func := "loop.example/wholethreads/laws.FnExactEventsOf", spec := "fnExactEventsOf", apart := false }
def FnExactEventsOfSaid : Prop := fnExactEventsOfRow.holds Try.pinned (OpenSpec.ofChange fnExactEventsOfSpec)

/-- ITS FALSE NEIGHBOUR: 'it returns false'. Refute it at one input. -/
def fnExactEventsOfWrong : ChangeSpec := { name := "fnExactEventsOf", fn := fun _ => fun
  | [d1, d2] => { results := [.lit (.bool false)], args := [d1, d2] }
  | _ => none }
def FnExactEventsOfWrongFalsely : Prop := fnExactEventsOfRow.holds Try.pinned (OpenSpec.ofChange fnExactEventsOfWrong)

/-- 'laws.FnExactOutcomes': WHATEVER THE INPUT: true; the input reads as it did. -/
def fnExactOutcomesSpec : ChangeSpec := { name := "fnExactOutcomes", fn := fun _ => fun
  | [d] => { results := [.lit (.bool true)], args := [d] }
  | _ => none }
def fnExactOutcomesRow : OpenClaim := { program := "ytidibnmlceccnaa", sum := "c7d1aed027c9e973ef66806aa664261afdf6c5141b63a9eee51aa1aad8c6954e", func := "loop.example/wholethreads/laws.FnExactOutcomes", spec := "fnExactOutcomes", recurses := true, apart := false }
def FnExactOutcomesSaid : Prop := fnExactOutcomesRow.holds Try.pinned (OpenSpec.ofChange fnExactOutcomesSpec)

/-- ITS FALSE NEIGHBOUR: 'it returns false'. Refute it at one input. -/
def fnExactOutcomesWrong : ChangeSpec := { name := "fnExactOutcomes", fn := fun _ => fun
  | [d] => { results := [.lit (.bool false)], args := [d] }
  | _ => none }
def FnExactOutcomesWrongFalsely : Prop := fnExactOutcomesRow.holds Try.pinned (OpenSpec.ofChange fnExactOutcomesWrong)

/-- 'laws.FnExactCountStates': WHATEVER THE INPUT: true; the input reads as it did. -/
def fnExactCountStatesSpec : ChangeSpec := { name := "fnExactCountStates", fn := fun _ => fun
  | [d] => { results := [.lit (.bool true)], args := [d] }
  | _ => none }
def fnExactCountStatesRow : OpenClaim := { program := "ytidibnmlceccnaa", sum := "c7d1aed027c9e973ef66806aa664261afdf6c5141b63a9eee51aa1aad8c6954e", func := "loop.example/wholethreads/laws.FnExactCountStates", spec := "fnExactCountStates", recurses := true, apart := false }
def FnExactCountStatesSaid : Prop := fnExactCountStatesRow.holds Try.pinned (OpenSpec.ofChange fnExactCountStatesSpec)

/-- ITS FALSE NEIGHBOUR: 'it returns false'. Refute it at one input. -/
def fnExactCountStatesWrong : ChangeSpec := { name := "fnExactCountStates", fn := fun _ => fun
  | [d] => { results := [.lit (.bool false)], args := [d] }
  | _ => none }
def FnExactCountStatesWrongFalsely : Prop := fnExactCountStatesRow.holds Try.pinned (OpenSpec.ofChange fnExactCountStatesWrong)

/-- 'laws.FnExactOrders': WHATEVER THE INPUT: true; the input reads as it did. -/
def fnExactOrdersSpec : ChangeSpec := { name := "fnExactOrders", fn := fun _ => fun
  | [d] => { results := [.lit (.bool true)], args := [d] }
  | _ => none }
def fnExactOrdersRow : OpenClaim := { program := "ytidibnmlceccnaa", sum := "c7d1aed027c9e973ef66806aa664261afdf6c5141b63a9eee51aa1aad8c6954e", func := "loop.example/wholethreads/laws.FnExactOrders", spec := "fnExactOrders", recurses := true, apart := false }
def FnExactOrdersSaid : Prop := fnExactOrdersRow.holds Try.pinned (OpenSpec.ofChange fnExactOrdersSpec)

/-- ITS FALSE NEIGHBOUR: 'it returns false'. Refute it at one input. -/
def fnExactOrdersWrong : ChangeSpec := { name := "fnExactOrders", fn := fun _ => fun
  | [d] => { results := [.lit (.bool false)], args := [d] }
  | _ => none }
def FnExactOrdersWrongFalsely : Prop := fnExactOrdersRow.holds Try.pinned (OpenSpec.ofChange fnExactOrdersWrong)

/-- 'laws.FnExactLeastOrders': WHATEVER THE INPUT: true; the input reads as it did. -/
def fnExactLeastOrdersSpec : ChangeSpec := { name := "fnExactLeastOrders", fn := fun _ => fun
  | [d] => { results := [.lit (.bool true)], args := [d] }
  | _ => none }
def fnExactLeastOrdersRow : OpenClaim := { program := "ytidibnmlceccnaa", sum := "c7d1aed027c9e973ef66806aa664261afdf6c5141b63a9eee51aa1aad8c6954e", func := "loop.example/wholethreads/laws.FnExactLeastOrders", spec := "fnExactLeastOrders", recurses := true, apart := false }
def FnExactLeastOrdersSaid : Prop := fnExactLeastOrdersRow.holds Try.pinned (OpenSpec.ofChange fnExactLeastOrdersSpec)

/-- ITS FALSE NEIGHBOUR: 'it returns false'. Refute it at one input. -/
def fnExactLeastOrdersWrong : ChangeSpec := { name := "fnExactLeastOrders", fn := fun _ => fun
  | [d] => { results := [.lit (.bool false)], args := [d] }
  | _ => none }
def FnExactLeastOrdersWrongFalsely : Prop := fnExactLeastOrdersRow.holds Try.pinned (OpenSpec.ofChange fnExactLeastOrdersWrong)

/-- 'laws.FnExactOutcomesBy': WHATEVER THE INPUT: true; the input reads as it did. -/
def fnExactOutcomesBySpec : ChangeSpec := { name := "fnExactOutcomesBy", fn := fun _ => fun
  | [d1, d2] => { results := [.lit (.bool true)], args := [d1, d2] }
  | _ => none }
def fnExactOutcomesByRow : OpenClaim := { program := "ytidibnmlceccnaa", sum := "c7d1aed027c9e973ef66806aa664261afdf6c5141b63a9eee51aa1aad8c6954e", func := "loop.example/wholethreads/laws.FnExactOutcomesBy", spec := "fnExactOutcomesBy", recurses := true, apart := false }
def FnExactOutcomesBySaid : Prop := fnExactOutcomesByRow.holds Try.pinned (OpenSpec.ofChange fnExactOutcomesBySpec)

/-- ITS FALSE NEIGHBOUR: 'it returns false'. Refute it at one input. -/
def fnExactOutcomesByWrong : ChangeSpec := { name := "fnExactOutcomesBy", fn := fun _ => fun
  | [d1, d2] => { results := [.lit (.bool false)], args := [d1, d2] }
  | _ => none }
def FnExactOutcomesByWrongFalsely : Prop := fnExactOutcomesByRow.holds Try.pinned (OpenSpec.ofChange fnExactOutcomesByWrong)

/-- 'laws.FnExactBefore': WHATEVER THE INPUT: true; the input reads as it did. -/
def fnExactBeforeSpec : ChangeSpec := { name := "fnExactBefore", fn := fun _ => fun
  | [d1, d2] => { results := [.lit (.bool true)], args := [d1, d2] }
  | _ => none }
def fnExactBeforeRow : OpenClaim := { program := "ytidibnmlceccnaa", sum := "c7d1aed027c9e973ef66806aa664261afdf6c5141b63a9eee51aa1aad8c6954e", func := "loop.example/wholethreads/laws.FnExactBefore", spec := "fnExactBefore", apart := false }
def FnExactBeforeSaid : Prop := fnExactBeforeRow.holds Try.pinned (OpenSpec.ofChange fnExactBeforeSpec)

/-- ITS FALSE NEIGHBOUR: 'it returns false'. Refute it at one input. -/
def fnExactBeforeWrong : ChangeSpec := { name := "fnExactBefore", fn := fun _ => fun
  | [d1, d2] => { results := [.lit (.bool false)], args := [d1, d2] }
  | _ => none }
def FnExactBeforeWrongFalsely : Prop := fnExactBeforeRow.holds Try.pinned (OpenSpec.ofChange fnExactBeforeWrong)

/-- 'laws.FnExactClockWithin': WHATEVER THE INPUT: true; the input reads as it did. -/
def fnExactClockWithinSpec : ChangeSpec := { name := "fnExactClockWithin", fn := fun _ => fun
  | [d1, d2] => { results := [.lit (.bool true)], args := [d1, d2] }
  | _ => none }
def fnExactClockWithinRow : OpenClaim := { program := "ytidibnmlceccnaa", sum := "c7d1aed027c9e973ef66806aa664261afdf6c5141b63a9eee51aa1aad8c6954e", func := "loop.example/wholethreads/laws.FnExactClockWithin", spec := "fnExactClockWithin", apart := false }
def FnExactClockWithinSaid : Prop := fnExactClockWithinRow.holds Try.pinned (OpenSpec.ofChange fnExactClockWithinSpec)

/-- ITS FALSE NEIGHBOUR: 'it returns false'. Refute it at one input. -/
def fnExactClockWithinWrong : ChangeSpec := { name := "fnExactClockWithin", fn := fun _ => fun
  | [d1, d2] => { results := [.lit (.bool false)], args := [d1, d2] }
  | _ => none }
def FnExactClockWithinWrongFalsely : Prop := fnExactClockWithinRow.holds Try.pinned (OpenSpec.ofChange fnExactClockWithinWrong)

/-- 'laws.FnExactClockJoin': WHATEVER THE INPUT: true; the input reads as it did. -/
def fnExactClockJoinSpec : ChangeSpec := { name := "fnExactClockJoin", fn := fun _ => fun
  | [d1, d2] => { results := [.lit (.bool true)], args := [d1, d2] }
  | _ => none }
def fnExactClockJoinRow : OpenClaim := { program := "ytidibnmlceccnaa", sum := "c7d1aed027c9e973ef66806aa664261afdf6c5141b63a9eee51aa1aad8c6954e", func := "loop.example/wholethreads/laws.FnExactClockJoin", spec := "fnExactClockJoin", apart := false }
def FnExactClockJoinSaid : Prop := fnExactClockJoinRow.holds Try.pinned (OpenSpec.ofChange fnExactClockJoinSpec)

/-- ITS FALSE NEIGHBOUR: 'it returns false'. Refute it at one input. -/
def fnExactClockJoinWrong : ChangeSpec := { name := "fnExactClockJoin", fn := fun _ => fun
  | [d1, d2] => { results := [.lit (.bool false)], args := [d1, d2] }
  | _ => none }
def FnExactClockJoinWrongFalsely : Prop := fnExactClockJoinRow.holds Try.pinned (OpenSpec.ofChange fnExactClockJoinWrong)

/-- 'laws.FnExactClocksOf': WHATEVER THE INPUT: true; the input reads as it did. -/
def fnExactClocksOfSpec : ChangeSpec := { name := "fnExactClocksOf", fn := fun _ => fun
  | [d1, d2] => { results := [.lit (.bool true)], args := [d1, d2] }
  | _ => none }
def fnExactClocksOfRow : OpenClaim := { program := "ytidibnmlceccnaa", sum := "c7d1aed027c9e973ef66806aa664261afdf6c5141b63a9eee51aa1aad8c6954e", func := "loop.example/wholethreads/laws.FnExactClocksOf", spec := "fnExactClocksOf", apart := false }
def FnExactClocksOfSaid : Prop := fnExactClocksOfRow.holds Try.pinned (OpenSpec.ofChange fnExactClocksOfSpec)

/-- ITS FALSE NEIGHBOUR: 'it returns false'. Refute it at one input. -/
def fnExactClocksOfWrong : ChangeSpec := { name := "fnExactClocksOf", fn := fun _ => fun
  | [d1, d2] => { results := [.lit (.bool false)], args := [d1, d2] }
  | _ => none }
def FnExactClocksOfWrongFalsely : Prop := fnExactClocksOfRow.holds Try.pinned (OpenSpec.ofChange fnExactClocksOfWrong)

/-- 'laws.FnExactClocksBehind': WHATEVER THE INPUT: true; the input reads as it did. -/
def fnExactClocksBehindSpec : ChangeSpec := { name := "fnExactClocksBehind", fn := fun _ => fun
  | [d1, d2] => { results := [.lit (.bool true)], args := [d1, d2] }
  | _ => none }
def fnExactClocksBehindRow : OpenClaim := { program := "ytidibnmlceccnaa", sum := "c7d1aed027c9e973ef66806aa664261afdf6c5141b63a9eee51aa1aad8c6954e", func := "loop.example/wholethreads/laws.FnExactClocksBehind", spec := "fnExactClocksBehind", apart := false }
def FnExactClocksBehindSaid : Prop := fnExactClocksBehindRow.holds Try.pinned (OpenSpec.ofChange fnExactClocksBehindSpec)

/-- ITS FALSE NEIGHBOUR: 'it returns false'. Refute it at one input. -/
def fnExactClocksBehindWrong : ChangeSpec := { name := "fnExactClocksBehind", fn := fun _ => fun
  | [d1, d2] => { results := [.lit (.bool false)], args := [d1, d2] }
  | _ => none }
def FnExactClocksBehindWrongFalsely : Prop := fnExactClocksBehindRow.holds Try.pinned (OpenSpec.ofChange fnExactClocksBehindWrong)

/-- 'laws.FnExactRaceAt': WHATEVER THE INPUT: true; the input reads as it did. -/
def fnExactRaceAtSpec : ChangeSpec := { name := "fnExactRaceAt", fn := fun _ => fun
  | [d1, d2] => { results := [.lit (.bool true)], args := [d1, d2] }
  | _ => none }
def fnExactRaceAtRow : OpenClaim := { program := "ytidibnmlceccnaa", sum := "c7d1aed027c9e973ef66806aa664261afdf6c5141b63a9eee51aa1aad8c6954e", func := "loop.example/wholethreads/laws.FnExactRaceAt", spec := "fnExactRaceAt", apart := false }
def FnExactRaceAtSaid : Prop := fnExactRaceAtRow.holds Try.pinned (OpenSpec.ofChange fnExactRaceAtSpec)

/-- ITS FALSE NEIGHBOUR: 'it returns false'. Refute it at one input. -/
def fnExactRaceAtWrong : ChangeSpec := { name := "fnExactRaceAt", fn := fun _ => fun
  | [d1, d2] => { results := [.lit (.bool false)], args := [d1, d2] }
  | _ => none }
def FnExactRaceAtWrongFalsely : Prop := fnExactRaceAtRow.holds Try.pinned (OpenSpec.ofChange fnExactRaceAtWrong)

/- THE SECOND FORM. 'bulk': how many values and letters a reading holds, each counted each time it is reached (what is shared counts as often as it is met; a slice's spare places count too). A statement '..UptoSaid' is the law's where the arguments, and the package variables that the reading takes, are together of bulk at most 1048576: NARROWER than '..Said'. Prove '..Said' where nothing that the law and all that it calls make is longer than what came in: it says more and counts as full. Else prove '..UptoSaid'. A law counts once. -/
mutual
def uptoBulk {H : Type} : DataW H → Nat
  | .lit (.string bytes) => bytes.length + 1
  | .lit _ => 1
  | .nil => 1
  | .ptr d => uptoBulk d + 1
  | .slice elems spare => uptoBulkAll elems + uptoBulkAll spare + 1
  | .agg parts => uptoBulkAll parts + 1
  | .iface _ d => uptoBulk d + 1
  | .map entries => uptoBulkEntries entries + 1
  | .held _ => 1
def uptoBulkAll {H : Type} : List (DataW H) → Nat
  | [] => 0
  | d :: r => uptoBulk d + uptoBulkAll r
def uptoBulkEntries {H : Type} : List (Lit × DataW H) → Nat
  | [] => 0
  | x :: r => uptoBulkEntry x + uptoBulkEntries r
def uptoBulkEntry {H : Type} : Lit × DataW H → Nat
  | (.string bytes, d) => bytes.length + uptoBulk d + 1
  | (_, d) => uptoBulk d + 1
 end
def uptoSmall : (H : Type) → List (DataW H) → Bool := fun _ ds => decide (uptoBulkAll ds ≤ 1048576)
def OpenSpec.upto (s : _root_.Go.ChangeSpec) : _root_.Go.OpenSpec := { _root_.Go.OpenSpec.ofChange s with cond := some uptoSmall }

/-- 'laws.FnExactEventsOf', WHERE WHAT IT READS IS OF BULK AT MOST 1048576: true; the input reads as it did. -/
def fnExactEventsOfUptoRow : OpenClaim := { program := "ytidibnmlceccnaa", sum := "c7d1aed027c9e973ef66806aa664261afdf6c5141b63a9eee51aa1aad8c6954e", func := "loop.example/wholethreads/laws.FnExactEventsOf", spec := "fnExactEventsOf", apart := false, narrowed := true }
def FnExactEventsOfUptoSaid : Prop := fnExactEventsOfUptoRow.holds Try.pinned (OpenSpec.upto fnExactEventsOfSpec)

/-- 'laws.FnExactOutcomes', WHERE WHAT IT READS IS OF BULK AT MOST 1048576: true; the input reads as it did. -/
def fnExactOutcomesUptoRow : OpenClaim := { program := "ytidibnmlceccnaa", sum := "c7d1aed027c9e973ef66806aa664261afdf6c5141b63a9eee51aa1aad8c6954e", func := "loop.example/wholethreads/laws.FnExactOutcomes", spec := "fnExactOutcomes", recurses := true, apart := false, narrowed := true }
def FnExactOutcomesUptoSaid : Prop := fnExactOutcomesUptoRow.holds Try.pinned (OpenSpec.upto fnExactOutcomesSpec)

/-- 'laws.FnExactCountStates', WHERE WHAT IT READS IS OF BULK AT MOST 1048576: true; the input reads as it did. -/
def fnExactCountStatesUptoRow : OpenClaim := { program := "ytidibnmlceccnaa", sum := "c7d1aed027c9e973ef66806aa664261afdf6c5141b63a9eee51aa1aad8c6954e", func := "loop.example/wholethreads/laws.FnExactCountStates", spec := "fnExactCountStates", recurses := true, apart := false, narrowed := true }
def FnExactCountStatesUptoSaid : Prop := fnExactCountStatesUptoRow.holds Try.pinned (OpenSpec.upto fnExactCountStatesSpec)

/-- 'laws.FnExactOrders', WHERE WHAT IT READS IS OF BULK AT MOST 1048576: true; the input reads as it did. -/
def fnExactOrdersUptoRow : OpenClaim := { program := "ytidibnmlceccnaa", sum := "c7d1aed027c9e973ef66806aa664261afdf6c5141b63a9eee51aa1aad8c6954e", func := "loop.example/wholethreads/laws.FnExactOrders", spec := "fnExactOrders", recurses := true, apart := false, narrowed := true }
def FnExactOrdersUptoSaid : Prop := fnExactOrdersUptoRow.holds Try.pinned (OpenSpec.upto fnExactOrdersSpec)

/-- 'laws.FnExactLeastOrders', WHERE WHAT IT READS IS OF BULK AT MOST 1048576: true; the input reads as it did. -/
def fnExactLeastOrdersUptoRow : OpenClaim := { program := "ytidibnmlceccnaa", sum := "c7d1aed027c9e973ef66806aa664261afdf6c5141b63a9eee51aa1aad8c6954e", func := "loop.example/wholethreads/laws.FnExactLeastOrders", spec := "fnExactLeastOrders", recurses := true, apart := false, narrowed := true }
def FnExactLeastOrdersUptoSaid : Prop := fnExactLeastOrdersUptoRow.holds Try.pinned (OpenSpec.upto fnExactLeastOrdersSpec)

/-- 'laws.FnExactOutcomesBy', WHERE WHAT IT READS IS OF BULK AT MOST 1048576: true; the input reads as it did. -/
def fnExactOutcomesByUptoRow : OpenClaim := { program := "ytidibnmlceccnaa", sum := "c7d1aed027c9e973ef66806aa664261afdf6c5141b63a9eee51aa1aad8c6954e", func := "loop.example/wholethreads/laws.FnExactOutcomesBy", spec := "fnExactOutcomesBy", recurses := true, apart := false, narrowed := true }
def FnExactOutcomesByUptoSaid : Prop := fnExactOutcomesByUptoRow.holds Try.pinned (OpenSpec.upto fnExactOutcomesBySpec)

/-- 'laws.FnExactBefore', WHERE WHAT IT READS IS OF BULK AT MOST 1048576: true; the input reads as it did. -/
def fnExactBeforeUptoRow : OpenClaim := { program := "ytidibnmlceccnaa", sum := "c7d1aed027c9e973ef66806aa664261afdf6c5141b63a9eee51aa1aad8c6954e", func := "loop.example/wholethreads/laws.FnExactBefore", spec := "fnExactBefore", apart := false, narrowed := true }
def FnExactBeforeUptoSaid : Prop := fnExactBeforeUptoRow.holds Try.pinned (OpenSpec.upto fnExactBeforeSpec)

/-- 'laws.FnExactClockWithin', WHERE WHAT IT READS IS OF BULK AT MOST 1048576: true; the input reads as it did. -/
def fnExactClockWithinUptoRow : OpenClaim := { program := "ytidibnmlceccnaa", sum := "c7d1aed027c9e973ef66806aa664261afdf6c5141b63a9eee51aa1aad8c6954e", func := "loop.example/wholethreads/laws.FnExactClockWithin", spec := "fnExactClockWithin", apart := false, narrowed := true }
def FnExactClockWithinUptoSaid : Prop := fnExactClockWithinUptoRow.holds Try.pinned (OpenSpec.upto fnExactClockWithinSpec)

/-- 'laws.FnExactClockJoin', WHERE WHAT IT READS IS OF BULK AT MOST 1048576: true; the input reads as it did. -/
def fnExactClockJoinUptoRow : OpenClaim := { program := "ytidibnmlceccnaa", sum := "c7d1aed027c9e973ef66806aa664261afdf6c5141b63a9eee51aa1aad8c6954e", func := "loop.example/wholethreads/laws.FnExactClockJoin", spec := "fnExactClockJoin", apart := false, narrowed := true }
def FnExactClockJoinUptoSaid : Prop := fnExactClockJoinUptoRow.holds Try.pinned (OpenSpec.upto fnExactClockJoinSpec)

/-- 'laws.FnExactClocksOf', WHERE WHAT IT READS IS OF BULK AT MOST 1048576: true; the input reads as it did. -/
def fnExactClocksOfUptoRow : OpenClaim := { program := "ytidibnmlceccnaa", sum := "c7d1aed027c9e973ef66806aa664261afdf6c5141b63a9eee51aa1aad8c6954e", func := "loop.example/wholethreads/laws.FnExactClocksOf", spec := "fnExactClocksOf", apart := false, narrowed := true }
def FnExactClocksOfUptoSaid : Prop := fnExactClocksOfUptoRow.holds Try.pinned (OpenSpec.upto fnExactClocksOfSpec)

/-- 'laws.FnExactClocksBehind', WHERE WHAT IT READS IS OF BULK AT MOST 1048576: true; the input reads as it did. -/
def fnExactClocksBehindUptoRow : OpenClaim := { program := "ytidibnmlceccnaa", sum := "c7d1aed027c9e973ef66806aa664261afdf6c5141b63a9eee51aa1aad8c6954e", func := "loop.example/wholethreads/laws.FnExactClocksBehind", spec := "fnExactClocksBehind", apart := false, narrowed := true }
def FnExactClocksBehindUptoSaid : Prop := fnExactClocksBehindUptoRow.holds Try.pinned (OpenSpec.upto fnExactClocksBehindSpec)

/-- 'laws.FnExactRaceAt', WHERE WHAT IT READS IS OF BULK AT MOST 1048576: true; the input reads as it did. -/
def fnExactRaceAtUptoRow : OpenClaim := { program := "ytidibnmlceccnaa", sum := "c7d1aed027c9e973ef66806aa664261afdf6c5141b63a9eee51aa1aad8c6954e", func := "loop.example/wholethreads/laws.FnExactRaceAt", spec := "fnExactRaceAt", apart := false, narrowed := true }
def FnExactRaceAtUptoSaid : Prop := fnExactRaceAtUptoRow.holds Try.pinned (OpenSpec.upto fnExactRaceAtSpec)

end Rows
end Go.Proofs.Ytidibnmlceccnaa
