/-
  No cell of these rows narrows 'for every input' (looked for: loops, veiled, ifaces, maps, wideKeys, modest, calm, conditions, laid).
  DERIVED. THE GIVEN ROWS OF THIS SEAT. 12 by the template 'for every input the law returns true; each argument reads behind the call as it read before'; 0 by the template 'total and deterministic' (their statements: YtmnpndmjheippaaTotals.lean).
  GIVEN WITH THE SEED: the statements are not yours to turn. If you find one false, say at which input.
  Laid BY PROGRAM, IN A SANDBOX (cutbox-rows.mjs): the forced cells as the released guide's own fill.sh prints them over the translation 81df721cc1f3a4ed… (all of the seat's roots in one cut). By AI agents, Wed Nov 11 2026. No macro, syntax, notation, axiom, sorry.
-/
import Derived.Test.YtmnpndmjheippaaChecked
import GoSem.Claim
import GoSem.ClaimJoined
import GoSem.ClaimMapViews
import Derived.JoinedTies
import Derived.KernelRfl
namespace Go.Proofs.Ytmnpndmjheippaa
/- THE CELL 'sum', in the pinned program and in every row, IS THE sha256 OF THE DUMP (.gsa) THAT YtmnpndmjheippaaProg.lean LOADS. Nothing in Lean hashes anything: it is a label: what it is worth is what the hold of that sum in a sandbox is worth. -/
noncomputable def Try.pinned : Pinned := { name := "ytmnpndmjheippaa", sum := "81df721cc1f3a4ed3380d1e2c26099faa9c68ba862070cf3b44f604ccc2c7e8d", checked := Try.checked }
namespace Rows
def none {H : Type} : Left H := { results := [], args := [] }

/-- 'laws.FnExactDo': WHATEVER THE INPUT: true; the input reads as it did. -/
def fnExactDoSpec : ChangeSpec := { name := "fnExactDo", fn := fun _ => fun
  | [d1, d2, d3] => { results := [.lit (.bool true)], args := [d1, d2, d3] }
  | _ => none }
def fnExactDoRow : OpenClaim := { program := "ytmnpndmjheippaa", sum := "81df721cc1f3a4ed3380d1e2c26099faa9c68ba862070cf3b44f604ccc2c7e8d", func := "loop.example/wholethreads/laws.FnExactDo", spec := "fnExactDo", apart := false }
def FnExactDoSaid : Prop := fnExactDoRow.holds Try.pinned (OpenSpec.ofChange fnExactDoSpec)

/-- ITS FALSE NEIGHBOUR: 'it returns false'. Refute it at one input. -/
def fnExactDoWrong : ChangeSpec := { name := "fnExactDo", fn := fun _ => fun
  | [d1, d2, d3] => { results := [.lit (.bool false)], args := [d1, d2, d3] }
  | _ => none }
def FnExactDoWrongFalsely : Prop := fnExactDoRow.holds Try.pinned (OpenSpec.ofChange fnExactDoWrong)

/-- 'laws.FnExactPlay': WHATEVER THE INPUT: true; the input reads as it did. -/
def fnExactPlaySpec : ChangeSpec := { name := "fnExactPlay", fn := fun _ => fun
  | [d1, d2] => { results := [.lit (.bool true)], args := [d1, d2] }
  | _ => none }
def fnExactPlayRow : OpenClaim := { program := "ytmnpndmjheippaa", sum := "81df721cc1f3a4ed3380d1e2c26099faa9c68ba862070cf3b44f604ccc2c7e8d", func := "loop.example/wholethreads/laws.FnExactPlay", spec := "fnExactPlay", apart := false }
def FnExactPlaySaid : Prop := fnExactPlayRow.holds Try.pinned (OpenSpec.ofChange fnExactPlaySpec)

/-- ITS FALSE NEIGHBOUR: 'it returns false'. Refute it at one input. -/
def fnExactPlayWrong : ChangeSpec := { name := "fnExactPlay", fn := fun _ => fun
  | [d1, d2] => { results := [.lit (.bool false)], args := [d1, d2] }
  | _ => none }
def FnExactPlayWrongFalsely : Prop := fnExactPlayRow.holds Try.pinned (OpenSpec.ofChange fnExactPlayWrong)

/-- 'laws.FnExactOutcomeOf': WHATEVER THE INPUT: true; the input reads as it did. -/
def fnExactOutcomeOfSpec : ChangeSpec := { name := "fnExactOutcomeOf", fn := fun _ => fun
  | [d1, d2] => { results := [.lit (.bool true)], args := [d1, d2] }
  | _ => none }
def fnExactOutcomeOfRow : OpenClaim := { program := "ytmnpndmjheippaa", sum := "81df721cc1f3a4ed3380d1e2c26099faa9c68ba862070cf3b44f604ccc2c7e8d", func := "loop.example/wholethreads/laws.FnExactOutcomeOf", spec := "fnExactOutcomeOf", apart := false }
def FnExactOutcomeOfSaid : Prop := fnExactOutcomeOfRow.holds Try.pinned (OpenSpec.ofChange fnExactOutcomeOfSpec)

/-- ITS FALSE NEIGHBOUR: 'it returns false'. Refute it at one input. -/
def fnExactOutcomeOfWrong : ChangeSpec := { name := "fnExactOutcomeOf", fn := fun _ => fun
  | [d1, d2] => { results := [.lit (.bool false)], args := [d1, d2] }
  | _ => none }
def FnExactOutcomeOfWrongFalsely : Prop := fnExactOutcomeOfRow.holds Try.pinned (OpenSpec.ofChange fnExactOutcomeOfWrong)

/-- 'laws.FnExactOutcomes': WHATEVER THE INPUT: true; the input reads as it did. -/
def fnExactOutcomesSpec : ChangeSpec := { name := "fnExactOutcomes", fn := fun _ => fun
  | [d] => { results := [.lit (.bool true)], args := [d] }
  | _ => none }
def fnExactOutcomesRow : OpenClaim := { program := "ytmnpndmjheippaa", sum := "81df721cc1f3a4ed3380d1e2c26099faa9c68ba862070cf3b44f604ccc2c7e8d", func := "loop.example/wholethreads/laws.FnExactOutcomes", spec := "fnExactOutcomes", recurses := true, apart := false }
def FnExactOutcomesSaid : Prop := fnExactOutcomesRow.holds Try.pinned (OpenSpec.ofChange fnExactOutcomesSpec)

/-- ITS FALSE NEIGHBOUR: 'it returns false'. Refute it at one input. -/
def fnExactOutcomesWrong : ChangeSpec := { name := "fnExactOutcomes", fn := fun _ => fun
  | [d] => { results := [.lit (.bool false)], args := [d] }
  | _ => none }
def FnExactOutcomesWrongFalsely : Prop := fnExactOutcomesRow.holds Try.pinned (OpenSpec.ofChange fnExactOutcomesWrong)

/-- 'laws.FnExactCountStates': WHATEVER THE INPUT: true; the input reads as it did. -/
def fnExactCountStatesSpec : ChangeSpec := { name := "fnExactCountStates", fn := fun _ => fun
  | [d] => { results := [.lit (.bool true)], args := [d] }
  | _ => none }
def fnExactCountStatesRow : OpenClaim := { program := "ytmnpndmjheippaa", sum := "81df721cc1f3a4ed3380d1e2c26099faa9c68ba862070cf3b44f604ccc2c7e8d", func := "loop.example/wholethreads/laws.FnExactCountStates", spec := "fnExactCountStates", recurses := true, apart := false }
def FnExactCountStatesSaid : Prop := fnExactCountStatesRow.holds Try.pinned (OpenSpec.ofChange fnExactCountStatesSpec)

/-- ITS FALSE NEIGHBOUR: 'it returns false'. Refute it at one input. -/
def fnExactCountStatesWrong : ChangeSpec := { name := "fnExactCountStates", fn := fun _ => fun
  | [d] => { results := [.lit (.bool false)], args := [d] }
  | _ => none }
def FnExactCountStatesWrongFalsely : Prop := fnExactCountStatesRow.holds Try.pinned (OpenSpec.ofChange fnExactCountStatesWrong)

/-- 'laws.FnExactDepend': WHATEVER THE INPUT: true; the input reads as it did. -/
def fnExactDependSpec : ChangeSpec := { name := "fnExactDepend", fn := fun _ => fun
  | [d1, d2] => { results := [.lit (.bool true)], args := [d1, d2] }
  | _ => none }
def fnExactDependRow : OpenClaim := { program := "ytmnpndmjheippaa", sum := "81df721cc1f3a4ed3380d1e2c26099faa9c68ba862070cf3b44f604ccc2c7e8d", func := "loop.example/wholethreads/laws.FnExactDepend", spec := "fnExactDepend", apart := false }
def FnExactDependSaid : Prop := fnExactDependRow.holds Try.pinned (OpenSpec.ofChange fnExactDependSpec)

/-- ITS FALSE NEIGHBOUR: 'it returns false'. Refute it at one input. -/
def fnExactDependWrong : ChangeSpec := { name := "fnExactDepend", fn := fun _ => fun
  | [d1, d2] => { results := [.lit (.bool false)], args := [d1, d2] }
  | _ => none }
def FnExactDependWrongFalsely : Prop := fnExactDependRow.holds Try.pinned (OpenSpec.ofChange fnExactDependWrong)

/-- 'laws.FnExactEventsOf': WHATEVER THE INPUT: true; the input reads as it did. -/
def fnExactEventsOfSpec : ChangeSpec := { name := "fnExactEventsOf", fn := fun _ => fun
  | [d1, d2] => { results := [.lit (.bool true)], args := [d1, d2] }
  | _ => none }
def fnExactEventsOfRow : OpenClaim := { program := "ytmnpndmjheippaa", sum := "81df721cc1f3a4ed3380d1e2c26099faa9c68ba862070cf3b44f604ccc2c7e8d", func := "loop.example/wholethreads/laws.FnExactEventsOf", spec := "fnExactEventsOf", apart := false }
def FnExactEventsOfSaid : Prop := fnExactEventsOfRow.holds Try.pinned (OpenSpec.ofChange fnExactEventsOfSpec)

/-- ITS FALSE NEIGHBOUR: 'it returns false'. Refute it at one input. -/
def fnExactEventsOfWrong : ChangeSpec := { name := "fnExactEventsOf", fn := fun _ => fun
  | [d1, d2] => { results := [.lit (.bool false)], args := [d1, d2] }
  | _ => none }
def FnExactEventsOfWrongFalsely : Prop := fnExactEventsOfRow.holds Try.pinned (OpenSpec.ofChange fnExactEventsOfWrong)

/-- 'laws.FnExactOrders': WHATEVER THE INPUT: true; the input reads as it did. -/
def fnExactOrdersSpec : ChangeSpec := { name := "fnExactOrders", fn := fun _ => fun
  | [d] => { results := [.lit (.bool true)], args := [d] }
  | _ => none }
def fnExactOrdersRow : OpenClaim := { program := "ytmnpndmjheippaa", sum := "81df721cc1f3a4ed3380d1e2c26099faa9c68ba862070cf3b44f604ccc2c7e8d", func := "loop.example/wholethreads/laws.FnExactOrders", spec := "fnExactOrders", recurses := true, apart := false }
def FnExactOrdersSaid : Prop := fnExactOrdersRow.holds Try.pinned (OpenSpec.ofChange fnExactOrdersSpec)

/-- ITS FALSE NEIGHBOUR: 'it returns false'. Refute it at one input. -/
def fnExactOrdersWrong : ChangeSpec := { name := "fnExactOrders", fn := fun _ => fun
  | [d] => { results := [.lit (.bool false)], args := [d] }
  | _ => none }
def FnExactOrdersWrongFalsely : Prop := fnExactOrdersRow.holds Try.pinned (OpenSpec.ofChange fnExactOrdersWrong)

/-- 'laws.FnExactLeastOrder': WHATEVER THE INPUT: true; the input reads as it did. -/
def fnExactLeastOrderSpec : ChangeSpec := { name := "fnExactLeastOrder", fn := fun _ => fun
  | [d1, d2] => { results := [.lit (.bool true)], args := [d1, d2] }
  | _ => none }
def fnExactLeastOrderRow : OpenClaim := { program := "ytmnpndmjheippaa", sum := "81df721cc1f3a4ed3380d1e2c26099faa9c68ba862070cf3b44f604ccc2c7e8d", func := "loop.example/wholethreads/laws.FnExactLeastOrder", spec := "fnExactLeastOrder", apart := false }
def FnExactLeastOrderSaid : Prop := fnExactLeastOrderRow.holds Try.pinned (OpenSpec.ofChange fnExactLeastOrderSpec)

/-- ITS FALSE NEIGHBOUR: 'it returns false'. Refute it at one input. -/
def fnExactLeastOrderWrong : ChangeSpec := { name := "fnExactLeastOrder", fn := fun _ => fun
  | [d1, d2] => { results := [.lit (.bool false)], args := [d1, d2] }
  | _ => none }
def FnExactLeastOrderWrongFalsely : Prop := fnExactLeastOrderRow.holds Try.pinned (OpenSpec.ofChange fnExactLeastOrderWrong)

/-- 'laws.FnExactSameOrders': WHATEVER THE INPUT: true; the input reads as it did. -/
def fnExactSameOrdersSpec : ChangeSpec := { name := "fnExactSameOrders", fn := fun _ => fun
  | [d1, d2, d3] => { results := [.lit (.bool true)], args := [d1, d2, d3] }
  | _ => none }
def fnExactSameOrdersRow : OpenClaim := { program := "ytmnpndmjheippaa", sum := "81df721cc1f3a4ed3380d1e2c26099faa9c68ba862070cf3b44f604ccc2c7e8d", func := "loop.example/wholethreads/laws.FnExactSameOrders", spec := "fnExactSameOrders", apart := false }
def FnExactSameOrdersSaid : Prop := fnExactSameOrdersRow.holds Try.pinned (OpenSpec.ofChange fnExactSameOrdersSpec)

/-- ITS FALSE NEIGHBOUR: 'it returns false'. Refute it at one input. -/
def fnExactSameOrdersWrong : ChangeSpec := { name := "fnExactSameOrders", fn := fun _ => fun
  | [d1, d2, d3] => { results := [.lit (.bool false)], args := [d1, d2, d3] }
  | _ => none }
def FnExactSameOrdersWrongFalsely : Prop := fnExactSameOrdersRow.holds Try.pinned (OpenSpec.ofChange fnExactSameOrdersWrong)

/-- 'laws.FnExactLeastOrders': WHATEVER THE INPUT: true; the input reads as it did. -/
def fnExactLeastOrdersSpec : ChangeSpec := { name := "fnExactLeastOrders", fn := fun _ => fun
  | [d] => { results := [.lit (.bool true)], args := [d] }
  | _ => none }
def fnExactLeastOrdersRow : OpenClaim := { program := "ytmnpndmjheippaa", sum := "81df721cc1f3a4ed3380d1e2c26099faa9c68ba862070cf3b44f604ccc2c7e8d", func := "loop.example/wholethreads/laws.FnExactLeastOrders", spec := "fnExactLeastOrders", recurses := true, apart := false }
def FnExactLeastOrdersSaid : Prop := fnExactLeastOrdersRow.holds Try.pinned (OpenSpec.ofChange fnExactLeastOrdersSpec)

/-- ITS FALSE NEIGHBOUR: 'it returns false'. Refute it at one input. -/
def fnExactLeastOrdersWrong : ChangeSpec := { name := "fnExactLeastOrders", fn := fun _ => fun
  | [d] => { results := [.lit (.bool false)], args := [d] }
  | _ => none }
def FnExactLeastOrdersWrongFalsely : Prop := fnExactLeastOrdersRow.holds Try.pinned (OpenSpec.ofChange fnExactLeastOrdersWrong)

/-- 'laws.FnExactOutcomesBy': WHATEVER THE INPUT: true; the input reads as it did. -/
def fnExactOutcomesBySpec : ChangeSpec := { name := "fnExactOutcomesBy", fn := fun _ => fun
  | [d1, d2] => { results := [.lit (.bool true)], args := [d1, d2] }
  | _ => none }
def fnExactOutcomesByRow : OpenClaim := { program := "ytmnpndmjheippaa", sum := "81df721cc1f3a4ed3380d1e2c26099faa9c68ba862070cf3b44f604ccc2c7e8d", func := "loop.example/wholethreads/laws.FnExactOutcomesBy", spec := "fnExactOutcomesBy", recurses := true, apart := false }
def FnExactOutcomesBySaid : Prop := fnExactOutcomesByRow.holds Try.pinned (OpenSpec.ofChange fnExactOutcomesBySpec)

/-- ITS FALSE NEIGHBOUR: 'it returns false'. Refute it at one input. -/
def fnExactOutcomesByWrong : ChangeSpec := { name := "fnExactOutcomesBy", fn := fun _ => fun
  | [d1, d2] => { results := [.lit (.bool false)], args := [d1, d2] }
  | _ => none }
def FnExactOutcomesByWrongFalsely : Prop := fnExactOutcomesByRow.holds Try.pinned (OpenSpec.ofChange fnExactOutcomesByWrong)

/- THE SECOND FORM. 'bulk': how many values and letters a reading holds, each counted each time it is reached (what is shared counts as often as it is met; a slice's spare places count too). A statement '..UptoSaid' is the law's where the arguments, and the package variables that the reading takes, are together of bulk at most 1048576: NARROWER than '..Said'. Prove '..Said' where nothing that the law and all that it calls make is longer than what came in: it says more and counts as full. Else prove '..UptoSaid'. A law counts once. -/
mutual
def uptoBulk {H : Type} : DataW H → Nat
  | .lit (.string bytes) => bytes.length + 1
  | .lit _ => 1
  | .nil => 1
  | .ptr d => uptoBulk d + 1
  | .slice elems spare => uptoBulkAll elems + uptoBulkAll spare + 1
  | .agg parts => uptoBulkAll parts + 1
  | .iface _ d => uptoBulk d + 1
  | .map entries => uptoBulkEntries entries + 1
  | .held _ => 1
def uptoBulkAll {H : Type} : List (DataW H) → Nat
  | [] => 0
  | d :: r => uptoBulk d + uptoBulkAll r
def uptoBulkEntries {H : Type} : List (Lit × DataW H) → Nat
  | [] => 0
  | x :: r => uptoBulkEntry x + uptoBulkEntries r
def uptoBulkEntry {H : Type} : Lit × DataW H → Nat
  | (.string bytes, d) => bytes.length + uptoBulk d + 1
  | (_, d) => uptoBulk d + 1
 end
def uptoSmall : (H : Type) → List (DataW H) → Bool := fun _ ds => decide (uptoBulkAll ds ≤ 1048576)
def OpenSpec.upto (s : _root_.Go.ChangeSpec) : _root_.Go.OpenSpec := { _root_.Go.OpenSpec.ofChange s with cond := some uptoSmall }

/-- 'laws.FnExactDo', WHERE WHAT IT READS IS OF BULK AT MOST 1048576: true; the input reads as it did. -/
def fnExactDoUptoRow : OpenClaim := { program := "ytmnpndmjheippaa", sum := "81df721cc1f3a4ed3380d1e2c26099faa9c68ba862070cf3b44f604ccc2c7e8d", func := "loop.example/wholethreads/laws.FnExactDo", spec := "fnExactDo", apart := false, narrowed := true }
def FnExactDoUptoSaid : Prop := fnExactDoUptoRow.holds Try.pinned (OpenSpec.upto fnExactDoSpec)

/-- 'laws.FnExactPlay', WHERE WHAT IT READS IS OF BULK AT MOST 1048576: true; the input reads as it did. -/
def fnExactPlayUptoRow : OpenClaim := { program := "ytmnpndmjheippaa", sum := "81df721cc1f3a4ed3380d1e2c26099faa9c68ba862070cf3b44f604ccc2c7e8d", func := "loop.example/wholethreads/laws.FnExactPlay", spec := "fnExactPlay", apart := false, narrowed := true }
def FnExactPlayUptoSaid : Prop := fnExactPlayUptoRow.holds Try.pinned (OpenSpec.upto fnExactPlaySpec)

/-- 'laws.FnExactOutcomeOf', WHERE WHAT IT READS IS OF BULK AT MOST 1048576: true; the input reads as it did. -/
def fnExactOutcomeOfUptoRow : OpenClaim := { program := "ytmnpndmjheippaa", sum := "81df721cc1f3a4ed3380d1e2c26099faa9c68ba862070cf3b44f604ccc2c7e8d", func := "loop.example/wholethreads/laws.FnExactOutcomeOf", spec := "fnExactOutcomeOf", apart := false, narrowed := true }
def FnExactOutcomeOfUptoSaid : Prop := fnExactOutcomeOfUptoRow.holds Try.pinned (OpenSpec.upto fnExactOutcomeOfSpec)

/-- 'laws.FnExactOutcomes', WHERE WHAT IT READS IS OF BULK AT MOST 1048576: true; the input reads as it did. -/
def fnExactOutcomesUptoRow : OpenClaim := { program := "ytmnpndmjheippaa", sum := "81df721cc1f3a4ed3380d1e2c26099faa9c68ba862070cf3b44f604ccc2c7e8d", func := "loop.example/wholethreads/laws.FnExactOutcomes", spec := "fnExactOutcomes", recurses := true, apart := false, narrowed := true }
def FnExactOutcomesUptoSaid : Prop := fnExactOutcomesUptoRow.holds Try.pinned (OpenSpec.upto fnExactOutcomesSpec)

/-- 'laws.FnExactCountStates', WHERE WHAT IT READS IS OF BULK AT MOST 1048576: true; the input reads as it did. -/
def fnExactCountStatesUptoRow : OpenClaim := { program := "ytmnpndmjheippaa", sum := "81df721cc1f3a4ed3380d1e2c26099faa9c68ba862070cf3b44f604ccc2c7e8d", func := "loop.example/wholethreads/laws.FnExactCountStates", spec := "fnExactCountStates", recurses := true, apart := false, narrowed := true }
def FnExactCountStatesUptoSaid : Prop := fnExactCountStatesUptoRow.holds Try.pinned (OpenSpec.upto fnExactCountStatesSpec)

/-- 'laws.FnExactDepend', WHERE WHAT IT READS IS OF BULK AT MOST 1048576: true; the input reads as it did. -/
def fnExactDependUptoRow : OpenClaim := { program := "ytmnpndmjheippaa", sum := "81df721cc1f3a4ed3380d1e2c26099faa9c68ba862070cf3b44f604ccc2c7e8d", func := "loop.example/wholethreads/laws.FnExactDepend", spec := "fnExactDepend", apart := false, narrowed := true }
def FnExactDependUptoSaid : Prop := fnExactDependUptoRow.holds Try.pinned (OpenSpec.upto fnExactDependSpec)

/-- 'laws.FnExactEventsOf', WHERE WHAT IT READS IS OF BULK AT MOST 1048576: true; the input reads as it did. -/
def fnExactEventsOfUptoRow : OpenClaim := { program := "ytmnpndmjheippaa", sum := "81df721cc1f3a4ed3380d1e2c26099faa9c68ba862070cf3b44f604ccc2c7e8d", func := "loop.example/wholethreads/laws.FnExactEventsOf", spec := "fnExactEventsOf", apart := false, narrowed := true }
def FnExactEventsOfUptoSaid : Prop := fnExactEventsOfUptoRow.holds Try.pinned (OpenSpec.upto fnExactEventsOfSpec)

/-- 'laws.FnExactOrders', WHERE WHAT IT READS IS OF BULK AT MOST 1048576: true; the input reads as it did. -/
def fnExactOrdersUptoRow : OpenClaim := { program := "ytmnpndmjheippaa", sum := "81df721cc1f3a4ed3380d1e2c26099faa9c68ba862070cf3b44f604ccc2c7e8d", func := "loop.example/wholethreads/laws.FnExactOrders", spec := "fnExactOrders", recurses := true, apart := false, narrowed := true }
def FnExactOrdersUptoSaid : Prop := fnExactOrdersUptoRow.holds Try.pinned (OpenSpec.upto fnExactOrdersSpec)

/-- 'laws.FnExactLeastOrder', WHERE WHAT IT READS IS OF BULK AT MOST 1048576: true; the input reads as it did. -/
def fnExactLeastOrderUptoRow : OpenClaim := { program := "ytmnpndmjheippaa", sum := "81df721cc1f3a4ed3380d1e2c26099faa9c68ba862070cf3b44f604ccc2c7e8d", func := "loop.example/wholethreads/laws.FnExactLeastOrder", spec := "fnExactLeastOrder", apart := false, narrowed := true }
def FnExactLeastOrderUptoSaid : Prop := fnExactLeastOrderUptoRow.holds Try.pinned (OpenSpec.upto fnExactLeastOrderSpec)

/-- 'laws.FnExactSameOrders', WHERE WHAT IT READS IS OF BULK AT MOST 1048576: true; the input reads as it did. -/
def fnExactSameOrdersUptoRow : OpenClaim := { program := "ytmnpndmjheippaa", sum := "81df721cc1f3a4ed3380d1e2c26099faa9c68ba862070cf3b44f604ccc2c7e8d", func := "loop.example/wholethreads/laws.FnExactSameOrders", spec := "fnExactSameOrders", apart := false, narrowed := true }
def FnExactSameOrdersUptoSaid : Prop := fnExactSameOrdersUptoRow.holds Try.pinned (OpenSpec.upto fnExactSameOrdersSpec)

/-- 'laws.FnExactLeastOrders', WHERE WHAT IT READS IS OF BULK AT MOST 1048576: true; the input reads as it did. -/
def fnExactLeastOrdersUptoRow : OpenClaim := { program := "ytmnpndmjheippaa", sum := "81df721cc1f3a4ed3380d1e2c26099faa9c68ba862070cf3b44f604ccc2c7e8d", func := "loop.example/wholethreads/laws.FnExactLeastOrders", spec := "fnExactLeastOrders", recurses := true, apart := false, narrowed := true }
def FnExactLeastOrdersUptoSaid : Prop := fnExactLeastOrdersUptoRow.holds Try.pinned (OpenSpec.upto fnExactLeastOrdersSpec)

/-- 'laws.FnExactOutcomesBy', WHERE WHAT IT READS IS OF BULK AT MOST 1048576: true; the input reads as it did. -/
def fnExactOutcomesByUptoRow : OpenClaim := { program := "ytmnpndmjheippaa", sum := "81df721cc1f3a4ed3380d1e2c26099faa9c68ba862070cf3b44f604ccc2c7e8d", func := "loop.example/wholethreads/laws.FnExactOutcomesBy", spec := "fnExactOutcomesBy", recurses := true, apart := false, narrowed := true }
def FnExactOutcomesByUptoSaid : Prop := fnExactOutcomesByUptoRow.holds Try.pinned (OpenSpec.upto fnExactOutcomesBySpec)

end Rows
end Go.Proofs.Ytmnpndmjheippaa
