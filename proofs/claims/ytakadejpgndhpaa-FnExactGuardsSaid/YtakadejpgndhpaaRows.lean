/-
  No cell of these rows narrows 'for every input' (looked for: loops, veiled, ifaces, maps, wideKeys, modest, calm, conditions, laid).
  DERIVED. THE GIVEN ROWS OF THIS SEAT. 12 by the template 'for every input the law returns true; each argument reads behind the call as it read before'; 0 by the template 'total and deterministic' (their statements: YtakadejpgndhpaaTotals.lean).
  GIVEN WITH THE SEED: the statements are not yours to turn. If you find one false, say at which input.
  Laid BY PROGRAM, IN A SANDBOX (cutbox-rows.mjs): the forced cells as the released guide's own fill.sh prints them over the translation 97c87c5b8e54a4f1… (all of the seat's roots in one cut). By AI agents, Wed Nov 11 2026. No macro, syntax, notation, axiom, sorry.
-/
import Derived.Test.YtakadejpgndhpaaChecked
import GoSem.Claim
import GoSem.ClaimJoined
import GoSem.ClaimMapViews
import Derived.JoinedTies
import Derived.KernelRfl
namespace Go.Proofs.Ytakadejpgndhpaa
/- THE CELL 'sum', in the pinned program and in every row, IS THE sha256 OF THE DUMP (.gsa) THAT YtakadejpgndhpaaProg.lean LOADS. Nothing in Lean hashes anything: it is a label: what it is worth is what the hold of that sum in a sandbox is worth. -/
noncomputable def Try.pinned : Pinned := { name := "ytakadejpgndhpaa", sum := "97c87c5b8e54a4f1c9d5692e7945e02dbaefdd8ec61c9a2698ebaf7b5cb39b0e", checked := Try.checked }
namespace Rows
def none {H : Type} : Left H := { results := [], args := [] }

/-- 'laws.FnExactOutcomes': WHATEVER THE INPUT: true; the input reads as it did. -/
def fnExactOutcomesSpec : ChangeSpec := { name := "fnExactOutcomes", fn := fun _ => fun
  | [d] => { results := [.lit (.bool true)], args := [d] }
  | _ => none }
def fnExactOutcomesRow : OpenClaim := { program := "ytakadejpgndhpaa", sum := "97c87c5b8e54a4f1c9d5692e7945e02dbaefdd8ec61c9a2698ebaf7b5cb39b0e", func := "loop.example/wholethreads/laws.FnExactOutcomes", spec := "fnExactOutcomes", recurses := true, apart := false }
def FnExactOutcomesSaid : Prop := fnExactOutcomesRow.holds Try.pinned (OpenSpec.ofChange fnExactOutcomesSpec)

/-- ITS FALSE NEIGHBOUR: 'it returns false'. Refute it at one input. -/
def fnExactOutcomesWrong : ChangeSpec := { name := "fnExactOutcomes", fn := fun _ => fun
  | [d] => { results := [.lit (.bool false)], args := [d] }
  | _ => none }
def FnExactOutcomesWrongFalsely : Prop := fnExactOutcomesRow.holds Try.pinned (OpenSpec.ofChange fnExactOutcomesWrong)

/-- 'laws.FnExactCountStates': WHATEVER THE INPUT: true; the input reads as it did. -/
def fnExactCountStatesSpec : ChangeSpec := { name := "fnExactCountStates", fn := fun _ => fun
  | [d] => { results := [.lit (.bool true)], args := [d] }
  | _ => none }
def fnExactCountStatesRow : OpenClaim := { program := "ytakadejpgndhpaa", sum := "97c87c5b8e54a4f1c9d5692e7945e02dbaefdd8ec61c9a2698ebaf7b5cb39b0e", func := "loop.example/wholethreads/laws.FnExactCountStates", spec := "fnExactCountStates", recurses := true, apart := false }
def FnExactCountStatesSaid : Prop := fnExactCountStatesRow.holds Try.pinned (OpenSpec.ofChange fnExactCountStatesSpec)

/-- ITS FALSE NEIGHBOUR: 'it returns false'. Refute it at one input. -/
def fnExactCountStatesWrong : ChangeSpec := { name := "fnExactCountStates", fn := fun _ => fun
  | [d] => { results := [.lit (.bool false)], args := [d] }
  | _ => none }
def FnExactCountStatesWrongFalsely : Prop := fnExactCountStatesRow.holds Try.pinned (OpenSpec.ofChange fnExactCountStatesWrong)

/-- 'laws.FnExactOutcomesBy': WHATEVER THE INPUT: true; the input reads as it did. -/
def fnExactOutcomesBySpec : ChangeSpec := { name := "fnExactOutcomesBy", fn := fun _ => fun
  | [d1, d2] => { results := [.lit (.bool true)], args := [d1, d2] }
  | _ => none }
def fnExactOutcomesByRow : OpenClaim := { program := "ytakadejpgndhpaa", sum := "97c87c5b8e54a4f1c9d5692e7945e02dbaefdd8ec61c9a2698ebaf7b5cb39b0e", func := "loop.example/wholethreads/laws.FnExactOutcomesBy", spec := "fnExactOutcomesBy", recurses := true, apart := false }
def FnExactOutcomesBySaid : Prop := fnExactOutcomesByRow.holds Try.pinned (OpenSpec.ofChange fnExactOutcomesBySpec)

/-- ITS FALSE NEIGHBOUR: 'it returns false'. Refute it at one input. -/
def fnExactOutcomesByWrong : ChangeSpec := { name := "fnExactOutcomesBy", fn := fun _ => fun
  | [d1, d2] => { results := [.lit (.bool false)], args := [d1, d2] }
  | _ => none }
def FnExactOutcomesByWrongFalsely : Prop := fnExactOutcomesByRow.holds Try.pinned (OpenSpec.ofChange fnExactOutcomesByWrong)

/-- 'laws.FnExactGuards': WHATEVER THE INPUT: true; the input reads as it did. -/
def fnExactGuardsSpec : ChangeSpec := { name := "fnExactGuards", fn := fun _ => fun
  | [d] => { results := [.lit (.bool true)], args := [d] }
  | _ => none }
def fnExactGuardsRow : OpenClaim := { program := "ytakadejpgndhpaa", sum := "97c87c5b8e54a4f1c9d5692e7945e02dbaefdd8ec61c9a2698ebaf7b5cb39b0e", func := "loop.example/wholethreads/laws.FnExactGuards", spec := "fnExactGuards", recurses := true, apart := false }
def FnExactGuardsSaid : Prop := fnExactGuardsRow.holds Try.pinned (OpenSpec.ofChange fnExactGuardsSpec)

/-- ITS FALSE NEIGHBOUR: 'it returns false'. Refute it at one input. -/
def fnExactGuardsWrong : ChangeSpec := { name := "fnExactGuards", fn := fun _ => fun
  | [d] => { results := [.lit (.bool false)], args := [d] }
  | _ => none }
def FnExactGuardsWrongFalsely : Prop := fnExactGuardsRow.holds Try.pinned (OpenSpec.ofChange fnExactGuardsWrong)

/-- 'laws.FnExactGuarded': WHATEVER THE INPUT: true; the input reads as it did. -/
def fnExactGuardedSpec : ChangeSpec := { name := "fnExactGuarded", fn := fun _ => fun
  | [d] => { results := [.lit (.bool true)], args := [d] }
  | _ => none }
def fnExactGuardedRow : OpenClaim := { program := "ytakadejpgndhpaa", sum := "97c87c5b8e54a4f1c9d5692e7945e02dbaefdd8ec61c9a2698ebaf7b5cb39b0e", func := "loop.example/wholethreads/laws.FnExactGuarded", spec := "fnExactGuarded", recurses := true, apart := false }
def FnExactGuardedSaid : Prop := fnExactGuardedRow.holds Try.pinned (OpenSpec.ofChange fnExactGuardedSpec)

/-- ITS FALSE NEIGHBOUR: 'it returns false'. Refute it at one input. -/
def fnExactGuardedWrong : ChangeSpec := { name := "fnExactGuarded", fn := fun _ => fun
  | [d] => { results := [.lit (.bool false)], args := [d] }
  | _ => none }
def FnExactGuardedWrongFalsely : Prop := fnExactGuardedRow.holds Try.pinned (OpenSpec.ofChange fnExactGuardedWrong)

/-- 'laws.FnExactStuck': WHATEVER THE INPUT: true; the input reads as it did. -/
def fnExactStuckSpec : ChangeSpec := { name := "fnExactStuck", fn := fun _ => fun
  | [d1, d2] => { results := [.lit (.bool true)], args := [d1, d2] }
  | _ => none }
def fnExactStuckRow : OpenClaim := { program := "ytakadejpgndhpaa", sum := "97c87c5b8e54a4f1c9d5692e7945e02dbaefdd8ec61c9a2698ebaf7b5cb39b0e", func := "loop.example/wholethreads/laws.FnExactStuck", spec := "fnExactStuck", apart := false }
def FnExactStuckSaid : Prop := fnExactStuckRow.holds Try.pinned (OpenSpec.ofChange fnExactStuckSpec)

/-- ITS FALSE NEIGHBOUR: 'it returns false'. Refute it at one input. -/
def fnExactStuckWrong : ChangeSpec := { name := "fnExactStuck", fn := fun _ => fun
  | [d1, d2] => { results := [.lit (.bool false)], args := [d1, d2] }
  | _ => none }
def FnExactStuckWrongFalsely : Prop := fnExactStuckRow.holds Try.pinned (OpenSpec.ofChange fnExactStuckWrong)

/-- 'laws.FnExactWaitsFor': WHATEVER THE INPUT: true; the input reads as it did. -/
def fnExactWaitsForSpec : ChangeSpec := { name := "fnExactWaitsFor", fn := fun _ => fun
  | [d1, d2] => { results := [.lit (.bool true)], args := [d1, d2] }
  | _ => none }
def fnExactWaitsForRow : OpenClaim := { program := "ytakadejpgndhpaa", sum := "97c87c5b8e54a4f1c9d5692e7945e02dbaefdd8ec61c9a2698ebaf7b5cb39b0e", func := "loop.example/wholethreads/laws.FnExactWaitsFor", spec := "fnExactWaitsFor", apart := false }
def FnExactWaitsForSaid : Prop := fnExactWaitsForRow.holds Try.pinned (OpenSpec.ofChange fnExactWaitsForSpec)

/-- ITS FALSE NEIGHBOUR: 'it returns false'. Refute it at one input. -/
def fnExactWaitsForWrong : ChangeSpec := { name := "fnExactWaitsFor", fn := fun _ => fun
  | [d1, d2] => { results := [.lit (.bool false)], args := [d1, d2] }
  | _ => none }
def FnExactWaitsForWrongFalsely : Prop := fnExactWaitsForRow.holds Try.pinned (OpenSpec.ofChange fnExactWaitsForWrong)

/-- 'laws.FnExactCircle': WHATEVER THE INPUT: true; the input reads as it did. -/
def fnExactCircleSpec : ChangeSpec := { name := "fnExactCircle", fn := fun _ => fun
  | [d1, d2] => { results := [.lit (.bool true)], args := [d1, d2] }
  | _ => none }
def fnExactCircleRow : OpenClaim := { program := "ytakadejpgndhpaa", sum := "97c87c5b8e54a4f1c9d5692e7945e02dbaefdd8ec61c9a2698ebaf7b5cb39b0e", func := "loop.example/wholethreads/laws.FnExactCircle", spec := "fnExactCircle", apart := false }
def FnExactCircleSaid : Prop := fnExactCircleRow.holds Try.pinned (OpenSpec.ofChange fnExactCircleSpec)

/-- ITS FALSE NEIGHBOUR: 'it returns false'. Refute it at one input. -/
def fnExactCircleWrong : ChangeSpec := { name := "fnExactCircle", fn := fun _ => fun
  | [d1, d2] => { results := [.lit (.bool false)], args := [d1, d2] }
  | _ => none }
def FnExactCircleWrongFalsely : Prop := fnExactCircleRow.holds Try.pinned (OpenSpec.ofChange fnExactCircleWrong)

/-- 'laws.FnExactStuckOrder': WHATEVER THE INPUT: true; the input reads as it did. -/
def fnExactStuckOrderSpec : ChangeSpec := { name := "fnExactStuckOrder", fn := fun _ => fun
  | [d] => { results := [.lit (.bool true)], args := [d] }
  | _ => none }
def fnExactStuckOrderRow : OpenClaim := { program := "ytakadejpgndhpaa", sum := "97c87c5b8e54a4f1c9d5692e7945e02dbaefdd8ec61c9a2698ebaf7b5cb39b0e", func := "loop.example/wholethreads/laws.FnExactStuckOrder", spec := "fnExactStuckOrder", recurses := true, apart := false }
def FnExactStuckOrderSaid : Prop := fnExactStuckOrderRow.holds Try.pinned (OpenSpec.ofChange fnExactStuckOrderSpec)

/-- ITS FALSE NEIGHBOUR: 'it returns false'. Refute it at one input. -/
def fnExactStuckOrderWrong : ChangeSpec := { name := "fnExactStuckOrder", fn := fun _ => fun
  | [d] => { results := [.lit (.bool false)], args := [d] }
  | _ => none }
def FnExactStuckOrderWrongFalsely : Prop := fnExactStuckOrderRow.holds Try.pinned (OpenSpec.ofChange fnExactStuckOrderWrong)

/-- 'laws.FnExactStuckFree': WHATEVER THE INPUT: true; the input reads as it did. -/
def fnExactStuckFreeSpec : ChangeSpec := { name := "fnExactStuckFree", fn := fun _ => fun
  | [d] => { results := [.lit (.bool true)], args := [d] }
  | _ => none }
def fnExactStuckFreeRow : OpenClaim := { program := "ytakadejpgndhpaa", sum := "97c87c5b8e54a4f1c9d5692e7945e02dbaefdd8ec61c9a2698ebaf7b5cb39b0e", func := "loop.example/wholethreads/laws.FnExactStuckFree", spec := "fnExactStuckFree", recurses := true, apart := false }
def FnExactStuckFreeSaid : Prop := fnExactStuckFreeRow.holds Try.pinned (OpenSpec.ofChange fnExactStuckFreeSpec)

/-- ITS FALSE NEIGHBOUR: 'it returns false'. Refute it at one input. -/
def fnExactStuckFreeWrong : ChangeSpec := { name := "fnExactStuckFree", fn := fun _ => fun
  | [d] => { results := [.lit (.bool false)], args := [d] }
  | _ => none }
def FnExactStuckFreeWrongFalsely : Prop := fnExactStuckFreeRow.holds Try.pinned (OpenSpec.ofChange fnExactStuckFreeWrong)

/-- 'laws.FnExactLockPairs': WHATEVER THE INPUT: true; the input reads as it did. -/
def fnExactLockPairsSpec : ChangeSpec := { name := "fnExactLockPairs", fn := fun _ => fun
  | [d] => { results := [.lit (.bool true)], args := [d] }
  | _ => none }
def fnExactLockPairsRow : OpenClaim := { program := "ytakadejpgndhpaa", sum := "97c87c5b8e54a4f1c9d5692e7945e02dbaefdd8ec61c9a2698ebaf7b5cb39b0e", func := "loop.example/wholethreads/laws.FnExactLockPairs", spec := "fnExactLockPairs", recurses := true, apart := false }
def FnExactLockPairsSaid : Prop := fnExactLockPairsRow.holds Try.pinned (OpenSpec.ofChange fnExactLockPairsSpec)

/-- ITS FALSE NEIGHBOUR: 'it returns false'. Refute it at one input. -/
def fnExactLockPairsWrong : ChangeSpec := { name := "fnExactLockPairs", fn := fun _ => fun
  | [d] => { results := [.lit (.bool false)], args := [d] }
  | _ => none }
def FnExactLockPairsWrongFalsely : Prop := fnExactLockPairsRow.holds Try.pinned (OpenSpec.ofChange fnExactLockPairsWrong)

/-- 'laws.FnExactAscending': WHATEVER THE INPUT: true; the input reads as it did. -/
def fnExactAscendingSpec : ChangeSpec := { name := "fnExactAscending", fn := fun _ => fun
  | [d] => { results := [.lit (.bool true)], args := [d] }
  | _ => none }
def fnExactAscendingRow : OpenClaim := { program := "ytakadejpgndhpaa", sum := "97c87c5b8e54a4f1c9d5692e7945e02dbaefdd8ec61c9a2698ebaf7b5cb39b0e", func := "loop.example/wholethreads/laws.FnExactAscending", spec := "fnExactAscending", apart := false }
def FnExactAscendingSaid : Prop := fnExactAscendingRow.holds Try.pinned (OpenSpec.ofChange fnExactAscendingSpec)

/-- ITS FALSE NEIGHBOUR: 'it returns false'. Refute it at one input. -/
def fnExactAscendingWrong : ChangeSpec := { name := "fnExactAscending", fn := fun _ => fun
  | [d] => { results := [.lit (.bool false)], args := [d] }
  | _ => none }
def FnExactAscendingWrongFalsely : Prop := fnExactAscendingRow.holds Try.pinned (OpenSpec.ofChange fnExactAscendingWrong)

/- THE SECOND FORM. 'bulk': how many values and letters a reading holds, each counted each time it is reached (what is shared counts as often as it is met; a slice's spare places count too). A statement '..UptoSaid' is the law's where the arguments, and the package variables that the reading takes, are together of bulk at most 1048576: NARROWER than '..Said'. Prove '..Said' where nothing that the law and all that it calls make is longer than what came in: it says more and counts as full. Else prove '..UptoSaid'. A law counts once. -/
mutual
def uptoBulk {H : Type} : DataW H → Nat
  | .lit (.string bytes) => bytes.length + 1
  | .lit _ => 1
  | .nil => 1
  | .ptr d => uptoBulk d + 1
  | .slice elems spare => uptoBulkAll elems + uptoBulkAll spare + 1
  | .agg parts => uptoBulkAll parts + 1
  | .iface _ d => uptoBulk d + 1
  | .map entries => uptoBulkEntries entries + 1
  | .held _ => 1
def uptoBulkAll {H : Type} : List (DataW H) → Nat
  | [] => 0
  | d :: r => uptoBulk d + uptoBulkAll r
def uptoBulkEntries {H : Type} : List (Lit × DataW H) → Nat
  | [] => 0
  | x :: r => uptoBulkEntry x + uptoBulkEntries r
def uptoBulkEntry {H : Type} : Lit × DataW H → Nat
  | (.string bytes, d) => bytes.length + uptoBulk d + 1
  | (_, d) => uptoBulk d + 1
 end
def uptoSmall : (H : Type) → List (DataW H) → Bool := fun _ ds => decide (uptoBulkAll ds ≤ 1048576)
def OpenSpec.upto (s : _root_.Go.ChangeSpec) : _root_.Go.OpenSpec := { _root_.Go.OpenSpec.ofChange s with cond := some uptoSmall }

/-- 'laws.FnExactOutcomes', WHERE WHAT IT READS IS OF BULK AT MOST 1048576: true; the input reads as it did. -/
def fnExactOutcomesUptoRow : OpenClaim := { program := "ytakadejpgndhpaa", sum := "97c87c5b8e54a4f1c9d5692e7945e02dbaefdd8ec61c9a2698ebaf7b5cb39b0e", func := "loop.example/wholethreads/laws.FnExactOutcomes", spec := "fnExactOutcomes", recurses := true, apart := false, narrowed := true }
def FnExactOutcomesUptoSaid : Prop := fnExactOutcomesUptoRow.holds Try.pinned (OpenSpec.upto fnExactOutcomesSpec)

/-- 'laws.FnExactCountStates', WHERE WHAT IT READS IS OF BULK AT MOST 1048576: true; the input reads as it did. -/
def fnExactCountStatesUptoRow : OpenClaim := { program := "ytakadejpgndhpaa", sum := "97c87c5b8e54a4f1c9d5692e7945e02dbaefdd8ec61c9a2698ebaf7b5cb39b0e", func := "loop.example/wholethreads/laws.FnExactCountStates", spec := "fnExactCountStates", recurses := true, apart := false, narrowed := true }
def FnExactCountStatesUptoSaid : Prop := fnExactCountStatesUptoRow.holds Try.pinned (OpenSpec.upto fnExactCountStatesSpec)

/-- 'laws.FnExactOutcomesBy', WHERE WHAT IT READS IS OF BULK AT MOST 1048576: true; the input reads as it did. -/
def fnExactOutcomesByUptoRow : OpenClaim := { program := "ytakadejpgndhpaa", sum := "97c87c5b8e54a4f1c9d5692e7945e02dbaefdd8ec61c9a2698ebaf7b5cb39b0e", func := "loop.example/wholethreads/laws.FnExactOutcomesBy", spec := "fnExactOutcomesBy", recurses := true, apart := false, narrowed := true }
def FnExactOutcomesByUptoSaid : Prop := fnExactOutcomesByUptoRow.holds Try.pinned (OpenSpec.upto fnExactOutcomesBySpec)

/-- 'laws.FnExactGuards', WHERE WHAT IT READS IS OF BULK AT MOST 1048576: true; the input reads as it did. -/
def fnExactGuardsUptoRow : OpenClaim := { program := "ytakadejpgndhpaa", sum := "97c87c5b8e54a4f1c9d5692e7945e02dbaefdd8ec61c9a2698ebaf7b5cb39b0e", func := "loop.example/wholethreads/laws.FnExactGuards", spec := "fnExactGuards", recurses := true, apart := false, narrowed := true }
def FnExactGuardsUptoSaid : Prop := fnExactGuardsUptoRow.holds Try.pinned (OpenSpec.upto fnExactGuardsSpec)

/-- 'laws.FnExactGuarded', WHERE WHAT IT READS IS OF BULK AT MOST 1048576: true; the input reads as it did. -/
def fnExactGuardedUptoRow : OpenClaim := { program := "ytakadejpgndhpaa", sum := "97c87c5b8e54a4f1c9d5692e7945e02dbaefdd8ec61c9a2698ebaf7b5cb39b0e", func := "loop.example/wholethreads/laws.FnExactGuarded", spec := "fnExactGuarded", recurses := true, apart := false, narrowed := true }
def FnExactGuardedUptoSaid : Prop := fnExactGuardedUptoRow.holds Try.pinned (OpenSpec.upto fnExactGuardedSpec)

/-- 'laws.FnExactStuck', WHERE WHAT IT READS IS OF BULK AT MOST 1048576: true; the input reads as it did. -/
def fnExactStuckUptoRow : OpenClaim := { program := "ytakadejpgndhpaa", sum := "97c87c5b8e54a4f1c9d5692e7945e02dbaefdd8ec61c9a2698ebaf7b5cb39b0e", func := "loop.example/wholethreads/laws.FnExactStuck", spec := "fnExactStuck", apart := false, narrowed := true }
def FnExactStuckUptoSaid : Prop := fnExactStuckUptoRow.holds Try.pinned (OpenSpec.upto fnExactStuckSpec)

/-- 'laws.FnExactWaitsFor', WHERE WHAT IT READS IS OF BULK AT MOST 1048576: true; the input reads as it did. -/
def fnExactWaitsForUptoRow : OpenClaim := { program := "ytakadejpgndhpaa", sum := "97c87c5b8e54a4f1c9d5692e7945e02dbaefdd8ec61c9a2698ebaf7b5cb39b0e", func := "loop.example/wholethreads/laws.FnExactWaitsFor", spec := "fnExactWaitsFor", apart := false, narrowed := true }
def FnExactWaitsForUptoSaid : Prop := fnExactWaitsForUptoRow.holds Try.pinned (OpenSpec.upto fnExactWaitsForSpec)

/-- 'laws.FnExactCircle', WHERE WHAT IT READS IS OF BULK AT MOST 1048576: true; the input reads as it did. -/
def fnExactCircleUptoRow : OpenClaim := { program := "ytakadejpgndhpaa", sum := "97c87c5b8e54a4f1c9d5692e7945e02dbaefdd8ec61c9a2698ebaf7b5cb39b0e", func := "loop.example/wholethreads/laws.FnExactCircle", spec := "fnExactCircle", apart := false, narrowed := true }
def FnExactCircleUptoSaid : Prop := fnExactCircleUptoRow.holds Try.pinned (OpenSpec.upto fnExactCircleSpec)

/-- 'laws.FnExactStuckOrder', WHERE WHAT IT READS IS OF BULK AT MOST 1048576: true; the input reads as it did. -/
def fnExactStuckOrderUptoRow : OpenClaim := { program := "ytakadejpgndhpaa", sum := "97c87c5b8e54a4f1c9d5692e7945e02dbaefdd8ec61c9a2698ebaf7b5cb39b0e", func := "loop.example/wholethreads/laws.FnExactStuckOrder", spec := "fnExactStuckOrder", recurses := true, apart := false, narrowed := true }
def FnExactStuckOrderUptoSaid : Prop := fnExactStuckOrderUptoRow.holds Try.pinned (OpenSpec.upto fnExactStuckOrderSpec)

/-- 'laws.FnExactStuckFree', WHERE WHAT IT READS IS OF BULK AT MOST 1048576: true; the input reads as it did. -/
def fnExactStuckFreeUptoRow : OpenClaim := { program := "ytakadejpgndhpaa", sum := "97c87c5b8e54a4f1c9d5692e7945e02dbaefdd8ec61c9a2698ebaf7b5cb39b0e", func := "loop.example/wholethreads/laws.FnExactStuckFree", spec := "fnExactStuckFree", recurses := true, apart := false, narrowed := true }
def FnExactStuckFreeUptoSaid : Prop := fnExactStuckFreeUptoRow.holds Try.pinned (OpenSpec.upto fnExactStuckFreeSpec)

/-- 'laws.FnExactLockPairs', WHERE WHAT IT READS IS OF BULK AT MOST 1048576: true; the input reads as it did. -/
def fnExactLockPairsUptoRow : OpenClaim := { program := "ytakadejpgndhpaa", sum := "97c87c5b8e54a4f1c9d5692e7945e02dbaefdd8ec61c9a2698ebaf7b5cb39b0e", func := "loop.example/wholethreads/laws.FnExactLockPairs", spec := "fnExactLockPairs", recurses := true, apart := false, narrowed := true }
def FnExactLockPairsUptoSaid : Prop := fnExactLockPairsUptoRow.holds Try.pinned (OpenSpec.upto fnExactLockPairsSpec)

/-- 'laws.FnExactAscending', WHERE WHAT IT READS IS OF BULK AT MOST 1048576: true; the input reads as it did. -/
def fnExactAscendingUptoRow : OpenClaim := { program := "ytakadejpgndhpaa", sum := "97c87c5b8e54a4f1c9d5692e7945e02dbaefdd8ec61c9a2698ebaf7b5cb39b0e", func := "loop.example/wholethreads/laws.FnExactAscending", spec := "fnExactAscending", apart := false, narrowed := true }
def FnExactAscendingUptoSaid : Prop := fnExactAscendingUptoRow.holds Try.pinned (OpenSpec.upto fnExactAscendingSpec)

end Rows
end Go.Proofs.Ytakadejpgndhpaa
