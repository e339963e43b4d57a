/-
  No cell of these rows narrows 'for every input' (looked for: loops, veiled, ifaces, maps, wideKeys, modest, calm, conditions, laid).
  DERIVED. THE GIVEN ROWS OF THIS SEAT. 9 by the template 'for every input the law returns true; each argument reads behind the call as it read before'; 0 by the template 'total and deterministic' (their statements: YtpcdcgcbhhnhhaaTotals.lean).
  GIVEN WITH THE SEED: the statements are not yours to turn. If you find one false, say at which input.
  Laid BY PROGRAM, IN A SANDBOX (cutbox-rows.mjs): the forced cells as the released guide's own fill.sh prints them over the translation 6673637064dc94c0… (all of the seat's roots in one cut). By AI agents, Wed Nov 11 2026. No macro, syntax, notation, axiom, sorry.
-/
import Derived.Test.YtpcdcgcbhhnhhaaChecked
import GoSem.Claim
import GoSem.ClaimJoined
import GoSem.ClaimMapViews
import Derived.JoinedTies
import Derived.KernelRfl
namespace Go.Proofs.Ytpcdcgcbhhnhhaa
/- THE CELL 'sum', in the pinned program and in every row, IS THE sha256 OF THE DUMP (.gsa) THAT YtpcdcgcbhhnhhaaProg.lean LOADS. Nothing in Lean hashes anything: it is a label: what it is worth is what the hold of that sum in a sandbox is worth. -/
noncomputable def Try.pinned : Pinned := { name := "ytpcdcgcbhhnhhaa", sum := "6673637064dc94c0c6ce223b348f9dd1969647aa88ddefb77497aa05a4391a77", checked := Try.checked }
namespace Rows
def none {H : Type} : Left H := { results := [], args := [] }

/-- 'laws.FnExactBufBegin': WHATEVER THE INPUT: true; the input reads as it did. -/
def fnExactBufBeginSpec : ChangeSpec := { name := "fnExactBufBegin", fn := fun _ => fun
  | [d] => { results := [.lit (.bool true)], args := [d] }
  | _ => none }
def fnExactBufBeginRow : OpenClaim := { program := "ytpcdcgcbhhnhhaa", sum := "6673637064dc94c0c6ce223b348f9dd1969647aa88ddefb77497aa05a4391a77", func := "loop.example/wholethreads/laws.FnExactBufBegin", spec := "fnExactBufBegin", apart := false }
def FnExactBufBeginSaid : Prop := fnExactBufBeginRow.holds Try.pinned (OpenSpec.ofChange fnExactBufBeginSpec)

/-- ITS FALSE NEIGHBOUR: 'it returns false'. Refute it at one input. -/
def fnExactBufBeginWrong : ChangeSpec := { name := "fnExactBufBegin", fn := fun _ => fun
  | [d] => { results := [.lit (.bool false)], args := [d] }
  | _ => none }
def FnExactBufBeginWrongFalsely : Prop := fnExactBufBeginRow.holds Try.pinned (OpenSpec.ofChange fnExactBufBeginWrong)

/-- 'laws.FnExactBufOk': WHATEVER THE INPUT: true; the input reads as it did. -/
def fnExactBufOkSpec : ChangeSpec := { name := "fnExactBufOk", fn := fun _ => fun
  | [d1, d2] => { results := [.lit (.bool true)], args := [d1, d2] }
  | _ => none }
def fnExactBufOkRow : OpenClaim := { program := "ytpcdcgcbhhnhhaa", sum := "6673637064dc94c0c6ce223b348f9dd1969647aa88ddefb77497aa05a4391a77", func := "loop.example/wholethreads/laws.FnExactBufOk", spec := "fnExactBufOk", apart := false }
def FnExactBufOkSaid : Prop := fnExactBufOkRow.holds Try.pinned (OpenSpec.ofChange fnExactBufOkSpec)

/-- ITS FALSE NEIGHBOUR: 'it returns false'. Refute it at one input. -/
def fnExactBufOkWrong : ChangeSpec := { name := "fnExactBufOk", fn := fun _ => fun
  | [d1, d2] => { results := [.lit (.bool false)], args := [d1, d2] }
  | _ => none }
def FnExactBufOkWrongFalsely : Prop := fnExactBufOkRow.holds Try.pinned (OpenSpec.ofChange fnExactBufOkWrong)

/-- 'laws.FnExactBufReads': WHATEVER THE INPUT: true; the input reads as it did. -/
def fnExactBufReadsSpec : ChangeSpec := { name := "fnExactBufReads", fn := fun _ => fun
  | [d1, d2, d3, d4] => { results := [.lit (.bool true)], args := [d1, d2, d3, d4] }
  | _ => none }
def fnExactBufReadsRow : OpenClaim := { program := "ytpcdcgcbhhnhhaa", sum := "6673637064dc94c0c6ce223b348f9dd1969647aa88ddefb77497aa05a4391a77", func := "loop.example/wholethreads/laws.FnExactBufReads", spec := "fnExactBufReads", apart := false }
def FnExactBufReadsSaid : Prop := fnExactBufReadsRow.holds Try.pinned (OpenSpec.ofChange fnExactBufReadsSpec)

/-- ITS FALSE NEIGHBOUR: 'it returns false'. Refute it at one input. -/
def fnExactBufReadsWrong : ChangeSpec := { name := "fnExactBufReads", fn := fun _ => fun
  | [d1, d2, d3, d4] => { results := [.lit (.bool false)], args := [d1, d2, d3, d4] }
  | _ => none }
def FnExactBufReadsWrongFalsely : Prop := fnExactBufReadsRow.holds Try.pinned (OpenSpec.ofChange fnExactBufReadsWrong)

/-- 'laws.FnExactBufCan': WHATEVER THE INPUT: true; the input reads as it did. -/
def fnExactBufCanSpec : ChangeSpec := { name := "fnExactBufCan", fn := fun _ => fun
  | [d1, d2, d3] => { results := [.lit (.bool true)], args := [d1, d2, d3] }
  | _ => none }
def fnExactBufCanRow : OpenClaim := { program := "ytpcdcgcbhhnhhaa", sum := "6673637064dc94c0c6ce223b348f9dd1969647aa88ddefb77497aa05a4391a77", func := "loop.example/wholethreads/laws.FnExactBufCan", spec := "fnExactBufCan", apart := false }
def FnExactBufCanSaid : Prop := fnExactBufCanRow.holds Try.pinned (OpenSpec.ofChange fnExactBufCanSpec)

/-- ITS FALSE NEIGHBOUR: 'it returns false'. Refute it at one input. -/
def fnExactBufCanWrong : ChangeSpec := { name := "fnExactBufCan", fn := fun _ => fun
  | [d1, d2, d3] => { results := [.lit (.bool false)], args := [d1, d2, d3] }
  | _ => none }
def FnExactBufCanWrongFalsely : Prop := fnExactBufCanRow.holds Try.pinned (OpenSpec.ofChange fnExactBufCanWrong)

/-- 'laws.FnExactBufPlay': WHATEVER THE INPUT: true; the input reads as it did. -/
def fnExactBufPlaySpec : ChangeSpec := { name := "fnExactBufPlay", fn := fun _ => fun
  | [d1, d2] => { results := [.lit (.bool true)], args := [d1, d2] }
  | _ => none }
def fnExactBufPlayRow : OpenClaim := { program := "ytpcdcgcbhhnhhaa", sum := "6673637064dc94c0c6ce223b348f9dd1969647aa88ddefb77497aa05a4391a77", func := "loop.example/wholethreads/laws.FnExactBufPlay", spec := "fnExactBufPlay", apart := false }
def FnExactBufPlaySaid : Prop := fnExactBufPlayRow.holds Try.pinned (OpenSpec.ofChange fnExactBufPlaySpec)

/-- ITS FALSE NEIGHBOUR: 'it returns false'. Refute it at one input. -/
def fnExactBufPlayWrong : ChangeSpec := { name := "fnExactBufPlay", fn := fun _ => fun
  | [d1, d2] => { results := [.lit (.bool false)], args := [d1, d2] }
  | _ => none }
def FnExactBufPlayWrongFalsely : Prop := fnExactBufPlayRow.holds Try.pinned (OpenSpec.ofChange fnExactBufPlayWrong)

/-- 'laws.FnExactGuarded': WHATEVER THE INPUT: true; the input reads as it did. -/
def fnExactGuardedSpec : ChangeSpec := { name := "fnExactGuarded", fn := fun _ => fun
  | [d] => { results := [.lit (.bool true)], args := [d] }
  | _ => none }
def fnExactGuardedRow : OpenClaim := { program := "ytpcdcgcbhhnhhaa", sum := "6673637064dc94c0c6ce223b348f9dd1969647aa88ddefb77497aa05a4391a77", func := "loop.example/wholethreads/laws.FnExactGuarded", spec := "fnExactGuarded", recurses := true, apart := false }
def FnExactGuardedSaid : Prop := fnExactGuardedRow.holds Try.pinned (OpenSpec.ofChange fnExactGuardedSpec)

/-- ITS FALSE NEIGHBOUR: 'it returns false'. Refute it at one input. -/
def fnExactGuardedWrong : ChangeSpec := { name := "fnExactGuarded", fn := fun _ => fun
  | [d] => { results := [.lit (.bool false)], args := [d] }
  | _ => none }
def FnExactGuardedWrongFalsely : Prop := fnExactGuardedRow.holds Try.pinned (OpenSpec.ofChange fnExactGuardedWrong)

/-- 'laws.FnExactStuckOrder': WHATEVER THE INPUT: true; the input reads as it did. -/
def fnExactStuckOrderSpec : ChangeSpec := { name := "fnExactStuckOrder", fn := fun _ => fun
  | [d] => { results := [.lit (.bool true)], args := [d] }
  | _ => none }
def fnExactStuckOrderRow : OpenClaim := { program := "ytpcdcgcbhhnhhaa", sum := "6673637064dc94c0c6ce223b348f9dd1969647aa88ddefb77497aa05a4391a77", func := "loop.example/wholethreads/laws.FnExactStuckOrder", spec := "fnExactStuckOrder", recurses := true, apart := false }
def FnExactStuckOrderSaid : Prop := fnExactStuckOrderRow.holds Try.pinned (OpenSpec.ofChange fnExactStuckOrderSpec)

/-- ITS FALSE NEIGHBOUR: 'it returns false'. Refute it at one input. -/
def fnExactStuckOrderWrong : ChangeSpec := { name := "fnExactStuckOrder", fn := fun _ => fun
  | [d] => { results := [.lit (.bool false)], args := [d] }
  | _ => none }
def FnExactStuckOrderWrongFalsely : Prop := fnExactStuckOrderRow.holds Try.pinned (OpenSpec.ofChange fnExactStuckOrderWrong)

/-- 'laws.FnExactOutcomes': WHATEVER THE INPUT: true; the input reads as it did. -/
def fnExactOutcomesSpec : ChangeSpec := { name := "fnExactOutcomes", fn := fun _ => fun
  | [d] => { results := [.lit (.bool true)], args := [d] }
  | _ => none }
def fnExactOutcomesRow : OpenClaim := { program := "ytpcdcgcbhhnhhaa", sum := "6673637064dc94c0c6ce223b348f9dd1969647aa88ddefb77497aa05a4391a77", func := "loop.example/wholethreads/laws.FnExactOutcomes", spec := "fnExactOutcomes", recurses := true, apart := false }
def FnExactOutcomesSaid : Prop := fnExactOutcomesRow.holds Try.pinned (OpenSpec.ofChange fnExactOutcomesSpec)

/-- ITS FALSE NEIGHBOUR: 'it returns false'. Refute it at one input. -/
def fnExactOutcomesWrong : ChangeSpec := { name := "fnExactOutcomes", fn := fun _ => fun
  | [d] => { results := [.lit (.bool false)], args := [d] }
  | _ => none }
def FnExactOutcomesWrongFalsely : Prop := fnExactOutcomesRow.holds Try.pinned (OpenSpec.ofChange fnExactOutcomesWrong)

/-- 'laws.FnExactCountStates': WHATEVER THE INPUT: true; the input reads as it did. -/
def fnExactCountStatesSpec : ChangeSpec := { name := "fnExactCountStates", fn := fun _ => fun
  | [d] => { results := [.lit (.bool true)], args := [d] }
  | _ => none }
def fnExactCountStatesRow : OpenClaim := { program := "ytpcdcgcbhhnhhaa", sum := "6673637064dc94c0c6ce223b348f9dd1969647aa88ddefb77497aa05a4391a77", func := "loop.example/wholethreads/laws.FnExactCountStates", spec := "fnExactCountStates", recurses := true, apart := false }
def FnExactCountStatesSaid : Prop := fnExactCountStatesRow.holds Try.pinned (OpenSpec.ofChange fnExactCountStatesSpec)

/-- ITS FALSE NEIGHBOUR: 'it returns false'. Refute it at one input. -/
def fnExactCountStatesWrong : ChangeSpec := { name := "fnExactCountStates", fn := fun _ => fun
  | [d] => { results := [.lit (.bool false)], args := [d] }
  | _ => none }
def FnExactCountStatesWrongFalsely : Prop := fnExactCountStatesRow.holds Try.pinned (OpenSpec.ofChange fnExactCountStatesWrong)

/- THE SECOND FORM. 'bulk': how many values and letters a reading holds, each counted each time it is reached (what is shared counts as often as it is met; a slice's spare places count too). A statement '..UptoSaid' is the law's where the arguments, and the package variables that the reading takes, are together of bulk at most 1048576: NARROWER than '..Said'. Prove '..Said' where nothing that the law and all that it calls make is longer than what came in: it says more and counts as full. Else prove '..UptoSaid'. A law counts once. -/
mutual
def uptoBulk {H : Type} : DataW H → Nat
  | .lit (.string bytes) => bytes.length + 1
  | .lit _ => 1
  | .nil => 1
  | .ptr d => uptoBulk d + 1
  | .slice elems spare => uptoBulkAll elems + uptoBulkAll spare + 1
  | .agg parts => uptoBulkAll parts + 1
  | .iface _ d => uptoBulk d + 1
  | .map entries => uptoBulkEntries entries + 1
  | .held _ => 1
def uptoBulkAll {H : Type} : List (DataW H) → Nat
  | [] => 0
  | d :: r => uptoBulk d + uptoBulkAll r
def uptoBulkEntries {H : Type} : List (Lit × DataW H) → Nat
  | [] => 0
  | x :: r => uptoBulkEntry x + uptoBulkEntries r
def uptoBulkEntry {H : Type} : Lit × DataW H → Nat
  | (.string bytes, d) => bytes.length + uptoBulk d + 1
  | (_, d) => uptoBulk d + 1
 end
def uptoSmall : (H : Type) → List (DataW H) → Bool := fun _ ds => decide (uptoBulkAll ds ≤ 1048576)
def OpenSpec.upto (s : _root_.Go.ChangeSpec) : _root_.Go.OpenSpec := { _root_.Go.OpenSpec.ofChange s with cond := some uptoSmall }

/-- 'laws.FnExactBufBegin', WHERE WHAT IT READS IS OF BULK AT MOST 1048576: true; the input reads as it did. -/
def fnExactBufBeginUptoRow : OpenClaim := { program := "ytpcdcgcbhhnhhaa", sum := "6673637064dc94c0c6ce223b348f9dd1969647aa88ddefb77497aa05a4391a77", func := "loop.example/wholethreads/laws.FnExactBufBegin", spec := "fnExactBufBegin", apart := false, narrowed := true }
def FnExactBufBeginUptoSaid : Prop := fnExactBufBeginUptoRow.holds Try.pinned (OpenSpec.upto fnExactBufBeginSpec)

/-- 'laws.FnExactBufOk', WHERE WHAT IT READS IS OF BULK AT MOST 1048576: true; the input reads as it did. -/
def fnExactBufOkUptoRow : OpenClaim := { program := "ytpcdcgcbhhnhhaa", sum := "6673637064dc94c0c6ce223b348f9dd1969647aa88ddefb77497aa05a4391a77", func := "loop.example/wholethreads/laws.FnExactBufOk", spec := "fnExactBufOk", apart := false, narrowed := true }
def FnExactBufOkUptoSaid : Prop := fnExactBufOkUptoRow.holds Try.pinned (OpenSpec.upto fnExactBufOkSpec)

/-- 'laws.FnExactBufReads', WHERE WHAT IT READS IS OF BULK AT MOST 1048576: true; the input reads as it did. -/
def fnExactBufReadsUptoRow : OpenClaim := { program := "ytpcdcgcbhhnhhaa", sum := "6673637064dc94c0c6ce223b348f9dd1969647aa88ddefb77497aa05a4391a77", func := "loop.example/wholethreads/laws.FnExactBufReads", spec := "fnExactBufReads", apart := false, narrowed := true }
def FnExactBufReadsUptoSaid : Prop := fnExactBufReadsUptoRow.holds Try.pinned (OpenSpec.upto fnExactBufReadsSpec)

/-- 'laws.FnExactBufCan', WHERE WHAT IT READS IS OF BULK AT MOST 1048576: true; the input reads as it did. -/
def fnExactBufCanUptoRow : OpenClaim := { program := "ytpcdcgcbhhnhhaa", sum := "6673637064dc94c0c6ce223b348f9dd1969647aa88ddefb77497aa05a4391a77", func := "loop.example/wholethreads/laws.FnExactBufCan", spec := "fnExactBufCan", apart := false, narrowed := true }
def FnExactBufCanUptoSaid : Prop := fnExactBufCanUptoRow.holds Try.pinned (OpenSpec.upto fnExactBufCanSpec)

/-- 'laws.FnExactBufPlay', WHERE WHAT IT READS IS OF BULK AT MOST 1048576: true; the input reads as it did. -/
def fnExactBufPlayUptoRow : OpenClaim := { program := "ytpcdcgcbhhnhhaa", sum := "6673637064dc94c0c6ce223b348f9dd1969647aa88ddefb77497aa05a4391a77", func := "loop.example/wholethreads/laws.FnExactBufPlay", spec := "fnExactBufPlay", apart := false, narrowed := true }
def FnExactBufPlayUptoSaid : Prop := fnExactBufPlayUptoRow.holds Try.pinned (OpenSpec.upto fnExactBufPlaySpec)

/-- 'laws.FnExactGuarded', WHERE WHAT IT READS IS OF BULK AT MOST 1048576: true; the input reads as it did. -/
def fnExactGuardedUptoRow : OpenClaim := { program := "ytpcdcgcbhhnhhaa", sum := "6673637064dc94c0c6ce223b348f9dd1969647aa88ddefb77497aa05a4391a77", func := "loop.example/wholethreads/laws.FnExactGuarded", spec := "fnExactGuarded", recurses := true, apart := false, narrowed := true }
def FnExactGuardedUptoSaid : Prop := fnExactGuardedUptoRow.holds Try.pinned (OpenSpec.upto fnExactGuardedSpec)

/-- 'laws.FnExactStuckOrder', WHERE WHAT IT READS IS OF BULK AT MOST 1048576: true; the input reads as it did. -/
def fnExactStuckOrderUptoRow : OpenClaim := { program := "ytpcdcgcbhhnhhaa", sum := "6673637064dc94c0c6ce223b348f9dd1969647aa88ddefb77497aa05a4391a77", func := "loop.example/wholethreads/laws.FnExactStuckOrder", spec := "fnExactStuckOrder", recurses := true, apart := false, narrowed := true }
def FnExactStuckOrderUptoSaid : Prop := fnExactStuckOrderUptoRow.holds Try.pinned (OpenSpec.upto fnExactStuckOrderSpec)

/-- 'laws.FnExactOutcomes', WHERE WHAT IT READS IS OF BULK AT MOST 1048576: true; the input reads as it did. -/
def fnExactOutcomesUptoRow : OpenClaim := { program := "ytpcdcgcbhhnhhaa", sum := "6673637064dc94c0c6ce223b348f9dd1969647aa88ddefb77497aa05a4391a77", func := "loop.example/wholethreads/laws.FnExactOutcomes", spec := "fnExactOutcomes", recurses := true, apart := false, narrowed := true }
def FnExactOutcomesUptoSaid : Prop := fnExactOutcomesUptoRow.holds Try.pinned (OpenSpec.upto fnExactOutcomesSpec)

/-- 'laws.FnExactCountStates', WHERE WHAT IT READS IS OF BULK AT MOST 1048576: true; the input reads as it did. -/
def fnExactCountStatesUptoRow : OpenClaim := { program := "ytpcdcgcbhhnhhaa", sum := "6673637064dc94c0c6ce223b348f9dd1969647aa88ddefb77497aa05a4391a77", func := "loop.example/wholethreads/laws.FnExactCountStates", spec := "fnExactCountStates", recurses := true, apart := false, narrowed := true }
def FnExactCountStatesUptoSaid : Prop := fnExactCountStatesUptoRow.holds Try.pinned (OpenSpec.upto fnExactCountStatesSpec)

end Rows
end Go.Proofs.Ytpcdcgcbhhnhhaa
