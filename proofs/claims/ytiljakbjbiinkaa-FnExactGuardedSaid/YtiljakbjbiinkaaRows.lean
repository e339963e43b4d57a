/-
  No cell of these rows narrows 'for every input' (looked for: loops, veiled, ifaces, maps, wideKeys, modest, calm, conditions, laid).
  DERIVED. THE GIVEN ROWS OF THIS SEAT. 7 by the template 'for every input the law returns true; each argument reads behind the call as it read before'; 0 by the template 'total and deterministic' (their statements: YtiljakbjbiinkaaTotals.lean).
  GIVEN WITH THE SEED: the statements are not yours to turn. If you find one false, say at which input.
  Laid BY PROGRAM, IN A SANDBOX (cutbox-rows.mjs): the forced cells as the released guide's own fill.sh prints them over the translation 47fcc4168f2ac6a1… (all of the seat's roots in one cut). By AI agents, Wed Nov 11 2026. No macro, syntax, notation, axiom, sorry.
-/
import Derived.Test.YtiljakbjbiinkaaChecked
import GoSem.Claim
import GoSem.ClaimJoined
import GoSem.ClaimMapViews
import Derived.JoinedTies
import Derived.KernelRfl
namespace Go.Proofs.Ytiljakbjbiinkaa
/- THE CELL 'sum', in the pinned program and in every row, IS THE sha256 OF THE DUMP (.gsa) THAT YtiljakbjbiinkaaProg.lean LOADS. Nothing in Lean hashes anything: it is a label: what it is worth is what the hold of that sum in a sandbox is worth. -/
noncomputable def Try.pinned : Pinned := { name := "ytiljakbjbiinkaa", sum := "47fcc4168f2ac6a1eddfdb940c52f1e872a2f65bfee1477730cf4415da266776", checked := Try.checked }
namespace Rows
def none {H : Type} : Left H := { results := [], args := [] }

/-- 'laws.FnExactOutcomes': WHATEVER THE INPUT: true; the input reads as it did. -/
def fnExactOutcomesSpec : ChangeSpec := { name := "fnExactOutcomes", fn := fun _ => fun
  | [d] => { results := [.lit (.bool true)], args := [d] }
  | _ => none }
def fnExactOutcomesRow : OpenClaim := { program := "ytiljakbjbiinkaa", sum := "47fcc4168f2ac6a1eddfdb940c52f1e872a2f65bfee1477730cf4415da266776", func := "loop.example/wholethreads/laws.FnExactOutcomes", spec := "fnExactOutcomes", recurses := true, apart := false }
def FnExactOutcomesSaid : Prop := fnExactOutcomesRow.holds Try.pinned (OpenSpec.ofChange fnExactOutcomesSpec)

/-- ITS FALSE NEIGHBOUR: 'it returns false'. Refute it at one input. -/
def fnExactOutcomesWrong : ChangeSpec := { name := "fnExactOutcomes", fn := fun _ => fun
  | [d] => { results := [.lit (.bool false)], args := [d] }
  | _ => none }
def FnExactOutcomesWrongFalsely : Prop := fnExactOutcomesRow.holds Try.pinned (OpenSpec.ofChange fnExactOutcomesWrong)

/-- 'laws.FnExactCountStates': WHATEVER THE INPUT: true; the input reads as it did. -/
def fnExactCountStatesSpec : ChangeSpec := { name := "fnExactCountStates", fn := fun _ => fun
  | [d] => { results := [.lit (.bool true)], args := [d] }
  | _ => none }
def fnExactCountStatesRow : OpenClaim := { program := "ytiljakbjbiinkaa", sum := "47fcc4168f2ac6a1eddfdb940c52f1e872a2f65bfee1477730cf4415da266776", func := "loop.example/wholethreads/laws.FnExactCountStates", spec := "fnExactCountStates", recurses := true, apart := false }
def FnExactCountStatesSaid : Prop := fnExactCountStatesRow.holds Try.pinned (OpenSpec.ofChange fnExactCountStatesSpec)

/-- ITS FALSE NEIGHBOUR: 'it returns false'. Refute it at one input. -/
def fnExactCountStatesWrong : ChangeSpec := { name := "fnExactCountStates", fn := fun _ => fun
  | [d] => { results := [.lit (.bool false)], args := [d] }
  | _ => none }
def FnExactCountStatesWrongFalsely : Prop := fnExactCountStatesRow.holds Try.pinned (OpenSpec.ofChange fnExactCountStatesWrong)

/-- 'laws.FnExactGuarded': WHATEVER THE INPUT: true; the input reads as it did. -/
def fnExactGuardedSpec : ChangeSpec := { name := "fnExactGuarded", fn := fun _ => fun
  | [d] => { results := [.lit (.bool true)], args := [d] }
  | _ => none }
def fnExactGuardedRow : OpenClaim := { program := "ytiljakbjbiinkaa", sum := "47fcc4168f2ac6a1eddfdb940c52f1e872a2f65bfee1477730cf4415da266776", func := "loop.example/wholethreads/laws.FnExactGuarded", spec := "fnExactGuarded", recurses := true, apart := false }
def FnExactGuardedSaid : Prop := fnExactGuardedRow.holds Try.pinned (OpenSpec.ofChange fnExactGuardedSpec)

/-- ITS FALSE NEIGHBOUR: 'it returns false'. Refute it at one input. -/
def fnExactGuardedWrong : ChangeSpec := { name := "fnExactGuarded", fn := fun _ => fun
  | [d] => { results := [.lit (.bool false)], args := [d] }
  | _ => none }
def FnExactGuardedWrongFalsely : Prop := fnExactGuardedRow.holds Try.pinned (OpenSpec.ofChange fnExactGuardedWrong)

/-- 'laws.FnExactViewBegin': WHATEVER THE INPUT: true; the input reads as it did. -/
def fnExactViewBeginSpec : ChangeSpec := { name := "fnExactViewBegin", fn := fun _ => fun
  | [d] => { results := [.lit (.bool true)], args := [d] }
  | _ => none }
def fnExactViewBeginRow : OpenClaim := { program := "ytiljakbjbiinkaa", sum := "47fcc4168f2ac6a1eddfdb940c52f1e872a2f65bfee1477730cf4415da266776", func := "loop.example/wholethreads/laws.FnExactViewBegin", spec := "fnExactViewBegin", apart := false }
def FnExactViewBeginSaid : Prop := fnExactViewBeginRow.holds Try.pinned (OpenSpec.ofChange fnExactViewBeginSpec)

/-- ITS FALSE NEIGHBOUR: 'it returns false'. Refute it at one input. -/
def fnExactViewBeginWrong : ChangeSpec := { name := "fnExactViewBegin", fn := fun _ => fun
  | [d] => { results := [.lit (.bool false)], args := [d] }
  | _ => none }
def FnExactViewBeginWrongFalsely : Prop := fnExactViewBeginRow.holds Try.pinned (OpenSpec.ofChange fnExactViewBeginWrong)

/-- 'laws.FnExactViewOk': WHATEVER THE INPUT: true; the input reads as it did. -/
def fnExactViewOkSpec : ChangeSpec := { name := "fnExactViewOk", fn := fun _ => fun
  | [d1, d2] => { results := [.lit (.bool true)], args := [d1, d2] }
  | _ => none }
def fnExactViewOkRow : OpenClaim := { program := "ytiljakbjbiinkaa", sum := "47fcc4168f2ac6a1eddfdb940c52f1e872a2f65bfee1477730cf4415da266776", func := "loop.example/wholethreads/laws.FnExactViewOk", spec := "fnExactViewOk", apart := false }
def FnExactViewOkSaid : Prop := fnExactViewOkRow.holds Try.pinned (OpenSpec.ofChange fnExactViewOkSpec)

/-- ITS FALSE NEIGHBOUR: 'it returns false'. Refute it at one input. -/
def fnExactViewOkWrong : ChangeSpec := { name := "fnExactViewOk", fn := fun _ => fun
  | [d1, d2] => { results := [.lit (.bool false)], args := [d1, d2] }
  | _ => none }
def FnExactViewOkWrongFalsely : Prop := fnExactViewOkRow.holds Try.pinned (OpenSpec.ofChange fnExactViewOkWrong)

/-- 'laws.FnExactViewWays': WHATEVER THE INPUT: true; the input reads as it did. -/
def fnExactViewWaysSpec : ChangeSpec := { name := "fnExactViewWays", fn := fun _ => fun
  | [d1, d2, d3] => { results := [.lit (.bool true)], args := [d1, d2, d3] }
  | _ => none }
def fnExactViewWaysRow : OpenClaim := { program := "ytiljakbjbiinkaa", sum := "47fcc4168f2ac6a1eddfdb940c52f1e872a2f65bfee1477730cf4415da266776", func := "loop.example/wholethreads/laws.FnExactViewWays", spec := "fnExactViewWays", apart := false }
def FnExactViewWaysSaid : Prop := fnExactViewWaysRow.holds Try.pinned (OpenSpec.ofChange fnExactViewWaysSpec)

/-- ITS FALSE NEIGHBOUR: 'it returns false'. Refute it at one input. -/
def fnExactViewWaysWrong : ChangeSpec := { name := "fnExactViewWays", fn := fun _ => fun
  | [d1, d2, d3] => { results := [.lit (.bool false)], args := [d1, d2, d3] }
  | _ => none }
def FnExactViewWaysWrongFalsely : Prop := fnExactViewWaysRow.holds Try.pinned (OpenSpec.ofChange fnExactViewWaysWrong)

/-- 'laws.FnExactViewOutcome': WHATEVER THE INPUT: true; the input reads as it did. -/
def fnExactViewOutcomeSpec : ChangeSpec := { name := "fnExactViewOutcome", fn := fun _ => fun
  | [d1, d2] => { results := [.lit (.bool true)], args := [d1, d2] }
  | _ => none }
def fnExactViewOutcomeRow : OpenClaim := { program := "ytiljakbjbiinkaa", sum := "47fcc4168f2ac6a1eddfdb940c52f1e872a2f65bfee1477730cf4415da266776", func := "loop.example/wholethreads/laws.FnExactViewOutcome", spec := "fnExactViewOutcome", apart := false }
def FnExactViewOutcomeSaid : Prop := fnExactViewOutcomeRow.holds Try.pinned (OpenSpec.ofChange fnExactViewOutcomeSpec)

/-- ITS FALSE NEIGHBOUR: 'it returns false'. Refute it at one input. -/
def fnExactViewOutcomeWrong : ChangeSpec := { name := "fnExactViewOutcome", fn := fun _ => fun
  | [d1, d2] => { results := [.lit (.bool false)], args := [d1, d2] }
  | _ => none }
def FnExactViewOutcomeWrongFalsely : Prop := fnExactViewOutcomeRow.holds Try.pinned (OpenSpec.ofChange fnExactViewOutcomeWrong)

/- THE SECOND FORM. 'bulk': how many values and letters a reading holds, each counted each time it is reached (what is shared counts as often as it is met; a slice's spare places count too). A statement '..UptoSaid' is the law's where the arguments, and the package variables that the reading takes, are together of bulk at most 1048576: NARROWER than '..Said'. Prove '..Said' where nothing that the law and all that it calls make is longer than what came in: it says more and counts as full. Else prove '..UptoSaid'. A law counts once. -/
mutual
def uptoBulk {H : Type} : DataW H → Nat
  | .lit (.string bytes) => bytes.length + 1
  | .lit _ => 1
  | .nil => 1
  | .ptr d => uptoBulk d + 1
  | .slice elems spare => uptoBulkAll elems + uptoBulkAll spare + 1
  | .agg parts => uptoBulkAll parts + 1
  | .iface _ d => uptoBulk d + 1
  | .map entries => uptoBulkEntries entries + 1
  | .held _ => 1
def uptoBulkAll {H : Type} : List (DataW H) → Nat
  | [] => 0
  | d :: r => uptoBulk d + uptoBulkAll r
def uptoBulkEntries {H : Type} : List (Lit × DataW H) → Nat
  | [] => 0
  | x :: r => uptoBulkEntry x + uptoBulkEntries r
def uptoBulkEntry {H : Type} : Lit × DataW H → Nat
  | (.string bytes, d) => bytes.length + uptoBulk d + 1
  | (_, d) => uptoBulk d + 1
 end
def uptoSmall : (H : Type) → List (DataW H) → Bool := fun _ ds => decide (uptoBulkAll ds ≤ 1048576)
def OpenSpec.upto (s : _root_.Go.ChangeSpec) : _root_.Go.OpenSpec := { _root_.Go.OpenSpec.ofChange s with cond := some uptoSmall }

/-- 'laws.FnExactOutcomes', WHERE WHAT IT READS IS OF BULK AT MOST 1048576: true; the input reads as it did. -/
def fnExactOutcomesUptoRow : OpenClaim := { program := "ytiljakbjbiinkaa", sum := "47fcc4168f2ac6a1eddfdb940c52f1e872a2f65bfee1477730cf4415da266776", func := "loop.example/wholethreads/laws.FnExactOutcomes", spec := "fnExactOutcomes", recurses := true, apart := false, narrowed := true }
def FnExactOutcomesUptoSaid : Prop := fnExactOutcomesUptoRow.holds Try.pinned (OpenSpec.upto fnExactOutcomesSpec)

/-- 'laws.FnExactCountStates', WHERE WHAT IT READS IS OF BULK AT MOST 1048576: true; the input reads as it did. -/
def fnExactCountStatesUptoRow : OpenClaim := { program := "ytiljakbjbiinkaa", sum := "47fcc4168f2ac6a1eddfdb940c52f1e872a2f65bfee1477730cf4415da266776", func := "loop.example/wholethreads/laws.FnExactCountStates", spec := "fnExactCountStates", recurses := true, apart := false, narrowed := true }
def FnExactCountStatesUptoSaid : Prop := fnExactCountStatesUptoRow.holds Try.pinned (OpenSpec.upto fnExactCountStatesSpec)

/-- 'laws.FnExactGuarded', WHERE WHAT IT READS IS OF BULK AT MOST 1048576: true; the input reads as it did. -/
def fnExactGuardedUptoRow : OpenClaim := { program := "ytiljakbjbiinkaa", sum := "47fcc4168f2ac6a1eddfdb940c52f1e872a2f65bfee1477730cf4415da266776", func := "loop.example/wholethreads/laws.FnExactGuarded", spec := "fnExactGuarded", recurses := true, apart := false, narrowed := true }
def FnExactGuardedUptoSaid : Prop := fnExactGuardedUptoRow.holds Try.pinned (OpenSpec.upto fnExactGuardedSpec)

/-- 'laws.FnExactViewBegin', WHERE WHAT IT READS IS OF BULK AT MOST 1048576: true; the input reads as it did. -/
def fnExactViewBeginUptoRow : OpenClaim := { program := "ytiljakbjbiinkaa", sum := "47fcc4168f2ac6a1eddfdb940c52f1e872a2f65bfee1477730cf4415da266776", func := "loop.example/wholethreads/laws.FnExactViewBegin", spec := "fnExactViewBegin", apart := false, narrowed := true }
def FnExactViewBeginUptoSaid : Prop := fnExactViewBeginUptoRow.holds Try.pinned (OpenSpec.upto fnExactViewBeginSpec)

/-- 'laws.FnExactViewOk', WHERE WHAT IT READS IS OF BULK AT MOST 1048576: true; the input reads as it did. -/
def fnExactViewOkUptoRow : OpenClaim := { program := "ytiljakbjbiinkaa", sum := "47fcc4168f2ac6a1eddfdb940c52f1e872a2f65bfee1477730cf4415da266776", func := "loop.example/wholethreads/laws.FnExactViewOk", spec := "fnExactViewOk", apart := false, narrowed := true }
def FnExactViewOkUptoSaid : Prop := fnExactViewOkUptoRow.holds Try.pinned (OpenSpec.upto fnExactViewOkSpec)

/-- 'laws.FnExactViewWays', WHERE WHAT IT READS IS OF BULK AT MOST 1048576: true; the input reads as it did. -/
def fnExactViewWaysUptoRow : OpenClaim := { program := "ytiljakbjbiinkaa", sum := "47fcc4168f2ac6a1eddfdb940c52f1e872a2f65bfee1477730cf4415da266776", func := "loop.example/wholethreads/laws.FnExactViewWays", spec := "fnExactViewWays", apart := false, narrowed := true }
def FnExactViewWaysUptoSaid : Prop := fnExactViewWaysUptoRow.holds Try.pinned (OpenSpec.upto fnExactViewWaysSpec)

/-- 'laws.FnExactViewOutcome', WHERE WHAT IT READS IS OF BULK AT MOST 1048576: true; the input reads as it did. -/
def fnExactViewOutcomeUptoRow : OpenClaim := { program := "ytiljakbjbiinkaa", sum := "47fcc4168f2ac6a1eddfdb940c52f1e872a2f65bfee1477730cf4415da266776", func := "loop.example/wholethreads/laws.FnExactViewOutcome", spec := "fnExactViewOutcome", apart := false, narrowed := true }
def FnExactViewOutcomeUptoSaid : Prop := fnExactViewOutcomeUptoRow.holds Try.pinned (OpenSpec.upto fnExactViewOutcomeSpec)

end Rows
end Go.Proofs.Ytiljakbjbiinkaa
