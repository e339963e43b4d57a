/-
  No cell of these rows narrows 'for every input' (looked for: loops, veiled, ifaces, maps, wideKeys, modest, calm, conditions, laid).
  DERIVED. THE GIVEN ROWS OF THIS SEAT. 11 by the template 'for every input the law returns true; each argument reads behind the call as it read before'; 0 by the template 'total and deterministic' (their statements: YteinbbhhjalbeaaTotals.lean).
  GIVEN WITH THE SEED: the statements are not yours to turn. If you find one false, say at which input.
  Laid BY PROGRAM, IN A SANDBOX (cutbox-rows.mjs): the forced cells as the released guide's own fill.sh prints them over the translation eef732427be49719… (all of the seat's roots in one cut). By AI agents, Wed Nov 11 2026. No macro, syntax, notation, axiom, sorry.
-/
import Derived.Test.YteinbbhhjalbeaaChecked
import GoSem.Claim
import GoSem.ClaimJoined
import GoSem.ClaimMapViews
import Derived.JoinedTies
import Derived.KernelRfl
namespace Go.Proofs.Yteinbbhhjalbeaa
/- THE CELL 'sum', in the pinned program and in every row, IS THE sha256 OF THE DUMP (.gsa) THAT YteinbbhhjalbeaaProg.lean LOADS. Nothing in Lean hashes anything: it is a label: what it is worth is what the hold of that sum in a sandbox is worth. -/
noncomputable def Try.pinned : Pinned := { name := "yteinbbhhjalbeaa", sum := "eef732427be49719d76bf4ef9680cb678d375dd44edba617e6312db0345d1ed7", checked := Try.checked }
namespace Rows
def none {H : Type} : Left H := { results := [], args := [] }

/-- 'laws.FnWith': WHATEVER THE INPUT: true; the input reads as it did. -/
def fnWithSpec : ChangeSpec := { name := "fnWith", fn := fun _ => fun
  | [d] => { results := [.lit (.bool true)], args := [d] }
  | _ => none }
def fnWithRow : OpenClaim := { program := "yteinbbhhjalbeaa", sum := "eef732427be49719d76bf4ef9680cb678d375dd44edba617e6312db0345d1ed7", func := "loop.example/wholethreads/laws.FnWith", spec := "fnWith", apart := false }
def FnWithSaid : Prop := fnWithRow.holds Try.pinned (OpenSpec.ofChange fnWithSpec)

/-- ITS FALSE NEIGHBOUR: 'it returns false'. Refute it at one input. -/
def fnWithWrong : ChangeSpec := { name := "fnWith", fn := fun _ => fun
  | [d] => { results := [.lit (.bool false)], args := [d] }
  | _ => none }
def FnWithWrongFalsely : Prop := fnWithRow.holds Try.pinned (OpenSpec.ofChange fnWithWrong)

/-- 'laws.FnExactBegin': WHATEVER THE INPUT: true; the input reads as it did. -/
def fnExactBeginSpec : ChangeSpec := { name := "fnExactBegin", fn := fun _ => fun
  | [d] => { results := [.lit (.bool true)], args := [d] }
  | _ => none }
def fnExactBeginRow : OpenClaim := { program := "yteinbbhhjalbeaa", sum := "eef732427be49719d76bf4ef9680cb678d375dd44edba617e6312db0345d1ed7", func := "loop.example/wholethreads/laws.FnExactBegin", spec := "fnExactBegin", apart := false }
def FnExactBeginSaid : Prop := fnExactBeginRow.holds Try.pinned (OpenSpec.ofChange fnExactBeginSpec)

/-- ITS FALSE NEIGHBOUR: 'it returns false'. Refute it at one input. -/
def fnExactBeginWrong : ChangeSpec := { name := "fnExactBegin", fn := fun _ => fun
  | [d] => { results := [.lit (.bool false)], args := [d] }
  | _ => none }
def FnExactBeginWrongFalsely : Prop := fnExactBeginRow.holds Try.pinned (OpenSpec.ofChange fnExactBeginWrong)

/-- 'laws.FnExactStateOk': WHATEVER THE INPUT: true; the input reads as it did. -/
def fnExactStateOkSpec : ChangeSpec := { name := "fnExactStateOk", fn := fun _ => fun
  | [d1, d2] => { results := [.lit (.bool true)], args := [d1, d2] }
  | _ => none }
def fnExactStateOkRow : OpenClaim := { program := "yteinbbhhjalbeaa", sum := "eef732427be49719d76bf4ef9680cb678d375dd44edba617e6312db0345d1ed7", func := "loop.example/wholethreads/laws.FnExactStateOk", spec := "fnExactStateOk", apart := false }
def FnExactStateOkSaid : Prop := fnExactStateOkRow.holds Try.pinned (OpenSpec.ofChange fnExactStateOkSpec)

/-- ITS FALSE NEIGHBOUR: 'it returns false'. Refute it at one input. -/
def fnExactStateOkWrong : ChangeSpec := { name := "fnExactStateOk", fn := fun _ => fun
  | [d1, d2] => { results := [.lit (.bool false)], args := [d1, d2] }
  | _ => none }
def FnExactStateOkWrongFalsely : Prop := fnExactStateOkRow.holds Try.pinned (OpenSpec.ofChange fnExactStateOkWrong)

/-- 'laws.FnExactCan': WHATEVER THE INPUT: true; the input reads as it did. -/
def fnExactCanSpec : ChangeSpec := { name := "fnExactCan", fn := fun _ => fun
  | [d1, d2, d3] => { results := [.lit (.bool true)], args := [d1, d2, d3] }
  | _ => none }
def fnExactCanRow : OpenClaim := { program := "yteinbbhhjalbeaa", sum := "eef732427be49719d76bf4ef9680cb678d375dd44edba617e6312db0345d1ed7", func := "loop.example/wholethreads/laws.FnExactCan", spec := "fnExactCan", apart := false }
def FnExactCanSaid : Prop := fnExactCanRow.holds Try.pinned (OpenSpec.ofChange fnExactCanSpec)

/-- ITS FALSE NEIGHBOUR: 'it returns false'. Refute it at one input. -/
def fnExactCanWrong : ChangeSpec := { name := "fnExactCan", fn := fun _ => fun
  | [d1, d2, d3] => { results := [.lit (.bool false)], args := [d1, d2, d3] }
  | _ => none }
def FnExactCanWrongFalsely : Prop := fnExactCanRow.holds Try.pinned (OpenSpec.ofChange fnExactCanWrong)

/-- 'laws.FnExactDo': WHATEVER THE INPUT: true; the input reads as it did. -/
def fnExactDoSpec : ChangeSpec := { name := "fnExactDo", fn := fun _ => fun
  | [d1, d2, d3] => { results := [.lit (.bool true)], args := [d1, d2, d3] }
  | _ => none }
def fnExactDoRow : OpenClaim := { program := "yteinbbhhjalbeaa", sum := "eef732427be49719d76bf4ef9680cb678d375dd44edba617e6312db0345d1ed7", func := "loop.example/wholethreads/laws.FnExactDo", spec := "fnExactDo", apart := false }
def FnExactDoSaid : Prop := fnExactDoRow.holds Try.pinned (OpenSpec.ofChange fnExactDoSpec)

/-- ITS FALSE NEIGHBOUR: 'it returns false'. Refute it at one input. -/
def fnExactDoWrong : ChangeSpec := { name := "fnExactDo", fn := fun _ => fun
  | [d1, d2, d3] => { results := [.lit (.bool false)], args := [d1, d2, d3] }
  | _ => none }
def FnExactDoWrongFalsely : Prop := fnExactDoRow.holds Try.pinned (OpenSpec.ofChange fnExactDoWrong)

/-- 'laws.FnExactPlay': WHATEVER THE INPUT: true; the input reads as it did. -/
def fnExactPlaySpec : ChangeSpec := { name := "fnExactPlay", fn := fun _ => fun
  | [d1, d2] => { results := [.lit (.bool true)], args := [d1, d2] }
  | _ => none }
def fnExactPlayRow : OpenClaim := { program := "yteinbbhhjalbeaa", sum := "eef732427be49719d76bf4ef9680cb678d375dd44edba617e6312db0345d1ed7", func := "loop.example/wholethreads/laws.FnExactPlay", spec := "fnExactPlay", apart := false }
def FnExactPlaySaid : Prop := fnExactPlayRow.holds Try.pinned (OpenSpec.ofChange fnExactPlaySpec)

/-- ITS FALSE NEIGHBOUR: 'it returns false'. Refute it at one input. -/
def fnExactPlayWrong : ChangeSpec := { name := "fnExactPlay", fn := fun _ => fun
  | [d1, d2] => { results := [.lit (.bool false)], args := [d1, d2] }
  | _ => none }
def FnExactPlayWrongFalsely : Prop := fnExactPlayRow.holds Try.pinned (OpenSpec.ofChange fnExactPlayWrong)

/-- 'laws.FnExactOutcomeOf': WHATEVER THE INPUT: true; the input reads as it did. -/
def fnExactOutcomeOfSpec : ChangeSpec := { name := "fnExactOutcomeOf", fn := fun _ => fun
  | [d1, d2] => { results := [.lit (.bool true)], args := [d1, d2] }
  | _ => none }
def fnExactOutcomeOfRow : OpenClaim := { program := "yteinbbhhjalbeaa", sum := "eef732427be49719d76bf4ef9680cb678d375dd44edba617e6312db0345d1ed7", func := "loop.example/wholethreads/laws.FnExactOutcomeOf", spec := "fnExactOutcomeOf", apart := false }
def FnExactOutcomeOfSaid : Prop := fnExactOutcomeOfRow.holds Try.pinned (OpenSpec.ofChange fnExactOutcomeOfSpec)

/-- ITS FALSE NEIGHBOUR: 'it returns false'. Refute it at one input. -/
def fnExactOutcomeOfWrong : ChangeSpec := { name := "fnExactOutcomeOf", fn := fun _ => fun
  | [d1, d2] => { results := [.lit (.bool false)], args := [d1, d2] }
  | _ => none }
def FnExactOutcomeOfWrongFalsely : Prop := fnExactOutcomeOfRow.holds Try.pinned (OpenSpec.ofChange fnExactOutcomeOfWrong)

/-- 'laws.FnExactOutcomeOrder': WHATEVER THE INPUT: true; the input reads as it did. -/
def fnExactOutcomeOrderSpec : ChangeSpec := { name := "fnExactOutcomeOrder", fn := fun _ => fun
  | [d1, d2] => { results := [.lit (.bool true)], args := [d1, d2] }
  | _ => none }
def fnExactOutcomeOrderRow : OpenClaim := { program := "yteinbbhhjalbeaa", sum := "eef732427be49719d76bf4ef9680cb678d375dd44edba617e6312db0345d1ed7", func := "loop.example/wholethreads/laws.FnExactOutcomeOrder", spec := "fnExactOutcomeOrder", apart := false }
def FnExactOutcomeOrderSaid : Prop := fnExactOutcomeOrderRow.holds Try.pinned (OpenSpec.ofChange fnExactOutcomeOrderSpec)

/-- ITS FALSE NEIGHBOUR: 'it returns false'. Refute it at one input. -/
def fnExactOutcomeOrderWrong : ChangeSpec := { name := "fnExactOutcomeOrder", fn := fun _ => fun
  | [d1, d2] => { results := [.lit (.bool false)], args := [d1, d2] }
  | _ => none }
def FnExactOutcomeOrderWrongFalsely : Prop := fnExactOutcomeOrderRow.holds Try.pinned (OpenSpec.ofChange fnExactOutcomeOrderWrong)

/-- 'laws.FnExactOutcomesHave': WHATEVER THE INPUT: true; the input reads as it did. -/
def fnExactOutcomesHaveSpec : ChangeSpec := { name := "fnExactOutcomesHave", fn := fun _ => fun
  | [d1, d2] => { results := [.lit (.bool true)], args := [d1, d2] }
  | _ => none }
def fnExactOutcomesHaveRow : OpenClaim := { program := "yteinbbhhjalbeaa", sum := "eef732427be49719d76bf4ef9680cb678d375dd44edba617e6312db0345d1ed7", func := "loop.example/wholethreads/laws.FnExactOutcomesHave", spec := "fnExactOutcomesHave", apart := false }
def FnExactOutcomesHaveSaid : Prop := fnExactOutcomesHaveRow.holds Try.pinned (OpenSpec.ofChange fnExactOutcomesHaveSpec)

/-- ITS FALSE NEIGHBOUR: 'it returns false'. Refute it at one input. -/
def fnExactOutcomesHaveWrong : ChangeSpec := { name := "fnExactOutcomesHave", fn := fun _ => fun
  | [d1, d2] => { results := [.lit (.bool false)], args := [d1, d2] }
  | _ => none }
def FnExactOutcomesHaveWrongFalsely : Prop := fnExactOutcomesHaveRow.holds Try.pinned (OpenSpec.ofChange fnExactOutcomesHaveWrong)

/-- 'laws.FnExactOutcomes': WHATEVER THE INPUT: true; the input reads as it did. -/
def fnExactOutcomesSpec : ChangeSpec := { name := "fnExactOutcomes", fn := fun _ => fun
  | [d] => { results := [.lit (.bool true)], args := [d] }
  | _ => none }
def fnExactOutcomesRow : OpenClaim := { program := "yteinbbhhjalbeaa", sum := "eef732427be49719d76bf4ef9680cb678d375dd44edba617e6312db0345d1ed7", func := "loop.example/wholethreads/laws.FnExactOutcomes", spec := "fnExactOutcomes", recurses := true, apart := false }
def FnExactOutcomesSaid : Prop := fnExactOutcomesRow.holds Try.pinned (OpenSpec.ofChange fnExactOutcomesSpec)

/-- ITS FALSE NEIGHBOUR: 'it returns false'. Refute it at one input. -/
def fnExactOutcomesWrong : ChangeSpec := { name := "fnExactOutcomes", fn := fun _ => fun
  | [d] => { results := [.lit (.bool false)], args := [d] }
  | _ => none }
def FnExactOutcomesWrongFalsely : Prop := fnExactOutcomesRow.holds Try.pinned (OpenSpec.ofChange fnExactOutcomesWrong)

/-- 'laws.FnExactCountStates': WHATEVER THE INPUT: true; the input reads as it did. -/
def fnExactCountStatesSpec : ChangeSpec := { name := "fnExactCountStates", fn := fun _ => fun
  | [d] => { results := [.lit (.bool true)], args := [d] }
  | _ => none }
def fnExactCountStatesRow : OpenClaim := { program := "yteinbbhhjalbeaa", sum := "eef732427be49719d76bf4ef9680cb678d375dd44edba617e6312db0345d1ed7", func := "loop.example/wholethreads/laws.FnExactCountStates", spec := "fnExactCountStates", recurses := true, apart := false }
def FnExactCountStatesSaid : Prop := fnExactCountStatesRow.holds Try.pinned (OpenSpec.ofChange fnExactCountStatesSpec)

/-- ITS FALSE NEIGHBOUR: 'it returns false'. Refute it at one input. -/
def fnExactCountStatesWrong : ChangeSpec := { name := "fnExactCountStates", fn := fun _ => fun
  | [d] => { results := [.lit (.bool false)], args := [d] }
  | _ => none }
def FnExactCountStatesWrongFalsely : Prop := fnExactCountStatesRow.holds Try.pinned (OpenSpec.ofChange fnExactCountStatesWrong)

/- THE SECOND FORM. 'bulk': how many values and letters a reading holds, each counted each time it is reached (what is shared counts as often as it is met; a slice's spare places count too). A statement '..UptoSaid' is the law's where the arguments, and the package variables that the reading takes, are together of bulk at most 1048576: NARROWER than '..Said'. Prove '..Said' where nothing that the law and all that it calls make is longer than what came in: it says more and counts as full. Else prove '..UptoSaid'. A law counts once. -/
mutual
def uptoBulk {H : Type} : DataW H → Nat
  | .lit (.string bytes) => bytes.length + 1
  | .lit _ => 1
  | .nil => 1
  | .ptr d => uptoBulk d + 1
  | .slice elems spare => uptoBulkAll elems + uptoBulkAll spare + 1
  | .agg parts => uptoBulkAll parts + 1
  | .iface _ d => uptoBulk d + 1
  | .map entries => uptoBulkEntries entries + 1
  | .held _ => 1
def uptoBulkAll {H : Type} : List (DataW H) → Nat
  | [] => 0
  | d :: r => uptoBulk d + uptoBulkAll r
def uptoBulkEntries {H : Type} : List (Lit × DataW H) → Nat
  | [] => 0
  | x :: r => uptoBulkEntry x + uptoBulkEntries r
def uptoBulkEntry {H : Type} : Lit × DataW H → Nat
  | (.string bytes, d) => bytes.length + uptoBulk d + 1
  | (_, d) => uptoBulk d + 1
 end
def uptoSmall : (H : Type) → List (DataW H) → Bool := fun _ ds => decide (uptoBulkAll ds ≤ 1048576)
def OpenSpec.upto (s : _root_.Go.ChangeSpec) : _root_.Go.OpenSpec := { _root_.Go.OpenSpec.ofChange s with cond := some uptoSmall }

/-- 'laws.FnWith', WHERE WHAT IT READS IS OF BULK AT MOST 1048576: true; the input reads as it did. -/
def fnWithUptoRow : OpenClaim := { program := "yteinbbhhjalbeaa", sum := "eef732427be49719d76bf4ef9680cb678d375dd44edba617e6312db0345d1ed7", func := "loop.example/wholethreads/laws.FnWith", spec := "fnWith", apart := false, narrowed := true }
def FnWithUptoSaid : Prop := fnWithUptoRow.holds Try.pinned (OpenSpec.upto fnWithSpec)

/-- 'laws.FnExactBegin', WHERE WHAT IT READS IS OF BULK AT MOST 1048576: true; the input reads as it did. -/
def fnExactBeginUptoRow : OpenClaim := { program := "yteinbbhhjalbeaa", sum := "eef732427be49719d76bf4ef9680cb678d375dd44edba617e6312db0345d1ed7", func := "loop.example/wholethreads/laws.FnExactBegin", spec := "fnExactBegin", apart := false, narrowed := true }
def FnExactBeginUptoSaid : Prop := fnExactBeginUptoRow.holds Try.pinned (OpenSpec.upto fnExactBeginSpec)

/-- 'laws.FnExactStateOk', WHERE WHAT IT READS IS OF BULK AT MOST 1048576: true; the input reads as it did. -/
def fnExactStateOkUptoRow : OpenClaim := { program := "yteinbbhhjalbeaa", sum := "eef732427be49719d76bf4ef9680cb678d375dd44edba617e6312db0345d1ed7", func := "loop.example/wholethreads/laws.FnExactStateOk", spec := "fnExactStateOk", apart := false, narrowed := true }
def FnExactStateOkUptoSaid : Prop := fnExactStateOkUptoRow.holds Try.pinned (OpenSpec.upto fnExactStateOkSpec)

/-- 'laws.FnExactCan', WHERE WHAT IT READS IS OF BULK AT MOST 1048576: true; the input reads as it did. -/
def fnExactCanUptoRow : OpenClaim := { program := "yteinbbhhjalbeaa", sum := "eef732427be49719d76bf4ef9680cb678d375dd44edba617e6312db0345d1ed7", func := "loop.example/wholethreads/laws.FnExactCan", spec := "fnExactCan", apart := false, narrowed := true }
def FnExactCanUptoSaid : Prop := fnExactCanUptoRow.holds Try.pinned (OpenSpec.upto fnExactCanSpec)

/-- 'laws.FnExactDo', WHERE WHAT IT READS IS OF BULK AT MOST 1048576: true; the input reads as it did. -/
def fnExactDoUptoRow : OpenClaim := { program := "yteinbbhhjalbeaa", sum := "eef732427be49719d76bf4ef9680cb678d375dd44edba617e6312db0345d1ed7", func := "loop.example/wholethreads/laws.FnExactDo", spec := "fnExactDo", apart := false, narrowed := true }
def FnExactDoUptoSaid : Prop := fnExactDoUptoRow.holds Try.pinned (OpenSpec.upto fnExactDoSpec)

/-- 'laws.FnExactPlay', WHERE WHAT IT READS IS OF BULK AT MOST 1048576: true; the input reads as it did. -/
def fnExactPlayUptoRow : OpenClaim := { program := "yteinbbhhjalbeaa", sum := "eef732427be49719d76bf4ef9680cb678d375dd44edba617e6312db0345d1ed7", func := "loop.example/wholethreads/laws.FnExactPlay", spec := "fnExactPlay", apart := false, narrowed := true }
def FnExactPlayUptoSaid : Prop := fnExactPlayUptoRow.holds Try.pinned (OpenSpec.upto fnExactPlaySpec)

/-- 'laws.FnExactOutcomeOf', WHERE WHAT IT READS IS OF BULK AT MOST 1048576: true; the input reads as it did. -/
def fnExactOutcomeOfUptoRow : OpenClaim := { program := "yteinbbhhjalbeaa", sum := "eef732427be49719d76bf4ef9680cb678d375dd44edba617e6312db0345d1ed7", func := "loop.example/wholethreads/laws.FnExactOutcomeOf", spec := "fnExactOutcomeOf", apart := false, narrowed := true }
def FnExactOutcomeOfUptoSaid : Prop := fnExactOutcomeOfUptoRow.holds Try.pinned (OpenSpec.upto fnExactOutcomeOfSpec)

/-- 'laws.FnExactOutcomeOrder', WHERE WHAT IT READS IS OF BULK AT MOST 1048576: true; the input reads as it did. -/
def fnExactOutcomeOrderUptoRow : OpenClaim := { program := "yteinbbhhjalbeaa", sum := "eef732427be49719d76bf4ef9680cb678d375dd44edba617e6312db0345d1ed7", func := "loop.example/wholethreads/laws.FnExactOutcomeOrder", spec := "fnExactOutcomeOrder", apart := false, narrowed := true }
def FnExactOutcomeOrderUptoSaid : Prop := fnExactOutcomeOrderUptoRow.holds Try.pinned (OpenSpec.upto fnExactOutcomeOrderSpec)

/-- 'laws.FnExactOutcomesHave', WHERE WHAT IT READS IS OF BULK AT MOST 1048576: true; the input reads as it did. -/
def fnExactOutcomesHaveUptoRow : OpenClaim := { program := "yteinbbhhjalbeaa", sum := "eef732427be49719d76bf4ef9680cb678d375dd44edba617e6312db0345d1ed7", func := "loop.example/wholethreads/laws.FnExactOutcomesHave", spec := "fnExactOutcomesHave", apart := false, narrowed := true }
def FnExactOutcomesHaveUptoSaid : Prop := fnExactOutcomesHaveUptoRow.holds Try.pinned (OpenSpec.upto fnExactOutcomesHaveSpec)

/-- 'laws.FnExactOutcomes', WHERE WHAT IT READS IS OF BULK AT MOST 1048576: true; the input reads as it did. -/
def fnExactOutcomesUptoRow : OpenClaim := { program := "yteinbbhhjalbeaa", sum := "eef732427be49719d76bf4ef9680cb678d375dd44edba617e6312db0345d1ed7", func := "loop.example/wholethreads/laws.FnExactOutcomes", spec := "fnExactOutcomes", recurses := true, apart := false, narrowed := true }
def FnExactOutcomesUptoSaid : Prop := fnExactOutcomesUptoRow.holds Try.pinned (OpenSpec.upto fnExactOutcomesSpec)

/-- 'laws.FnExactCountStates', WHERE WHAT IT READS IS OF BULK AT MOST 1048576: true; the input reads as it did. -/
def fnExactCountStatesUptoRow : OpenClaim := { program := "yteinbbhhjalbeaa", sum := "eef732427be49719d76bf4ef9680cb678d375dd44edba617e6312db0345d1ed7", func := "loop.example/wholethreads/laws.FnExactCountStates", spec := "fnExactCountStates", recurses := true, apart := false, narrowed := true }
def FnExactCountStatesUptoSaid : Prop := fnExactCountStatesUptoRow.holds Try.pinned (OpenSpec.upto fnExactCountStatesSpec)

end Rows
end Go.Proofs.Yteinbbhhjalbeaa
