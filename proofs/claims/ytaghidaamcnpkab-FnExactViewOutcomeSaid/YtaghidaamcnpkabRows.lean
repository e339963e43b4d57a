/-
  No cell of these rows narrows 'for every input' (looked for: loops, veiled, ifaces, maps, wideKeys, modest, calm, conditions, laid).
  DERIVED. THE GIVEN ROWS OF THIS SEAT. 3 by the template 'for every input the law returns true; each argument reads behind the call as it read before'; 0 by the template 'total and deterministic' (their statements: YtaghidaamcnpkabTotals.lean).
  GIVEN WITH THE SEED: the statements are not yours to turn. If you find one false, say at which input.
  Laid BY PROGRAM, IN A SANDBOX (cutbox-rows.mjs): the forced cells as the released guide's own fill.sh prints them over the translation 1bd3f47ff016f4ea… (all of the seat's roots in one cut). By AI agents, Wed Nov 11 2026. No macro, syntax, notation, axiom, sorry.
-/
import Derived.Test.YtaghidaamcnpkabChecked
import GoSem.Claim
import GoSem.ClaimJoined
import GoSem.ClaimMapViews
import Derived.JoinedTies
import Derived.KernelRfl
namespace Go.Proofs.Ytaghidaamcnpkab
/- THE CELL 'sum', in the pinned program and in every row, IS THE sha256 OF THE DUMP (.gsa) THAT YtaghidaamcnpkabProg.lean LOADS. Nothing in Lean hashes anything: it is a label: what it is worth is what the hold of that sum in a sandbox is worth. -/
noncomputable def Try.pinned : Pinned := { name := "ytaghidaamcnpkab", sum := "1bd3f47ff016f4ea6fe2088446ef8057810c1e799a439ac186e32a67ae65c4c0", checked := Try.checked }
namespace Rows
def none {H : Type} : Left H := { results := [], args := [] }

/-- 'laws.FnExactBefore': WHATEVER THE INPUT: true; the input reads as it did. -/
def fnExactBeforeSpec : ChangeSpec := { name := "fnExactBefore", fn := fun _ => fun
  | [d1, d2] => { results := [.lit (.bool true)], args := [d1, d2] }
  | _ => none }
def fnExactBeforeRow : OpenClaim := { program := "ytaghidaamcnpkab", sum := "1bd3f47ff016f4ea6fe2088446ef8057810c1e799a439ac186e32a67ae65c4c0", func := "loop.example/wholethreads/laws.FnExactBefore", spec := "fnExactBefore", apart := false }
def FnExactBeforeSaid : Prop := fnExactBeforeRow.holds Try.pinned (OpenSpec.ofChange fnExactBeforeSpec)

/-- ITS FALSE NEIGHBOUR: 'it returns false'. Refute it at one input. -/
def fnExactBeforeWrong : ChangeSpec := { name := "fnExactBefore", fn := fun _ => fun
  | [d1, d2] => { results := [.lit (.bool false)], args := [d1, d2] }
  | _ => none }
def FnExactBeforeWrongFalsely : Prop := fnExactBeforeRow.holds Try.pinned (OpenSpec.ofChange fnExactBeforeWrong)

/-- 'laws.FnExactViewWays': WHATEVER THE INPUT: true; the input reads as it did. -/
def fnExactViewWaysSpec : ChangeSpec := { name := "fnExactViewWays", fn := fun _ => fun
  | [d1, d2, d3] => { results := [.lit (.bool true)], args := [d1, d2, d3] }
  | _ => none }
def fnExactViewWaysRow : OpenClaim := { program := "ytaghidaamcnpkab", sum := "1bd3f47ff016f4ea6fe2088446ef8057810c1e799a439ac186e32a67ae65c4c0", func := "loop.example/wholethreads/laws.FnExactViewWays", spec := "fnExactViewWays", apart := false }
def FnExactViewWaysSaid : Prop := fnExactViewWaysRow.holds Try.pinned (OpenSpec.ofChange fnExactViewWaysSpec)

/-- ITS FALSE NEIGHBOUR: 'it returns false'. Refute it at one input. -/
def fnExactViewWaysWrong : ChangeSpec := { name := "fnExactViewWays", fn := fun _ => fun
  | [d1, d2, d3] => { results := [.lit (.bool false)], args := [d1, d2, d3] }
  | _ => none }
def FnExactViewWaysWrongFalsely : Prop := fnExactViewWaysRow.holds Try.pinned (OpenSpec.ofChange fnExactViewWaysWrong)

/-- 'laws.FnExactViewOutcome': WHATEVER THE INPUT: true; the input reads as it did. -/
def fnExactViewOutcomeSpec : ChangeSpec := { name := "fnExactViewOutcome", fn := fun _ => fun
  | [d1, d2] => { results := [.lit (.bool true)], args := [d1, d2] }
  | _ => none }
def fnExactViewOutcomeRow : OpenClaim := { program := "ytaghidaamcnpkab", sum := "1bd3f47ff016f4ea6fe2088446ef8057810c1e799a439ac186e32a67ae65c4c0", func := "loop.example/wholethreads/laws.FnExactViewOutcome", spec := "fnExactViewOutcome", apart := false }
def FnExactViewOutcomeSaid : Prop := fnExactViewOutcomeRow.holds Try.pinned (OpenSpec.ofChange fnExactViewOutcomeSpec)

/-- ITS FALSE NEIGHBOUR: 'it returns false'. Refute it at one input. -/
def fnExactViewOutcomeWrong : ChangeSpec := { name := "fnExactViewOutcome", fn := fun _ => fun
  | [d1, d2] => { results := [.lit (.bool false)], args := [d1, d2] }
  | _ => none }
def FnExactViewOutcomeWrongFalsely : Prop := fnExactViewOutcomeRow.holds Try.pinned (OpenSpec.ofChange fnExactViewOutcomeWrong)

/- THE SECOND FORM. 'bulk': how many values and letters a reading holds, each counted each time it is reached (what is shared counts as often as it is met; a slice's spare places count too). A statement '..UptoSaid' is the law's where the arguments, and the package variables that the reading takes, are together of bulk at most 1048576: NARROWER than '..Said'. Prove '..Said' where nothing that the law and all that it calls make is longer than what came in: it says more and counts as full. Else prove '..UptoSaid'. A law counts once. -/
mutual
def uptoBulk {H : Type} : DataW H → Nat
  | .lit (.string bytes) => bytes.length + 1
  | .lit _ => 1
  | .nil => 1
  | .ptr d => uptoBulk d + 1
  | .slice elems spare => uptoBulkAll elems + uptoBulkAll spare + 1
  | .agg parts => uptoBulkAll parts + 1
  | .iface _ d => uptoBulk d + 1
  | .map entries => uptoBulkEntries entries + 1
  | .held _ => 1
def uptoBulkAll {H : Type} : List (DataW H) → Nat
  | [] => 0
  | d :: r => uptoBulk d + uptoBulkAll r
def uptoBulkEntries {H : Type} : List (Lit × DataW H) → Nat
  | [] => 0
  | x :: r => uptoBulkEntry x + uptoBulkEntries r
def uptoBulkEntry {H : Type} : Lit × DataW H → Nat
  | (.string bytes, d) => bytes.length + uptoBulk d + 1
  | (_, d) => uptoBulk d + 1
 end
def uptoSmall : (H : Type) → List (DataW H) → Bool := fun _ ds => decide (uptoBulkAll ds ≤ 1048576)
def OpenSpec.upto (s : _root_.Go.ChangeSpec) : _root_.Go.OpenSpec := { _root_.Go.OpenSpec.ofChange s with cond := some uptoSmall }

/-- 'laws.FnExactBefore', WHERE WHAT IT READS IS OF BULK AT MOST 1048576: true; the input reads as it did. -/
def fnExactBeforeUptoRow : OpenClaim := { program := "ytaghidaamcnpkab", sum := "1bd3f47ff016f4ea6fe2088446ef8057810c1e799a439ac186e32a67ae65c4c0", func := "loop.example/wholethreads/laws.FnExactBefore", spec := "fnExactBefore", apart := false, narrowed := true }
def FnExactBeforeUptoSaid : Prop := fnExactBeforeUptoRow.holds Try.pinned (OpenSpec.upto fnExactBeforeSpec)

/-- 'laws.FnExactViewWays', WHERE WHAT IT READS IS OF BULK AT MOST 1048576: true; the input reads as it did. -/
def fnExactViewWaysUptoRow : OpenClaim := { program := "ytaghidaamcnpkab", sum := "1bd3f47ff016f4ea6fe2088446ef8057810c1e799a439ac186e32a67ae65c4c0", func := "loop.example/wholethreads/laws.FnExactViewWays", spec := "fnExactViewWays", apart := false, narrowed := true }
def FnExactViewWaysUptoSaid : Prop := fnExactViewWaysUptoRow.holds Try.pinned (OpenSpec.upto fnExactViewWaysSpec)

/-- 'laws.FnExactViewOutcome', WHERE WHAT IT READS IS OF BULK AT MOST 1048576: true; the input reads as it did. -/
def fnExactViewOutcomeUptoRow : OpenClaim := { program := "ytaghidaamcnpkab", sum := "1bd3f47ff016f4ea6fe2088446ef8057810c1e799a439ac186e32a67ae65c4c0", func := "loop.example/wholethreads/laws.FnExactViewOutcome", spec := "fnExactViewOutcome", apart := false, narrowed := true }
def FnExactViewOutcomeUptoSaid : Prop := fnExactViewOutcomeUptoRow.holds Try.pinned (OpenSpec.upto fnExactViewOutcomeSpec)

end Rows
end Go.Proofs.Ytaghidaamcnpkab
