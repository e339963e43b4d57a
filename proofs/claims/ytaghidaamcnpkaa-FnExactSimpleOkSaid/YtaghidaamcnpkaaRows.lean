/-
  No cell of these rows narrows 'for every input' (looked for: loops, veiled, ifaces, maps, wideKeys, modest, calm, conditions, laid).
  DERIVED. THE GIVEN ROWS OF THIS SEAT. 3 by the template 'for every input the law returns true; each argument reads behind the call as it read before'; 0 by the template 'total and deterministic' (their statements: YtaghidaamcnpkaaTotals.lean).
  GIVEN WITH THE SEED: the statements are not yours to turn. If you find one false, say at which input.
  Laid BY PROGRAM, IN A SANDBOX (cutbox-rows.mjs): the forced cells as the released guide's own fill.sh prints them over the translation 952ec176e36bb14b… (all of the seat's roots in one cut). By AI agents, Wed Nov 11 2026. No macro, syntax, notation, axiom, sorry.
-/
import Derived.Test.YtaghidaamcnpkaaChecked
import GoSem.Claim
import GoSem.ClaimJoined
import GoSem.ClaimMapViews
import Derived.JoinedTies
import Derived.KernelRfl
namespace Go.Proofs.Ytaghidaamcnpkaa
/- THE CELL 'sum', in the pinned program and in every row, IS THE sha256 OF THE DUMP (.gsa) THAT YtaghidaamcnpkaaProg.lean LOADS. Nothing in Lean hashes anything: it is a label: what it is worth is what the hold of that sum in a sandbox is worth. -/
noncomputable def Try.pinned : Pinned := { name := "ytaghidaamcnpkaa", sum := "952ec176e36bb14b2ea70cd5ac698be358b1120398e7dfd5217caf15ac0eeaf9", checked := Try.checked }
namespace Rows
def none {H : Type} : Left H := { results := [], args := [] }

/-- 'laws.FnExactSimpleOk': WHATEVER THE INPUT: true; the input reads as it did. -/
def fnExactSimpleOkSpec : ChangeSpec := { name := "fnExactSimpleOk", fn := fun _ => fun
  | [d] => { results := [.lit (.bool true)], args := [d] }
  | _ => none }
def fnExactSimpleOkRow : OpenClaim := { program := "ytaghidaamcnpkaa", sum := "952ec176e36bb14b2ea70cd5ac698be358b1120398e7dfd5217caf15ac0eeaf9", func := "loop.example/wholethreads/laws.FnExactSimpleOk", spec := "fnExactSimpleOk", apart := false }
def FnExactSimpleOkSaid : Prop := fnExactSimpleOkRow.holds Try.pinned (OpenSpec.ofChange fnExactSimpleOkSpec)

/-- ITS FALSE NEIGHBOUR: 'it returns false'. Refute it at one input. -/
def fnExactSimpleOkWrong : ChangeSpec := { name := "fnExactSimpleOk", fn := fun _ => fun
  | [d] => { results := [.lit (.bool false)], args := [d] }
  | _ => none }
def FnExactSimpleOkWrongFalsely : Prop := fnExactSimpleOkRow.holds Try.pinned (OpenSpec.ofChange fnExactSimpleOkWrong)

/-- 'laws.FnExactExecOk': WHATEVER THE INPUT: true; the input reads as it did. -/
def fnExactExecOkSpec : ChangeSpec := { name := "fnExactExecOk", fn := fun _ => fun
  | [d1, d2] => { results := [.lit (.bool true)], args := [d1, d2] }
  | _ => none }
def fnExactExecOkRow : OpenClaim := { program := "ytaghidaamcnpkaa", sum := "952ec176e36bb14b2ea70cd5ac698be358b1120398e7dfd5217caf15ac0eeaf9", func := "loop.example/wholethreads/laws.FnExactExecOk", spec := "fnExactExecOk", apart := false }
def FnExactExecOkSaid : Prop := fnExactExecOkRow.holds Try.pinned (OpenSpec.ofChange fnExactExecOkSpec)

/-- ITS FALSE NEIGHBOUR: 'it returns false'. Refute it at one input. -/
def fnExactExecOkWrong : ChangeSpec := { name := "fnExactExecOk", fn := fun _ => fun
  | [d1, d2] => { results := [.lit (.bool false)], args := [d1, d2] }
  | _ => none }
def FnExactExecOkWrongFalsely : Prop := fnExactExecOkRow.holds Try.pinned (OpenSpec.ofChange fnExactExecOkWrong)

/-- 'laws.FnExactCoherent': WHATEVER THE INPUT: true; the input reads as it did. -/
def fnExactCoherentSpec : ChangeSpec := { name := "fnExactCoherent", fn := fun _ => fun
  | [d1, d2] => { results := [.lit (.bool true)], args := [d1, d2] }
  | _ => none }
def fnExactCoherentRow : OpenClaim := { program := "ytaghidaamcnpkaa", sum := "952ec176e36bb14b2ea70cd5ac698be358b1120398e7dfd5217caf15ac0eeaf9", func := "loop.example/wholethreads/laws.FnExactCoherent", spec := "fnExactCoherent", apart := false }
def FnExactCoherentSaid : Prop := fnExactCoherentRow.holds Try.pinned (OpenSpec.ofChange fnExactCoherentSpec)

/-- ITS FALSE NEIGHBOUR: 'it returns false'. Refute it at one input. -/
def fnExactCoherentWrong : ChangeSpec := { name := "fnExactCoherent", fn := fun _ => fun
  | [d1, d2] => { results := [.lit (.bool false)], args := [d1, d2] }
  | _ => none }
def FnExactCoherentWrongFalsely : Prop := fnExactCoherentRow.holds Try.pinned (OpenSpec.ofChange fnExactCoherentWrong)

/- THE SECOND FORM. 'bulk': how many values and letters a reading holds, each counted each time it is reached (what is shared counts as often as it is met; a slice's spare places count too). A statement '..UptoSaid' is the law's where the arguments, and the package variables that the reading takes, are together of bulk at most 1048576: NARROWER than '..Said'. Prove '..Said' where nothing that the law and all that it calls make is longer than what came in: it says more and counts as full. Else prove '..UptoSaid'. A law counts once. -/
mutual
def uptoBulk {H : Type} : DataW H → Nat
  | .lit (.string bytes) => bytes.length + 1
  | .lit _ => 1
  | .nil => 1
  | .ptr d => uptoBulk d + 1
  | .slice elems spare => uptoBulkAll elems + uptoBulkAll spare + 1
  | .agg parts => uptoBulkAll parts + 1
  | .iface _ d => uptoBulk d + 1
  | .map entries => uptoBulkEntries entries + 1
  | .held _ => 1
def uptoBulkAll {H : Type} : List (DataW H) → Nat
  | [] => 0
  | d :: r => uptoBulk d + uptoBulkAll r
def uptoBulkEntries {H : Type} : List (Lit × DataW H) → Nat
  | [] => 0
  | x :: r => uptoBulkEntry x + uptoBulkEntries r
def uptoBulkEntry {H : Type} : Lit × DataW H → Nat
  | (.string bytes, d) => bytes.length + uptoBulk d + 1
  | (_, d) => uptoBulk d + 1
 end
def uptoSmall : (H : Type) → List (DataW H) → Bool := fun _ ds => decide (uptoBulkAll ds ≤ 1048576)
def OpenSpec.upto (s : _root_.Go.ChangeSpec) : _root_.Go.OpenSpec := { _root_.Go.OpenSpec.ofChange s with cond := some uptoSmall }

/-- 'laws.FnExactSimpleOk', WHERE WHAT IT READS IS OF BULK AT MOST 1048576: true; the input reads as it did. -/
def fnExactSimpleOkUptoRow : OpenClaim := { program := "ytaghidaamcnpkaa", sum := "952ec176e36bb14b2ea70cd5ac698be358b1120398e7dfd5217caf15ac0eeaf9", func := "loop.example/wholethreads/laws.FnExactSimpleOk", spec := "fnExactSimpleOk", apart := false, narrowed := true }
def FnExactSimpleOkUptoSaid : Prop := fnExactSimpleOkUptoRow.holds Try.pinned (OpenSpec.upto fnExactSimpleOkSpec)

/-- 'laws.FnExactExecOk', WHERE WHAT IT READS IS OF BULK AT MOST 1048576: true; the input reads as it did. -/
def fnExactExecOkUptoRow : OpenClaim := { program := "ytaghidaamcnpkaa", sum := "952ec176e36bb14b2ea70cd5ac698be358b1120398e7dfd5217caf15ac0eeaf9", func := "loop.example/wholethreads/laws.FnExactExecOk", spec := "fnExactExecOk", apart := false, narrowed := true }
def FnExactExecOkUptoSaid : Prop := fnExactExecOkUptoRow.holds Try.pinned (OpenSpec.upto fnExactExecOkSpec)

/-- 'laws.FnExactCoherent', WHERE WHAT IT READS IS OF BULK AT MOST 1048576: true; the input reads as it did. -/
def fnExactCoherentUptoRow : OpenClaim := { program := "ytaghidaamcnpkaa", sum := "952ec176e36bb14b2ea70cd5ac698be358b1120398e7dfd5217caf15ac0eeaf9", func := "loop.example/wholethreads/laws.FnExactCoherent", spec := "fnExactCoherent", apart := false, narrowed := true }
def FnExactCoherentUptoSaid : Prop := fnExactCoherentUptoRow.holds Try.pinned (OpenSpec.upto fnExactCoherentSpec)

end Rows
end Go.Proofs.Ytaghidaamcnpkaa
