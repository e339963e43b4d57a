/-
  No cell of these rows narrows 'for every input' (looked for: loops, veiled, ifaces, maps, wideKeys, modest, calm, conditions, laid).
  DERIVED. THE GIVEN ROWS OF THIS SEAT. 10 by the template 'for every input the law returns true; each argument reads behind the call as it read before'; 0 by the template 'total and deterministic' (their statements: YtnadihepgmbhaaaTotals.lean).
  GIVEN WITH THE SEED: the statements are not yours to turn. If you find one false, say at which input.
  Laid BY PROGRAM, IN A SANDBOX (cutbox-rows.mjs): the forced cells as the released guide's own fill.sh prints them over the translation 1a581eaa8c4257cd… (all of the seat's roots in one cut). By AI agents, Wed Nov 11 2026. No macro, syntax, notation, axiom, sorry.
-/
import Derived.Test.YtnadihepgmbhaaaChecked
import GoSem.Claim
import GoSem.ClaimJoined
import GoSem.ClaimMapViews
import Derived.JoinedTies
import Derived.KernelRfl
namespace Go.Proofs.Ytnadihepgmbhaaa
/- THE CELL 'sum', in the pinned program and in every row, IS THE sha256 OF THE DUMP (.gsa) THAT YtnadihepgmbhaaaProg.lean LOADS. Nothing in Lean hashes anything: it is a label: what it is worth is what the hold of that sum in a sandbox is worth. -/
noncomputable def Try.pinned : Pinned := { name := "ytnadihepgmbhaaa", sum := "1a581eaa8c4257cd2de051a8b8726904225e4295b2947ea22e418a4b96b2ba81", checked := Try.checked }
namespace Rows
def none {H : Type} : Left H := { results := [], args := [] }

/-- 'laws.FnExactSpreadBegin': WHATEVER THE INPUT: true; the input reads as it did. -/
def fnExactSpreadBeginSpec : ChangeSpec := { name := "fnExactSpreadBegin", fn := fun _ => fun
  | [d] => { results := [.lit (.bool true)], args := [d] }
  | _ => none }
def fnExactSpreadBeginRow : OpenClaim := { program := "ytnadihepgmbhaaa", sum := "1a581eaa8c4257cd2de051a8b8726904225e4295b2947ea22e418a4b96b2ba81", func := "loop.example/wholethreads/laws.FnExactSpreadBegin", spec := "fnExactSpreadBegin", apart := false }
def FnExactSpreadBeginSaid : Prop := fnExactSpreadBeginRow.holds Try.pinned (OpenSpec.ofChange fnExactSpreadBeginSpec)

/-- ITS FALSE NEIGHBOUR: 'it returns false'. Refute it at one input. -/
def fnExactSpreadBeginWrong : ChangeSpec := { name := "fnExactSpreadBegin", fn := fun _ => fun
  | [d] => { results := [.lit (.bool false)], args := [d] }
  | _ => none }
def FnExactSpreadBeginWrongFalsely : Prop := fnExactSpreadBeginRow.holds Try.pinned (OpenSpec.ofChange fnExactSpreadBeginWrong)

/-- 'laws.FnExactSpreadOk': WHATEVER THE INPUT: true; the input reads as it did. -/
def fnExactSpreadOkSpec : ChangeSpec := { name := "fnExactSpreadOk", fn := fun _ => fun
  | [d1, d2] => { results := [.lit (.bool true)], args := [d1, d2] }
  | _ => none }
def fnExactSpreadOkRow : OpenClaim := { program := "ytnadihepgmbhaaa", sum := "1a581eaa8c4257cd2de051a8b8726904225e4295b2947ea22e418a4b96b2ba81", func := "loop.example/wholethreads/laws.FnExactSpreadOk", spec := "fnExactSpreadOk", apart := false }
def FnExactSpreadOkSaid : Prop := fnExactSpreadOkRow.holds Try.pinned (OpenSpec.ofChange fnExactSpreadOkSpec)

/-- ITS FALSE NEIGHBOUR: 'it returns false'. Refute it at one input. -/
def fnExactSpreadOkWrong : ChangeSpec := { name := "fnExactSpreadOk", fn := fun _ => fun
  | [d1, d2] => { results := [.lit (.bool false)], args := [d1, d2] }
  | _ => none }
def FnExactSpreadOkWrongFalsely : Prop := fnExactSpreadOkRow.holds Try.pinned (OpenSpec.ofChange fnExactSpreadOkWrong)

/-- 'laws.FnExactSpreadReads': WHATEVER THE INPUT: true; the input reads as it did. -/
def fnExactSpreadReadsSpec : ChangeSpec := { name := "fnExactSpreadReads", fn := fun _ => fun
  | [d1, d2, d3, d4] => { results := [.lit (.bool true)], args := [d1, d2, d3, d4] }
  | _ => none }
def fnExactSpreadReadsRow : OpenClaim := { program := "ytnadihepgmbhaaa", sum := "1a581eaa8c4257cd2de051a8b8726904225e4295b2947ea22e418a4b96b2ba81", func := "loop.example/wholethreads/laws.FnExactSpreadReads", spec := "fnExactSpreadReads", apart := false }
def FnExactSpreadReadsSaid : Prop := fnExactSpreadReadsRow.holds Try.pinned (OpenSpec.ofChange fnExactSpreadReadsSpec)

/-- ITS FALSE NEIGHBOUR: 'it returns false'. Refute it at one input. -/
def fnExactSpreadReadsWrong : ChangeSpec := { name := "fnExactSpreadReads", fn := fun _ => fun
  | [d1, d2, d3, d4] => { results := [.lit (.bool false)], args := [d1, d2, d3, d4] }
  | _ => none }
def FnExactSpreadReadsWrongFalsely : Prop := fnExactSpreadReadsRow.holds Try.pinned (OpenSpec.ofChange fnExactSpreadReadsWrong)

/-- 'laws.FnExactSpreadCan': WHATEVER THE INPUT: true; the input reads as it did. -/
def fnExactSpreadCanSpec : ChangeSpec := { name := "fnExactSpreadCan", fn := fun _ => fun
  | [d1, d2, d3] => { results := [.lit (.bool true)], args := [d1, d2, d3] }
  | _ => none }
def fnExactSpreadCanRow : OpenClaim := { program := "ytnadihepgmbhaaa", sum := "1a581eaa8c4257cd2de051a8b8726904225e4295b2947ea22e418a4b96b2ba81", func := "loop.example/wholethreads/laws.FnExactSpreadCan", spec := "fnExactSpreadCan", apart := false }
def FnExactSpreadCanSaid : Prop := fnExactSpreadCanRow.holds Try.pinned (OpenSpec.ofChange fnExactSpreadCanSpec)

/-- ITS FALSE NEIGHBOUR: 'it returns false'. Refute it at one input. -/
def fnExactSpreadCanWrong : ChangeSpec := { name := "fnExactSpreadCan", fn := fun _ => fun
  | [d1, d2, d3] => { results := [.lit (.bool false)], args := [d1, d2, d3] }
  | _ => none }
def FnExactSpreadCanWrongFalsely : Prop := fnExactSpreadCanRow.holds Try.pinned (OpenSpec.ofChange fnExactSpreadCanWrong)

/-- 'laws.FnExactSpreadPlay': WHATEVER THE INPUT: true; the input reads as it did. -/
def fnExactSpreadPlaySpec : ChangeSpec := { name := "fnExactSpreadPlay", fn := fun _ => fun
  | [d1, d2] => { results := [.lit (.bool true)], args := [d1, d2] }
  | _ => none }
def fnExactSpreadPlayRow : OpenClaim := { program := "ytnadihepgmbhaaa", sum := "1a581eaa8c4257cd2de051a8b8726904225e4295b2947ea22e418a4b96b2ba81", func := "loop.example/wholethreads/laws.FnExactSpreadPlay", spec := "fnExactSpreadPlay", apart := false }
def FnExactSpreadPlaySaid : Prop := fnExactSpreadPlayRow.holds Try.pinned (OpenSpec.ofChange fnExactSpreadPlaySpec)

/-- ITS FALSE NEIGHBOUR: 'it returns false'. Refute it at one input. -/
def fnExactSpreadPlayWrong : ChangeSpec := { name := "fnExactSpreadPlay", fn := fun _ => fun
  | [d1, d2] => { results := [.lit (.bool false)], args := [d1, d2] }
  | _ => none }
def FnExactSpreadPlayWrongFalsely : Prop := fnExactSpreadPlayRow.holds Try.pinned (OpenSpec.ofChange fnExactSpreadPlayWrong)

/-- 'laws.FnExactBufBegin': WHATEVER THE INPUT: true; the input reads as it did. -/
def fnExactBufBeginSpec : ChangeSpec := { name := "fnExactBufBegin", fn := fun _ => fun
  | [d] => { results := [.lit (.bool true)], args := [d] }
  | _ => none }
def fnExactBufBeginRow : OpenClaim := { program := "ytnadihepgmbhaaa", sum := "1a581eaa8c4257cd2de051a8b8726904225e4295b2947ea22e418a4b96b2ba81", func := "loop.example/wholethreads/laws.FnExactBufBegin", spec := "fnExactBufBegin", apart := false }
def FnExactBufBeginSaid : Prop := fnExactBufBeginRow.holds Try.pinned (OpenSpec.ofChange fnExactBufBeginSpec)

/-- ITS FALSE NEIGHBOUR: 'it returns false'. Refute it at one input. -/
def fnExactBufBeginWrong : ChangeSpec := { name := "fnExactBufBegin", fn := fun _ => fun
  | [d] => { results := [.lit (.bool false)], args := [d] }
  | _ => none }
def FnExactBufBeginWrongFalsely : Prop := fnExactBufBeginRow.holds Try.pinned (OpenSpec.ofChange fnExactBufBeginWrong)

/-- 'laws.FnExactBufReads': WHATEVER THE INPUT: true; the input reads as it did. -/
def fnExactBufReadsSpec : ChangeSpec := { name := "fnExactBufReads", fn := fun _ => fun
  | [d1, d2, d3, d4] => { results := [.lit (.bool true)], args := [d1, d2, d3, d4] }
  | _ => none }
def fnExactBufReadsRow : OpenClaim := { program := "ytnadihepgmbhaaa", sum := "1a581eaa8c4257cd2de051a8b8726904225e4295b2947ea22e418a4b96b2ba81", func := "loop.example/wholethreads/laws.FnExactBufReads", spec := "fnExactBufReads", apart := false }
def FnExactBufReadsSaid : Prop := fnExactBufReadsRow.holds Try.pinned (OpenSpec.ofChange fnExactBufReadsSpec)

/-- ITS FALSE NEIGHBOUR: 'it returns false'. Refute it at one input. -/
def fnExactBufReadsWrong : ChangeSpec := { name := "fnExactBufReads", fn := fun _ => fun
  | [d1, d2, d3, d4] => { results := [.lit (.bool false)], args := [d1, d2, d3, d4] }
  | _ => none }
def FnExactBufReadsWrongFalsely : Prop := fnExactBufReadsRow.holds Try.pinned (OpenSpec.ofChange fnExactBufReadsWrong)

/-- 'laws.FnExactBufCan': WHATEVER THE INPUT: true; the input reads as it did. -/
def fnExactBufCanSpec : ChangeSpec := { name := "fnExactBufCan", fn := fun _ => fun
  | [d1, d2, d3] => { results := [.lit (.bool true)], args := [d1, d2, d3] }
  | _ => none }
def fnExactBufCanRow : OpenClaim := { program := "ytnadihepgmbhaaa", sum := "1a581eaa8c4257cd2de051a8b8726904225e4295b2947ea22e418a4b96b2ba81", func := "loop.example/wholethreads/laws.FnExactBufCan", spec := "fnExactBufCan", apart := false }
def FnExactBufCanSaid : Prop := fnExactBufCanRow.holds Try.pinned (OpenSpec.ofChange fnExactBufCanSpec)

/-- ITS FALSE NEIGHBOUR: 'it returns false'. Refute it at one input. -/
def fnExactBufCanWrong : ChangeSpec := { name := "fnExactBufCan", fn := fun _ => fun
  | [d1, d2, d3] => { results := [.lit (.bool false)], args := [d1, d2, d3] }
  | _ => none }
def FnExactBufCanWrongFalsely : Prop := fnExactBufCanRow.holds Try.pinned (OpenSpec.ofChange fnExactBufCanWrong)

/-- 'laws.FnExactBufPlay': WHATEVER THE INPUT: true; the input reads as it did. -/
def fnExactBufPlaySpec : ChangeSpec := { name := "fnExactBufPlay", fn := fun _ => fun
  | [d1, d2] => { results := [.lit (.bool true)], args := [d1, d2] }
  | _ => none }
def fnExactBufPlayRow : OpenClaim := { program := "ytnadihepgmbhaaa", sum := "1a581eaa8c4257cd2de051a8b8726904225e4295b2947ea22e418a4b96b2ba81", func := "loop.example/wholethreads/laws.FnExactBufPlay", spec := "fnExactBufPlay", apart := false }
def FnExactBufPlaySaid : Prop := fnExactBufPlayRow.holds Try.pinned (OpenSpec.ofChange fnExactBufPlaySpec)

/-- ITS FALSE NEIGHBOUR: 'it returns false'. Refute it at one input. -/
def fnExactBufPlayWrong : ChangeSpec := { name := "fnExactBufPlay", fn := fun _ => fun
  | [d1, d2] => { results := [.lit (.bool false)], args := [d1, d2] }
  | _ => none }
def FnExactBufPlayWrongFalsely : Prop := fnExactBufPlayRow.holds Try.pinned (OpenSpec.ofChange fnExactBufPlayWrong)

/-- 'laws.FnExactGuarded': WHATEVER THE INPUT: true; the input reads as it did. -/
def fnExactGuardedSpec : ChangeSpec := { name := "fnExactGuarded", fn := fun _ => fun
  | [d] => { results := [.lit (.bool true)], args := [d] }
  | _ => none }
def fnExactGuardedRow : OpenClaim := { program := "ytnadihepgmbhaaa", sum := "1a581eaa8c4257cd2de051a8b8726904225e4295b2947ea22e418a4b96b2ba81", func := "loop.example/wholethreads/laws.FnExactGuarded", spec := "fnExactGuarded", recurses := true, apart := false }
def FnExactGuardedSaid : Prop := fnExactGuardedRow.holds Try.pinned (OpenSpec.ofChange fnExactGuardedSpec)

/-- ITS FALSE NEIGHBOUR: 'it returns false'. Refute it at one input. -/
def fnExactGuardedWrong : ChangeSpec := { name := "fnExactGuarded", fn := fun _ => fun
  | [d] => { results := [.lit (.bool false)], args := [d] }
  | _ => none }
def FnExactGuardedWrongFalsely : Prop := fnExactGuardedRow.holds Try.pinned (OpenSpec.ofChange fnExactGuardedWrong)

/- THE SECOND FORM. 'bulk': how many values and letters a reading holds, each counted each time it is reached (what is shared counts as often as it is met; a slice's spare places count too). A statement '..UptoSaid' is the law's where the arguments, and the package variables that the reading takes, are together of bulk at most 1048576: NARROWER than '..Said'. Prove '..Said' where nothing that the law and all that it calls make is longer than what came in: it says more and counts as full. Else prove '..UptoSaid'. A law counts once. -/
mutual
def uptoBulk {H : Type} : DataW H → Nat
  | .lit (.string bytes) => bytes.length + 1
  | .lit _ => 1
  | .nil => 1
  | .ptr d => uptoBulk d + 1
  | .slice elems spare => uptoBulkAll elems + uptoBulkAll spare + 1
  | .agg parts => uptoBulkAll parts + 1
  | .iface _ d => uptoBulk d + 1
  | .map entries => uptoBulkEntries entries + 1
  | .held _ => 1
def uptoBulkAll {H : Type} : List (DataW H) → Nat
  | [] => 0
  | d :: r => uptoBulk d + uptoBulkAll r
def uptoBulkEntries {H : Type} : List (Lit × DataW H) → Nat
  | [] => 0
  | x :: r => uptoBulkEntry x + uptoBulkEntries r
def uptoBulkEntry {H : Type} : Lit × DataW H → Nat
  | (.string bytes, d) => bytes.length + uptoBulk d + 1
  | (_, d) => uptoBulk d + 1
 end
def uptoSmall : (H : Type) → List (DataW H) → Bool := fun _ ds => decide (uptoBulkAll ds ≤ 1048576)
def OpenSpec.upto (s : _root_.Go.ChangeSpec) : _root_.Go.OpenSpec := { _root_.Go.OpenSpec.ofChange s with cond := some uptoSmall }

/-- 'laws.FnExactSpreadBegin', WHERE WHAT IT READS IS OF BULK AT MOST 1048576: true; the input reads as it did. -/
def fnExactSpreadBeginUptoRow : OpenClaim := { program := "ytnadihepgmbhaaa", sum := "1a581eaa8c4257cd2de051a8b8726904225e4295b2947ea22e418a4b96b2ba81", func := "loop.example/wholethreads/laws.FnExactSpreadBegin", spec := "fnExactSpreadBegin", apart := false, narrowed := true }
def FnExactSpreadBeginUptoSaid : Prop := fnExactSpreadBeginUptoRow.holds Try.pinned (OpenSpec.upto fnExactSpreadBeginSpec)

/-- 'laws.FnExactSpreadOk', WHERE WHAT IT READS IS OF BULK AT MOST 1048576: true; the input reads as it did. -/
def fnExactSpreadOkUptoRow : OpenClaim := { program := "ytnadihepgmbhaaa", sum := "1a581eaa8c4257cd2de051a8b8726904225e4295b2947ea22e418a4b96b2ba81", func := "loop.example/wholethreads/laws.FnExactSpreadOk", spec := "fnExactSpreadOk", apart := false, narrowed := true }
def FnExactSpreadOkUptoSaid : Prop := fnExactSpreadOkUptoRow.holds Try.pinned (OpenSpec.upto fnExactSpreadOkSpec)

/-- 'laws.FnExactSpreadReads', WHERE WHAT IT READS IS OF BULK AT MOST 1048576: true; the input reads as it did. -/
def fnExactSpreadReadsUptoRow : OpenClaim := { program := "ytnadihepgmbhaaa", sum := "1a581eaa8c4257cd2de051a8b8726904225e4295b2947ea22e418a4b96b2ba81", func := "loop.example/wholethreads/laws.FnExactSpreadReads", spec := "fnExactSpreadReads", apart := false, narrowed := true }
def FnExactSpreadReadsUptoSaid : Prop := fnExactSpreadReadsUptoRow.holds Try.pinned (OpenSpec.upto fnExactSpreadReadsSpec)

/-- 'laws.FnExactSpreadCan', WHERE WHAT IT READS IS OF BULK AT MOST 1048576: true; the input reads as it did. -/
def fnExactSpreadCanUptoRow : OpenClaim := { program := "ytnadihepgmbhaaa", sum := "1a581eaa8c4257cd2de051a8b8726904225e4295b2947ea22e418a4b96b2ba81", func := "loop.example/wholethreads/laws.FnExactSpreadCan", spec := "fnExactSpreadCan", apart := false, narrowed := true }
def FnExactSpreadCanUptoSaid : Prop := fnExactSpreadCanUptoRow.holds Try.pinned (OpenSpec.upto fnExactSpreadCanSpec)

/-- 'laws.FnExactSpreadPlay', WHERE WHAT IT READS IS OF BULK AT MOST 1048576: true; the input reads as it did. -/
def fnExactSpreadPlayUptoRow : OpenClaim := { program := "ytnadihepgmbhaaa", sum := "1a581eaa8c4257cd2de051a8b8726904225e4295b2947ea22e418a4b96b2ba81", func := "loop.example/wholethreads/laws.FnExactSpreadPlay", spec := "fnExactSpreadPlay", apart := false, narrowed := true }
def FnExactSpreadPlayUptoSaid : Prop := fnExactSpreadPlayUptoRow.holds Try.pinned (OpenSpec.upto fnExactSpreadPlaySpec)

/-- 'laws.FnExactBufBegin', WHERE WHAT IT READS IS OF BULK AT MOST 1048576: true; the input reads as it did. -/
def fnExactBufBeginUptoRow : OpenClaim := { program := "ytnadihepgmbhaaa", sum := "1a581eaa8c4257cd2de051a8b8726904225e4295b2947ea22e418a4b96b2ba81", func := "loop.example/wholethreads/laws.FnExactBufBegin", spec := "fnExactBufBegin", apart := false, narrowed := true }
def FnExactBufBeginUptoSaid : Prop := fnExactBufBeginUptoRow.holds Try.pinned (OpenSpec.upto fnExactBufBeginSpec)

/-- 'laws.FnExactBufReads', WHERE WHAT IT READS IS OF BULK AT MOST 1048576: true; the input reads as it did. -/
def fnExactBufReadsUptoRow : OpenClaim := { program := "ytnadihepgmbhaaa", sum := "1a581eaa8c4257cd2de051a8b8726904225e4295b2947ea22e418a4b96b2ba81", func := "loop.example/wholethreads/laws.FnExactBufReads", spec := "fnExactBufReads", apart := false, narrowed := true }
def FnExactBufReadsUptoSaid : Prop := fnExactBufReadsUptoRow.holds Try.pinned (OpenSpec.upto fnExactBufReadsSpec)

/-- 'laws.FnExactBufCan', WHERE WHAT IT READS IS OF BULK AT MOST 1048576: true; the input reads as it did. -/
def fnExactBufCanUptoRow : OpenClaim := { program := "ytnadihepgmbhaaa", sum := "1a581eaa8c4257cd2de051a8b8726904225e4295b2947ea22e418a4b96b2ba81", func := "loop.example/wholethreads/laws.FnExactBufCan", spec := "fnExactBufCan", apart := false, narrowed := true }
def FnExactBufCanUptoSaid : Prop := fnExactBufCanUptoRow.holds Try.pinned (OpenSpec.upto fnExactBufCanSpec)

/-- 'laws.FnExactBufPlay', WHERE WHAT IT READS IS OF BULK AT MOST 1048576: true; the input reads as it did. -/
def fnExactBufPlayUptoRow : OpenClaim := { program := "ytnadihepgmbhaaa", sum := "1a581eaa8c4257cd2de051a8b8726904225e4295b2947ea22e418a4b96b2ba81", func := "loop.example/wholethreads/laws.FnExactBufPlay", spec := "fnExactBufPlay", apart := false, narrowed := true }
def FnExactBufPlayUptoSaid : Prop := fnExactBufPlayUptoRow.holds Try.pinned (OpenSpec.upto fnExactBufPlaySpec)

/-- 'laws.FnExactGuarded', WHERE WHAT IT READS IS OF BULK AT MOST 1048576: true; the input reads as it did. -/
def fnExactGuardedUptoRow : OpenClaim := { program := "ytnadihepgmbhaaa", sum := "1a581eaa8c4257cd2de051a8b8726904225e4295b2947ea22e418a4b96b2ba81", func := "loop.example/wholethreads/laws.FnExactGuarded", spec := "fnExactGuarded", recurses := true, apart := false, narrowed := true }
def FnExactGuardedUptoSaid : Prop := fnExactGuardedUptoRow.holds Try.pinned (OpenSpec.upto fnExactGuardedSpec)

end Rows
end Go.Proofs.Ytnadihepgmbhaaa
