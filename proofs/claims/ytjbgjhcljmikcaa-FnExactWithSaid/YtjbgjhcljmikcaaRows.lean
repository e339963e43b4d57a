/-
  No cell of these rows narrows 'for every input' (looked for: loops, veiled, ifaces, maps, wideKeys, modest, calm, conditions, laid).
  DERIVED. THE GIVEN ROWS OF THIS SEAT. 10 by the template 'for every input the law returns true; each argument reads behind the call as it read before'; 0 by the template 'total and deterministic' (their statements: YtjbgjhcljmikcaaTotals.lean).
  GIVEN WITH THE SEED: the statements are not yours to turn. If you find one false, say at which input.
  Laid BY PROGRAM, IN A SANDBOX (cutbox-rows.mjs): the forced cells as the released guide's own fill.sh prints them over the translation 761d814216dfe875… (all of the seat's roots in one cut). By AI agents, Wed Nov 11 2026. No macro, syntax, notation, axiom, sorry.
-/
import Derived.Test.YtjbgjhcljmikcaaChecked
import GoSem.Claim
import GoSem.ClaimJoined
import GoSem.ClaimMapViews
import Derived.JoinedTies
import Derived.KernelRfl
namespace Go.Proofs.Ytjbgjhcljmikcaa
/- THE CELL 'sum', in the pinned program and in every row, IS THE sha256 OF THE DUMP (.gsa) THAT YtjbgjhcljmikcaaProg.lean LOADS. Nothing in Lean hashes anything: it is a label: what it is worth is what the hold of that sum in a sandbox is worth. -/
noncomputable def Try.pinned : Pinned := { name := "ytjbgjhcljmikcaa", sum := "761d814216dfe8750729b4f93a72a878eeb5646a84d92ee57bf669a0e46874c0", checked := Try.checked }
namespace Rows
def none {H : Type} : Left H := { results := [], args := [] }

/-- 'laws.FnWith': WHATEVER THE INPUT: true; the input reads as it did. -/
def fnWithSpec : ChangeSpec := { name := "fnWith", fn := fun _ => fun
  | [d] => { results := [.lit (.bool true)], args := [d] }
  | _ => none }
def fnWithRow : OpenClaim := { program := "ytjbgjhcljmikcaa", sum := "761d814216dfe8750729b4f93a72a878eeb5646a84d92ee57bf669a0e46874c0", func := "loop.example/wholethreads/laws.FnWith", spec := "fnWith", apart := false }
def FnWithSaid : Prop := fnWithRow.holds Try.pinned (OpenSpec.ofChange fnWithSpec)

/-- ITS FALSE NEIGHBOUR: 'it returns false'. Refute it at one input. -/
def fnWithWrong : ChangeSpec := { name := "fnWith", fn := fun _ => fun
  | [d] => { results := [.lit (.bool false)], args := [d] }
  | _ => none }
def FnWithWrongFalsely : Prop := fnWithRow.holds Try.pinned (OpenSpec.ofChange fnWithWrong)

/-- 'laws.FnExactStmtOk': WHATEVER THE INPUT: true; the input reads as it did. -/
def fnExactStmtOkSpec : ChangeSpec := { name := "fnExactStmtOk", fn := fun _ => fun
  | [d] => { results := [.lit (.bool true)], args := [d] }
  | _ => none }
def fnExactStmtOkRow : OpenClaim := { program := "ytjbgjhcljmikcaa", sum := "761d814216dfe8750729b4f93a72a878eeb5646a84d92ee57bf669a0e46874c0", func := "loop.example/wholethreads/laws.FnExactStmtOk", spec := "fnExactStmtOk", apart := false }
def FnExactStmtOkSaid : Prop := fnExactStmtOkRow.holds Try.pinned (OpenSpec.ofChange fnExactStmtOkSpec)

/-- ITS FALSE NEIGHBOUR: 'it returns false'. Refute it at one input. -/
def fnExactStmtOkWrong : ChangeSpec := { name := "fnExactStmtOk", fn := fun _ => fun
  | [d] => { results := [.lit (.bool false)], args := [d] }
  | _ => none }
def FnExactStmtOkWrongFalsely : Prop := fnExactStmtOkRow.holds Try.pinned (OpenSpec.ofChange fnExactStmtOkWrong)

/-- 'laws.FnExactProgramOk': WHATEVER THE INPUT: true; the input reads as it did. -/
def fnExactProgramOkSpec : ChangeSpec := { name := "fnExactProgramOk", fn := fun _ => fun
  | [d] => { results := [.lit (.bool true)], args := [d] }
  | _ => none }
def fnExactProgramOkRow : OpenClaim := { program := "ytjbgjhcljmikcaa", sum := "761d814216dfe8750729b4f93a72a878eeb5646a84d92ee57bf669a0e46874c0", func := "loop.example/wholethreads/laws.FnExactProgramOk", spec := "fnExactProgramOk", apart := false }
def FnExactProgramOkSaid : Prop := fnExactProgramOkRow.holds Try.pinned (OpenSpec.ofChange fnExactProgramOkSpec)

/-- ITS FALSE NEIGHBOUR: 'it returns false'. Refute it at one input. -/
def fnExactProgramOkWrong : ChangeSpec := { name := "fnExactProgramOk", fn := fun _ => fun
  | [d] => { results := [.lit (.bool false)], args := [d] }
  | _ => none }
def FnExactProgramOkWrongFalsely : Prop := fnExactProgramOkRow.holds Try.pinned (OpenSpec.ofChange fnExactProgramOkWrong)

/-- 'laws.FnExactStmtReads': WHATEVER THE INPUT: true; the input reads as it did. -/
def fnExactStmtReadsSpec : ChangeSpec := { name := "fnExactStmtReads", fn := fun _ => fun
  | [d] => { results := [.lit (.bool true)], args := [d] }
  | _ => none }
def fnExactStmtReadsRow : OpenClaim := { program := "ytjbgjhcljmikcaa", sum := "761d814216dfe8750729b4f93a72a878eeb5646a84d92ee57bf669a0e46874c0", func := "loop.example/wholethreads/laws.FnExactStmtReads", spec := "fnExactStmtReads", apart := false }
def FnExactStmtReadsSaid : Prop := fnExactStmtReadsRow.holds Try.pinned (OpenSpec.ofChange fnExactStmtReadsSpec)

/-- ITS FALSE NEIGHBOUR: 'it returns false'. Refute it at one input. -/
def fnExactStmtReadsWrong : ChangeSpec := { name := "fnExactStmtReads", fn := fun _ => fun
  | [d] => { results := [.lit (.bool false)], args := [d] }
  | _ => none }
def FnExactStmtReadsWrongFalsely : Prop := fnExactStmtReadsRow.holds Try.pinned (OpenSpec.ofChange fnExactStmtReadsWrong)

/-- 'laws.FnExactStmtSets': WHATEVER THE INPUT: true; the input reads as it did. -/
def fnExactStmtSetsSpec : ChangeSpec := { name := "fnExactStmtSets", fn := fun _ => fun
  | [d] => { results := [.lit (.bool true)], args := [d] }
  | _ => none }
def fnExactStmtSetsRow : OpenClaim := { program := "ytjbgjhcljmikcaa", sum := "761d814216dfe8750729b4f93a72a878eeb5646a84d92ee57bf669a0e46874c0", func := "loop.example/wholethreads/laws.FnExactStmtSets", spec := "fnExactStmtSets", apart := false }
def FnExactStmtSetsSaid : Prop := fnExactStmtSetsRow.holds Try.pinned (OpenSpec.ofChange fnExactStmtSetsSpec)

/-- ITS FALSE NEIGHBOUR: 'it returns false'. Refute it at one input. -/
def fnExactStmtSetsWrong : ChangeSpec := { name := "fnExactStmtSets", fn := fun _ => fun
  | [d] => { results := [.lit (.bool false)], args := [d] }
  | _ => none }
def FnExactStmtSetsWrongFalsely : Prop := fnExactStmtSetsRow.holds Try.pinned (OpenSpec.ofChange fnExactStmtSetsWrong)

/-- 'laws.FnExactStmtPlace': WHATEVER THE INPUT: true; the input reads as it did. -/
def fnExactStmtPlaceSpec : ChangeSpec := { name := "fnExactStmtPlace", fn := fun _ => fun
  | [d] => { results := [.lit (.bool true)], args := [d] }
  | _ => none }
def fnExactStmtPlaceRow : OpenClaim := { program := "ytjbgjhcljmikcaa", sum := "761d814216dfe8750729b4f93a72a878eeb5646a84d92ee57bf669a0e46874c0", func := "loop.example/wholethreads/laws.FnExactStmtPlace", spec := "fnExactStmtPlace", apart := false }
def FnExactStmtPlaceSaid : Prop := fnExactStmtPlaceRow.holds Try.pinned (OpenSpec.ofChange fnExactStmtPlaceSpec)

/-- ITS FALSE NEIGHBOUR: 'it returns false'. Refute it at one input. -/
def fnExactStmtPlaceWrong : ChangeSpec := { name := "fnExactStmtPlace", fn := fun _ => fun
  | [d] => { results := [.lit (.bool false)], args := [d] }
  | _ => none }
def FnExactStmtPlaceWrongFalsely : Prop := fnExactStmtPlaceRow.holds Try.pinned (OpenSpec.ofChange fnExactStmtPlaceWrong)

/-- 'laws.FnExactStmtWrites': WHATEVER THE INPUT: true; the input reads as it did. -/
def fnExactStmtWritesSpec : ChangeSpec := { name := "fnExactStmtWrites", fn := fun _ => fun
  | [d] => { results := [.lit (.bool true)], args := [d] }
  | _ => none }
def fnExactStmtWritesRow : OpenClaim := { program := "ytjbgjhcljmikcaa", sum := "761d814216dfe8750729b4f93a72a878eeb5646a84d92ee57bf669a0e46874c0", func := "loop.example/wholethreads/laws.FnExactStmtWrites", spec := "fnExactStmtWrites", apart := false }
def FnExactStmtWritesSaid : Prop := fnExactStmtWritesRow.holds Try.pinned (OpenSpec.ofChange fnExactStmtWritesSpec)

/-- ITS FALSE NEIGHBOUR: 'it returns false'. Refute it at one input. -/
def fnExactStmtWritesWrong : ChangeSpec := { name := "fnExactStmtWrites", fn := fun _ => fun
  | [d] => { results := [.lit (.bool false)], args := [d] }
  | _ => none }
def FnExactStmtWritesWrongFalsely : Prop := fnExactStmtWritesRow.holds Try.pinned (OpenSpec.ofChange fnExactStmtWritesWrong)

/-- 'laws.FnExactConflict': WHATEVER THE INPUT: true; the input reads as it did. -/
def fnExactConflictSpec : ChangeSpec := { name := "fnExactConflict", fn := fun _ => fun
  | [d1, d2] => { results := [.lit (.bool true)], args := [d1, d2] }
  | _ => none }
def fnExactConflictRow : OpenClaim := { program := "ytjbgjhcljmikcaa", sum := "761d814216dfe8750729b4f93a72a878eeb5646a84d92ee57bf669a0e46874c0", func := "loop.example/wholethreads/laws.FnExactConflict", spec := "fnExactConflict", apart := false }
def FnExactConflictSaid : Prop := fnExactConflictRow.holds Try.pinned (OpenSpec.ofChange fnExactConflictSpec)

/-- ITS FALSE NEIGHBOUR: 'it returns false'. Refute it at one input. -/
def fnExactConflictWrong : ChangeSpec := { name := "fnExactConflict", fn := fun _ => fun
  | [d1, d2] => { results := [.lit (.bool false)], args := [d1, d2] }
  | _ => none }
def FnExactConflictWrongFalsely : Prop := fnExactConflictRow.holds Try.pinned (OpenSpec.ofChange fnExactConflictWrong)

/-- 'laws.FnExactWithout': WHATEVER THE INPUT: true; the input reads as it did. -/
def fnExactWithoutSpec : ChangeSpec := { name := "fnExactWithout", fn := fun _ => fun
  | [d1, d2, d3] => { results := [.lit (.bool true)], args := [d1, d2, d3] }
  | _ => none }
def fnExactWithoutRow : OpenClaim := { program := "ytjbgjhcljmikcaa", sum := "761d814216dfe8750729b4f93a72a878eeb5646a84d92ee57bf669a0e46874c0", func := "loop.example/wholethreads/laws.FnExactWithout", spec := "fnExactWithout", apart := false }
def FnExactWithoutSaid : Prop := fnExactWithoutRow.holds Try.pinned (OpenSpec.ofChange fnExactWithoutSpec)

/-- ITS FALSE NEIGHBOUR: 'it returns false'. Refute it at one input. -/
def fnExactWithoutWrong : ChangeSpec := { name := "fnExactWithout", fn := fun _ => fun
  | [d1, d2, d3] => { results := [.lit (.bool false)], args := [d1, d2, d3] }
  | _ => none }
def FnExactWithoutWrongFalsely : Prop := fnExactWithoutRow.holds Try.pinned (OpenSpec.ofChange fnExactWithoutWrong)

/-- 'laws.FnExactWith': WHATEVER THE INPUT: true; the input reads as it did. -/
def fnExactWithSpec : ChangeSpec := { name := "fnExactWith", fn := fun _ => fun
  | [d1, d2, d3, d4] => { results := [.lit (.bool true)], args := [d1, d2, d3, d4] }
  | _ => none }
def fnExactWithRow : OpenClaim := { program := "ytjbgjhcljmikcaa", sum := "761d814216dfe8750729b4f93a72a878eeb5646a84d92ee57bf669a0e46874c0", func := "loop.example/wholethreads/laws.FnExactWith", spec := "fnExactWith", apart := false }
def FnExactWithSaid : Prop := fnExactWithRow.holds Try.pinned (OpenSpec.ofChange fnExactWithSpec)

/-- ITS FALSE NEIGHBOUR: 'it returns false'. Refute it at one input. -/
def fnExactWithWrong : ChangeSpec := { name := "fnExactWith", fn := fun _ => fun
  | [d1, d2, d3, d4] => { results := [.lit (.bool false)], args := [d1, d2, d3, d4] }
  | _ => none }
def FnExactWithWrongFalsely : Prop := fnExactWithRow.holds Try.pinned (OpenSpec.ofChange fnExactWithWrong)

/- THE SECOND FORM. 'bulk': how many values and letters a reading holds, each counted each time it is reached (what is shared counts as often as it is met; a slice's spare places count too). A statement '..UptoSaid' is the law's where the arguments, and the package variables that the reading takes, are together of bulk at most 1048576: NARROWER than '..Said'. Prove '..Said' where nothing that the law and all that it calls make is longer than what came in: it says more and counts as full. Else prove '..UptoSaid'. A law counts once. -/
mutual
def uptoBulk {H : Type} : DataW H → Nat
  | .lit (.string bytes) => bytes.length + 1
  | .lit _ => 1
  | .nil => 1
  | .ptr d => uptoBulk d + 1
  | .slice elems spare => uptoBulkAll elems + uptoBulkAll spare + 1
  | .agg parts => uptoBulkAll parts + 1
  | .iface _ d => uptoBulk d + 1
  | .map entries => uptoBulkEntries entries + 1
  | .held _ => 1
def uptoBulkAll {H : Type} : List (DataW H) → Nat
  | [] => 0
  | d :: r => uptoBulk d + uptoBulkAll r
def uptoBulkEntries {H : Type} : List (Lit × DataW H) → Nat
  | [] => 0
  | x :: r => uptoBulkEntry x + uptoBulkEntries r
def uptoBulkEntry {H : Type} : Lit × DataW H → Nat
  | (.string bytes, d) => bytes.length + uptoBulk d + 1
  | (_, d) => uptoBulk d + 1
 end
def uptoSmall : (H : Type) → List (DataW H) → Bool := fun _ ds => decide (uptoBulkAll ds ≤ 1048576)
def OpenSpec.upto (s : _root_.Go.ChangeSpec) : _root_.Go.OpenSpec := { _root_.Go.OpenSpec.ofChange s with cond := some uptoSmall }

/-- 'laws.FnWith', WHERE WHAT IT READS IS OF BULK AT MOST 1048576: true; the input reads as it did. -/
def fnWithUptoRow : OpenClaim := { program := "ytjbgjhcljmikcaa", sum := "761d814216dfe8750729b4f93a72a878eeb5646a84d92ee57bf669a0e46874c0", func := "loop.example/wholethreads/laws.FnWith", spec := "fnWith", apart := false, narrowed := true }
def FnWithUptoSaid : Prop := fnWithUptoRow.holds Try.pinned (OpenSpec.upto fnWithSpec)

/-- 'laws.FnExactStmtOk', WHERE WHAT IT READS IS OF BULK AT MOST 1048576: true; the input reads as it did. -/
def fnExactStmtOkUptoRow : OpenClaim := { program := "ytjbgjhcljmikcaa", sum := "761d814216dfe8750729b4f93a72a878eeb5646a84d92ee57bf669a0e46874c0", func := "loop.example/wholethreads/laws.FnExactStmtOk", spec := "fnExactStmtOk", apart := false, narrowed := true }
def FnExactStmtOkUptoSaid : Prop := fnExactStmtOkUptoRow.holds Try.pinned (OpenSpec.upto fnExactStmtOkSpec)

/-- 'laws.FnExactProgramOk', WHERE WHAT IT READS IS OF BULK AT MOST 1048576: true; the input reads as it did. -/
def fnExactProgramOkUptoRow : OpenClaim := { program := "ytjbgjhcljmikcaa", sum := "761d814216dfe8750729b4f93a72a878eeb5646a84d92ee57bf669a0e46874c0", func := "loop.example/wholethreads/laws.FnExactProgramOk", spec := "fnExactProgramOk", apart := false, narrowed := true }
def FnExactProgramOkUptoSaid : Prop := fnExactProgramOkUptoRow.holds Try.pinned (OpenSpec.upto fnExactProgramOkSpec)

/-- 'laws.FnExactStmtReads', WHERE WHAT IT READS IS OF BULK AT MOST 1048576: true; the input reads as it did. -/
def fnExactStmtReadsUptoRow : OpenClaim := { program := "ytjbgjhcljmikcaa", sum := "761d814216dfe8750729b4f93a72a878eeb5646a84d92ee57bf669a0e46874c0", func := "loop.example/wholethreads/laws.FnExactStmtReads", spec := "fnExactStmtReads", apart := false, narrowed := true }
def FnExactStmtReadsUptoSaid : Prop := fnExactStmtReadsUptoRow.holds Try.pinned (OpenSpec.upto fnExactStmtReadsSpec)

/-- 'laws.FnExactStmtSets', WHERE WHAT IT READS IS OF BULK AT MOST 1048576: true; the input reads as it did. -/
def fnExactStmtSetsUptoRow : OpenClaim := { program := "ytjbgjhcljmikcaa", sum := "761d814216dfe8750729b4f93a72a878eeb5646a84d92ee57bf669a0e46874c0", func := "loop.example/wholethreads/laws.FnExactStmtSets", spec := "fnExactStmtSets", apart := false, narrowed := true }
def FnExactStmtSetsUptoSaid : Prop := fnExactStmtSetsUptoRow.holds Try.pinned (OpenSpec.upto fnExactStmtSetsSpec)

/-- 'laws.FnExactStmtPlace', WHERE WHAT IT READS IS OF BULK AT MOST 1048576: true; the input reads as it did. -/
def fnExactStmtPlaceUptoRow : OpenClaim := { program := "ytjbgjhcljmikcaa", sum := "761d814216dfe8750729b4f93a72a878eeb5646a84d92ee57bf669a0e46874c0", func := "loop.example/wholethreads/laws.FnExactStmtPlace", spec := "fnExactStmtPlace", apart := false, narrowed := true }
def FnExactStmtPlaceUptoSaid : Prop := fnExactStmtPlaceUptoRow.holds Try.pinned (OpenSpec.upto fnExactStmtPlaceSpec)

/-- 'laws.FnExactStmtWrites', WHERE WHAT IT READS IS OF BULK AT MOST 1048576: true; the input reads as it did. -/
def fnExactStmtWritesUptoRow : OpenClaim := { program := "ytjbgjhcljmikcaa", sum := "761d814216dfe8750729b4f93a72a878eeb5646a84d92ee57bf669a0e46874c0", func := "loop.example/wholethreads/laws.FnExactStmtWrites", spec := "fnExactStmtWrites", apart := false, narrowed := true }
def FnExactStmtWritesUptoSaid : Prop := fnExactStmtWritesUptoRow.holds Try.pinned (OpenSpec.upto fnExactStmtWritesSpec)

/-- 'laws.FnExactConflict', WHERE WHAT IT READS IS OF BULK AT MOST 1048576: true; the input reads as it did. -/
def fnExactConflictUptoRow : OpenClaim := { program := "ytjbgjhcljmikcaa", sum := "761d814216dfe8750729b4f93a72a878eeb5646a84d92ee57bf669a0e46874c0", func := "loop.example/wholethreads/laws.FnExactConflict", spec := "fnExactConflict", apart := false, narrowed := true }
def FnExactConflictUptoSaid : Prop := fnExactConflictUptoRow.holds Try.pinned (OpenSpec.upto fnExactConflictSpec)

/-- 'laws.FnExactWithout', WHERE WHAT IT READS IS OF BULK AT MOST 1048576: true; the input reads as it did. -/
def fnExactWithoutUptoRow : OpenClaim := { program := "ytjbgjhcljmikcaa", sum := "761d814216dfe8750729b4f93a72a878eeb5646a84d92ee57bf669a0e46874c0", func := "loop.example/wholethreads/laws.FnExactWithout", spec := "fnExactWithout", apart := false, narrowed := true }
def FnExactWithoutUptoSaid : Prop := fnExactWithoutUptoRow.holds Try.pinned (OpenSpec.upto fnExactWithoutSpec)

/-- 'laws.FnExactWith', WHERE WHAT IT READS IS OF BULK AT MOST 1048576: true; the input reads as it did. -/
def fnExactWithUptoRow : OpenClaim := { program := "ytjbgjhcljmikcaa", sum := "761d814216dfe8750729b4f93a72a878eeb5646a84d92ee57bf669a0e46874c0", func := "loop.example/wholethreads/laws.FnExactWith", spec := "fnExactWith", apart := false, narrowed := true }
def FnExactWithUptoSaid : Prop := fnExactWithUptoRow.holds Try.pinned (OpenSpec.upto fnExactWithSpec)

end Rows
end Go.Proofs.Ytjbgjhcljmikcaa
