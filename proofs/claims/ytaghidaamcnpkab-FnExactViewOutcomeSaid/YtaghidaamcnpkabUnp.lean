/-
  What the program's unpacked, beginWord, packed and able come to.
-/
import Derived.Test.YtaghidaamcnpkabKept
namespace Go.Proofs.Ytaghidaamcnpkab
open Go.RowKit Pl
set_option maxHeartbeats 4000000
set_option maxRecDepth 100000
set_option linter.unusedVariables false

/-- A row that was made at its full length. -/
def MadeE (w : World) (vs : List Value) (N : Int) (n : Nat) (e : Ending) (w' : World) : Prop :=
  ∃ g, e = .returned (.slice (some ⟨g, 0, none⟩) n n) ∧ w.heap.size ≤ g ∧ g < w'.heap.size ∧ Below w.heap.size w w' ∧ OwnVs w' g (g + 1) 3 (some ⟨g, 0, none⟩) vs
theorem entries_made (ws : List Nat) (j b : Nat) (f : Nat → Nat) (n : Nat) (N : Int) (hN : N = (n : Int)) (F : Fld ws j b) (h : okF ws f) (hn : n ≤ fC j) (w : World) :
    Calls Try.prog 105 #[.int .u64 (enc ws f : Nat), .int .i64 j, .int .i64 N] w (MadeE w (ints (fldI f b (fL j) n)) N n) := by
  subst hN
  refine (entries_any ws j b f n w F h hn).mono ?_
  rintro e w' ⟨rfl, hc⟩
  have hc' : CopyV w w' 3 (ints (fldI f b (fL j) n)) (ints (fldI f b (fL j) n)).length := by rw [ints_length, fldI_length]; exact hc
  exact ⟨_, rfl, Nat.le_refl _, hc.lt, hc.1, hc'.done⟩

/-- The state of a word. -/
def staF (L : Pg) (f : Nat → Nat) : Sta := ⟨fldI f 3 (fL 0) L.length, fldI f 6 (fL 1) (L.length * 3), fldI f 15 (fL 2) 3, fldI f 18 (fL 3) 2, fldI f 20 (fL 4) 2⟩

end Go.Proofs.Ytaghidaamcnpkab
