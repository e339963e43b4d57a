/-
  What it means that only known blocks have turned; boxes of one cell. No walk is made here.
-/
import Derived.Test.YtaghidaamcnpkaaOwn
import Derived.Deep.QuietTactic
import Derived.BigQuiet
namespace Go.Proofs.Ytaghidaamcnpkaa
open Go.RowKit Pl
set_option linter.unusedVariables false

/-- Only blocks from lo on, below hi, have turned (and what is new). -/
structure Only (lo hi : Nat) (w w' : World) : Prop where
  os : w'.os = w.os
  tape : w'.tape = w.tape
  output : w'.output = w.output
  size : w.heap.size ≤ w'.heap.size
  block : ∀ i, i < w.heap.size → (i < lo ∨ hi ≤ i) → w'.heap[i]? = w.heap[i]?
theorem Only.refl (lo hi : Nat) (w : World) : Only lo hi w w := ⟨rfl, rfl, rfl, Nat.le_refl _, fun _ _ _ => rfl⟩
theorem Only.trans {lo hi : Nat} {a b c : World} (h : Only lo hi a b) (k : Only lo hi b c) : Only lo hi a c :=
  ⟨k.os.trans h.os, k.tape.trans h.tape, k.output.trans h.output, Nat.le_trans h.size k.size, fun i hi ho => (k.block i (Nat.lt_of_lt_of_le hi h.size) ho).trans (h.block i hi ho)⟩
theorem Only.of_below {lo hi : Nat} {a b : World} (h : Below a.heap.size a b) : Only lo hi a b := ⟨h.os, h.tape, h.output, h.size, fun i hi _ => h.block i hi⟩
theorem Only.setCell {lo hi : Nat} {a b : World} (h : Only lo hi a b) {p : Addr} (h1 : lo ≤ p.block) (h2 : p.block < hi) (v : Value) : Only lo hi a (b.setCell p v) :=
  h.trans ⟨rfl, rfl, rfl, by rw [World.size_setCell]; exact Nat.le_refl _, fun i _ ho => Below.heap_setCell b p v i (by omega)⟩
theorem Only.to_below {lo hi B : Nat} {a b : World} (h : Only lo hi a b) (hB : B ≤ lo) (hs : B ≤ a.heap.size) : Below B a b := ⟨h.os, h.tape, h.output, h.size, fun i hi => h.block i (by omega) (Or.inl (by omega))⟩

theorem Only.mono {lo hi lo' hi' : Nat} {a b : World} (h : Only lo hi a b) (h1 : lo' ≤ lo) (h2 : hi ≤ hi') : Only lo' hi' a b := ⟨h.os, h.tape, h.output, h.size, fun i hi0 ho => h.block i hi0 (by omega)⟩
theorem only_bk {lo hi b : Nat} {t : TypeId} {cs : Array Value} {a w : World} (h : Bk a b t cs) (ho : Only lo hi a w) (hb : b < lo ∨ hi ≤ b) : Bk w b t cs := (ho.block b h.lt hb).trans h
theorem box_at {w : World} {b : Nat} {v : Value} {t : TypeId} (h : Bk w b t #[v]) : w.cell? ⟨b, 0, none⟩ = some v := h.cell 0
theorem box_kept {W V : World} {b : Nat} {v : Value} {t : TypeId} (k : Bk W b t #[v]) (h : Below W.heap.size W V) : V.cell? ⟨b, 0, none⟩ = some v := (k.below h k.lt).cell 0

theorem below_drewN {B : Nat} {w w' : World} (h : Below B w w') (q : Nat) : Below B w (w'.drewN q) := ⟨h.os, h.tape, h.output, h.size, h.block⟩
end Go.Proofs.Ytaghidaamcnpkaa
