/-
  A class of worlds for regions whose operations read known blocks and call functions that only make memory: all worlds in which what was there is as it was, and some blocks of the call's own hold known cells.
-/
import Derived.Test.YtaghidaamcnpkaaOpen
import Derived.Deep.QuietTactic
import Derived.BigQuiet
import Derived.Laws.Rows
namespace Go.Proofs.Ytaghidaamcnpkaa
open Go.RowKit Pl

/-- Below w0's heap nothing has turned, and each listed block lies in memory with its cells. -/
structure Fr (w0 : World) (bs : List (Nat × Array Value)) (w' : World) : Prop where
  below : Below w0.heap.size w0 w'
  blocks : ∀ b cs, (b, cs) ∈ bs → b < w'.heap.size ∧ ∀ i, w'.cell? ⟨b, i, none⟩ = cs[i]?
theorem Fr.step {w0 V w1 : World} {bs : List (Nat × Array Value)} (h : Fr w0 bs V) (hb : Below V.heap.size V w1) : Fr w0 bs w1 :=
  ⟨h.below.trans (hb.mono h.below.size), fun b cs hm => by
    obtain ⟨hl, hc⟩ := h.blocks b cs hm
    exact ⟨Nat.lt_of_lt_of_le hl hb.size, fun i => (hb.cell (p := ⟨b, i, none⟩) hl).trans (hc i)⟩⟩
theorem Fr.drew {w0 V : World} {bs : List (Nat × Array Value)} (h : Fr w0 bs V) : Fr w0 bs V.drew :=
  h.step (V := V) ((Below.refl _ _).drew)
theorem below_on {W V w1 : World} (h : Below W.heap.size W V) (hb : Below V.heap.size V w1) : Below W.heap.size W w1 := h.trans (hb.mono h.size)
/-- A world of the class S. -/
structure Ws (S : World → Prop) where
  val : World
  ok : S val
/-- The class. -/
abbrev In (S : World → Prop) : World → Prop := fun w' => ∃ x : Ws S, w' = x.val
theorem In.mk {S : World → Prop} {w : World} (h : S w) : In S w := ⟨⟨w, h⟩, rfl⟩
/-- A region that draws its order, over the class. -/
theorem region_in {S : World → Prop} {id : Nat} {l : List Oper} {Q : Exit → Act → World → Prop} {a : Act} {w : World} (hB : Region.lexB .any l.toArray = true) (hC : S w.drew)
    (h : wpQuiet Try.prog l.toArray (In S) (fun a' => ∀ w', In S w' → Q .normal a' w') l a) : (Code.region id l.toArray true).wp Try.prog Q a w :=
  wp_region_quiet (by kernel_rfl) hB (In.mk hC) h
/-- A callee that makes memory and no more, met in the class. -/
theorem call_in {w0 : World} {bs : List (Nat × Array Value)} {f : FuncId} {args : Array Value} {v : Value} {x : Ws (Fr w0 bs)}
    (h : Calls Try.prog f args x.val fun e w' => e = .returned v ∧ Below x.val.heap.size x.val w') : Calls Try.prog f args x.val fun e w'' => e = .returned v ∧ ∃ y : Ws (Fr w0 bs), w'' = y.val :=
  h.mono fun _ w' ⟨he, hb⟩ => ⟨he, ⟨w', x.ok.step hb⟩, rfl⟩

/-- A contract's bool, written out. -/
theorem ret_bool {f : FuncId} {args : Array Value} {v b : Bool} {w : World} {R : World → Prop} (h : v = b) (c : Calls Try.prog f args w fun e w' => e = .returned (.bool v) ∧ R w') :
    Calls Try.prog f args w fun e w' => e = .returned (.bool b) ∧ R w' := by rw [← h]; exact c
theorem Ws.cells {w0 : World} {bs : List (Nat × Array Value)} (b : Nat) (cs : Array Value) (hm : (b, cs) ∈ bs) : ∀ (x : Ws (Fr w0 bs)) (i : Nat), x.val.cell? ⟨b, i, none⟩ = cs[i]? := fun x i => (x.ok.blocks _ _ hm).2 i

/-- In each world of the class what was there is as it was. -/
theorem Ws.same {w0 : World} {bs : List (Nat × Array Value)} {b o : Nat} {v : Value} (hb : b < w0.heap.size) (h : w0.cell? ⟨b, o, none⟩ = some v) : ∀ x : Ws (Fr w0 bs), x.val.cell? ⟨b, o, none⟩ = some v :=
  fun x => (x.ok.below.cell (p := ⟨b, o, none⟩) hb).trans h
theorem fr_none (w : World) : Fr w [] w := ⟨Below.refl _ _, fun _ _ hm => absurd hm (by simp)⟩

end Go.Proofs.Ytaghidaamcnpkaa
