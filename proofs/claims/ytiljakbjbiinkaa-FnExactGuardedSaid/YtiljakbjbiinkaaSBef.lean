/-
  What the reference model's l4Before and Before come to.
-/
import Derived.Test.YtiljakbjbiinkaaIBef
import Derived.Test.YtiljakbjbiinkaaDep3
import Derived.Deep.RegionHeld3
import Derived.Deep.AppendLies
namespace Go.Proofs.Ytiljakbjbiinkaa
open Go.RowKit Pl Go.BigFrame
set_option maxHeartbeats 4000000
set_option maxRecDepth 100000
set_option linter.unusedVariables false

end Go.Proofs.Ytiljakbjbiinkaa
namespace Go.Proofs.Ytiljakbjbiinkaa
open Go.RowKit Pl Go.BigFrame
set_option maxHeartbeats 4000000
set_option maxRecDepth 100000
set_option linter.unusedVariables false

theorem RowB.drew {wo wr : World} {n q : Nat} {f : Nat → Bool} (h : RowB wo wr n q f) : RowB wo wr.drew n q f := by
  obtain ⟨h0, cs, hbk, h1, h2⟩ := h
  exact ⟨h0.trans ⟨rfl, rfl, rfl, Nat.le_refl _, fun _ _ => rfl⟩, cs, hbk, h1, h2⟩
theorem Vs.ev2 {w : World} {B : Nat} {A : Option Addr} {l : Evts} (h : Vs w B A (evs l)) {i q : Nat} (hi : i < l.length) (hq : q < l.length) :
    ∃ b off, A = some ⟨b, off, none⟩ ∧ b < B ∧ EvAt w b (off + i * 7) (gE l i) ∧ EvAt w b (off + q * 7) (gE l q) := by
  obtain ⟨b, off, hA, hb, hx⟩ := h (by rw [evs_length]; omega)
  have key : ∀ k, k < l.length → EvAt w b (off + k * 7) (gE l k) := fun k hk => by
    have h1 : l[k]? = some (gE l k) := by simp [gE, List.getD, hk]
    have q := fun i v hv => hx (k * 7 + i) v (evs_at h1 i v hv)
    exact ⟨q 0 _ rfl, q 1 _ rfl, q 2 _ rfl, q 3 _ rfl, q 4 _ rfl, q 5 _ rfl, q 6 _ rfl⟩
  exact ⟨b, off, hA, hb, key i hi, key q hq⟩
/-- A table of the call's own. -/
def AnsT (w : World) (o : List (List Bool)) (e : Ending) (w' : World) : Prop :=
  ∃ k : BssH, e = .returned (BssV k o) ∧ Below w.heap.size w w' ∧ w.heap.size ≤ w'.heap.size ∧ BssO w' w.heap.size w'.heap.size k o
/-- What the first loop has come to. -/
def P1 (w wr : World) (l : Evts) (v : Value) (k : Nat) : Prop :=
  ∃ g cap D, v = .slice (some ⟨g, 0, none⟩) k cap ∧ w.heap.size ≤ g ∧ wr.ownsRow w.heap.size 62 1 (.slice (some ⟨g, 0, none⟩) k cap) k (heads l.length k D) ∧ Tab wr w.heap.size wr.heap.size l.length k D (dU l) ∧ Below w.heap.size w wr
theorem cell_one (w : World) (v : Value) (t : TypeId) : ∀ j u, [v][j]? = some u → (w.alloc (.cells #[v] t)).cell? ((⟨w.heap.size, 0, none⟩ : Addr).add j) = some u := cell1_new w v t
theorem p1_next {w wo wr w4 : World} {l : Evts} {k g cap : Nat} {D : Nat → Nat} {hs : List Value} {o : Obj} (hbel : Below w.heap.size w wo) (htab : Tab wo w.heap.size wo.heap.size l.length k D (dU l)) (hrow : RowB wo wr l.length l.length (dU l k))
    (own : wo.ownsRow w.heap.size 62 1 (.slice (some ⟨g, 0, none⟩) k cap) k hs) (grow4 : (wr.alloc o).grownBy w4 (Value.slice (some ⟨g, 0, none⟩) k cap).ownBlock) :
    Tab w4 w.heap.size w4.heap.size l.length (k + 1) (fun i => if i = k then wo.heap.size else D i) (dU l) ∧ Below w.heap.size w w4 := by
  obtain ⟨hr0, cs, hbk, hsz, hc⟩ := hrow
  obtain ⟨g0, g1, cu, hcu⟩ := owns_block own (q := g) rfl
  have hz1 := hbel.size
  have hz2 := hr0.size
  have hz4 : wr.heap.size + 1 ≤ w4.heap.size := by have := grow4.size; simpa using this
  have hlt := hbk.lt
  have h4 : ∀ z, z < wr.heap.size → z ≠ g → w4.heap[z]? = wr.heap[z]? := fun z hz hne => (grow4.block z (by simp; omega) (fun e => hne (by injection e))).trans (Below.heap_alloc wr o z hz)
  have hB : Below w.heap.size w w4 := ((below_on hbel hr0).alloc (by omega) o).grown grow4 (by simp; omega) (fun q hq => by cases hq; omega)
  refine ⟨(htab.keep (Nat.le_refl _) (Nat.le_refl _) fun z cz a b hz => ?_).snoc (Nat.le_refl _) hz1 (by omega) ((h4 wo.heap.size hlt (by omega)).trans hbk) hsz fun j hj => ?_, hB⟩
  · refine (h4 z (by omega) fun e => ?_).trans (hr0.block z b)
    subst e
    unfold Bk at hz hcu
    rw [hcu] at hz
    injection hz with hz
    injection hz with _ hz
    cases hz
  · rw [hc j hj, decide_eq_true hj, Bool.true_and]
end Go.Proofs.Ytiljakbjbiinkaa
