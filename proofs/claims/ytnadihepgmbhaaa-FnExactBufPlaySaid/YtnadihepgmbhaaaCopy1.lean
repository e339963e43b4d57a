/-
  The contract of the reference model's l1Copy: a copy in memory of the call's own.
-/
import Derived.Test.YtnadihepgmbhaaaWithout
import Derived.Test.YtnadihepgmbhaaaSpecOk
import Derived.Deep.AppendLies
namespace Go.Proofs.Ytnadihepgmbhaaa
open Go.RowKit Pl
set_option maxHeartbeats 400000
set_option linter.unusedVariables false

/-- The headers of threads of the call's own. -/
def HeadsIn (w : World) (lo hi : Nat) (hs : List Value) (L : List (List Sm)) : Prop :=
  hs.length = L.length ∧ ∀ (i : Nat) (xs : List Sm), L[i]? = some xs → ∃ Ai ci, hs[i]? = some (.slice Ai xs.length ci) ∧ xs.length ≤ ci ∧ ci ≤ maxLen ∧ (Ai = none → ci = 0) ∧ OwnRow w lo hi Ai xs
theorem HeadsIn.keep {w w' : World} {lo hi lo' hi' : Nat} {hs : List Value} {L : List (List Sm)} (h : HeadsIn w lo hi hs L) (hl : lo' ≤ lo) (hh : hi ≤ hi') (hk : ∀ i cs, lo ≤ i → i < hi → Bk w i 119 cs → w'.heap[i]? = w.heap[i]?) : HeadsIn w' lo' hi' hs L := by
  refine ⟨h.1, fun i xs hi => ?_⟩
  obtain ⟨Ai, ci, g0, g1, g2, g3, g4⟩ := h.2 i xs hi
  refine ⟨Ai, ci, g0, g1, g2, g3, fun hn => ?_⟩
  obtain ⟨g, cs, hA, h0, hg, hb, hx⟩ := g4 hn
  exact ⟨g, cs, hA, by omega, by omega, (hk g cs h0 hg hb).trans hb, hx⟩
theorem HeadsIn.nil (w : World) (lo hi : Nat) : HeadsIn w lo hi [] [] := ⟨rfl, fun i xs hi => by simp at hi⟩

/-- What l1Copy has come to behind k threads: block W.heap.size is the copy. -/
def CpO (W wr : World) (L : List (List Sm)) (k : Nat) : Prop :=
  Below W.heap.size W wr ∧ ∃ A c hs, Bk wr W.heap.size 36 #[.slice A k c] ∧ wr.ownsRow (W.heap.size + 1) 116 1 (.slice A k c) k hs ∧ HeadsIn wr (W.heap.size + 1) wr.heap.size hs (L.take k)

theorem grown_of_below {w w' : World} (h : Below w.heap.size w w') (row : Option Nat) : w.grownBy w' row := ⟨h.os, h.tape, h.output, h.size, fun i hi _ => h.block i hi⟩
theorem owns_block {w : World} {base size n : Nat} {e : TypeId} {v : Value} {zs : List Value} (h : w.ownsRow base e size v n zs) {q : Nat} (hq : some q = v.ownBlock) : base ≤ q ∧ q < w.heap.size ∧ ∃ cur, Bk w q e cur := by
  rcases h.2 with ⟨rfl, _⟩ | ⟨g', cap', cur, rfl, hb, hh, _⟩
  · simp [Value.ownBlock] at hq
  · simp [Value.ownBlock] at hq
    subst hq
    exact ⟨hb, Bk.lt hh, cur, hh⟩
theorem cell_new1 (w : World) (v : Value) (t : TypeId) : ∀ j u, [v][j]? = some u → (w.alloc (.cells #[v] t)).cell? ((⟨w.heap.size, 0, none⟩ : Addr).add j) = some u := by
  intro j u hj
  rw [addr_add', Nat.zero_add]
  have := (Bk.new w #[v] t).cell j
  rw [this, ← hj]
  simp

/-- What the reference model's copy comes to. -/
def CopyI (w : World) (L : List (List Sm)) (e : Ending) (w' : World) : Prop :=
  ∃ A c hs, e = .returned (.agg #[.slice A L.length c]) ∧ Below w.heap.size w w' ∧ w'.ownsRow w.heap.size 116 1 (.slice A L.length c) L.length hs ∧ HeadsIn w' w.heap.size w'.heap.size hs L

end Go.Proofs.Ytnadihepgmbhaaa
