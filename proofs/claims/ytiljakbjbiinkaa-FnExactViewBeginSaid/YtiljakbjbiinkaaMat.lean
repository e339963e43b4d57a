/-
  Lists of lists of values in memory: how they read, and what it means that a call owns them. No walk is made here.
-/
import Derived.Test.YtiljakbjbiinkaaVs
namespace Go.Proofs.Ytiljakbjbiinkaa
open Go.RowKit Pl
set_option linter.unusedVariables false

/-- A slice's address leads to these rows, below block B. -/
def Vss (w : World) (B : Nat) (A : Option Addr) (V : List (List Value)) : Prop :=
  0 < V.length → ∃ b off, A = some ⟨b, off, none⟩ ∧ b < B ∧ ∀ (i : Nat) (vs : List Value), V[i]? = some vs → ∃ Ai ci, w.cell? ⟨b, off + i, none⟩ = some (.slice Ai vs.length ci) ∧ Vs w B Ai vs
theorem Vss.keep {w w' : World} {B B' : Nat} {A : Option Addr} {V : List (List Value)} (h : Vss w B A V) (hB : B ≤ B') (hk : ∀ b o, b < B → w'.cell? ⟨b, o, none⟩ = w.cell? ⟨b, o, none⟩) : Vss w' B' A V := fun hn => by
  obtain ⟨b, off, hA, hb, hx⟩ := h hn
  refine ⟨b, off, hA, by omega, fun i vs hi => ?_⟩
  obtain ⟨Ai, ci, hc, hr⟩ := hx i vs hi
  exact ⟨Ai, ci, (hk b _ hb).trans hc, hr.keep hB hk⟩
theorem Vss.below {w w' : World} {B B' : Nat} {A : Option Addr} {V : List (List Value)} (h : Vss w B A V) (hb : Below B' w w') (hB : B ≤ B') : Vss w' B A V :=
  h.keep (Nat.le_refl _) fun b o hlt => hb.cell (p := ⟨b, o, none⟩) (by show b < B'; omega)
theorem Vss.up {w w' : World} {B B' B'' : Nat} {A : Option Addr} {V : List (List Value)} (h : Vss w B A V) (hb : Below B' w w') (hB : B ≤ B') (hB2 : B ≤ B'') : Vss w' B'' A V :=
  h.keep hB2 fun b o hlt => hb.cell (p := ⟨b, o, none⟩) (by show b < B'; omega)
theorem Vss.at_ {w : World} {B : Nat} {A : Option Addr} {V : List (List Value)} (h : Vss w B A V) {i : Nat} {vs : List Value} (hi : V[i]? = some vs) :
    ∃ b off Ai ci, A = some ⟨b, off, none⟩ ∧ b < B ∧ w.cell? ⟨b, off + i, none⟩ = some (.slice Ai vs.length ci) ∧ Vs w B Ai vs := by
  have hl := (List.getElem?_eq_some_iff.1 hi).1
  obtain ⟨b, off, hA, hb, hx⟩ := h (by omega)
  obtain ⟨Ai, ci, hc, hr⟩ := hx i vs hi
  exact ⟨b, off, Ai, ci, hA, hb, hc, hr⟩

/-- Rows of the call's own: each in a block that no other one has. -/
def OwnVss (w : World) (lo hi : Nat) (t te : TypeId) (A : Option Addr) (V : List (List Value)) : Prop :=
  0 < V.length → ∃ (g : Nat) (cs : Array Value) (D : Nat → Option Addr) (C : Nat → Nat), A = some ⟨g, 0, none⟩ ∧ lo ≤ g ∧ g < hi ∧ Bk w g t cs ∧
    (∀ (i : Nat) (vs : List Value), V[i]? = some vs → cs[i]? = some (.slice (D i) vs.length (C i)) ∧ OwnVs w lo hi te (D i) vs) ∧
    ∀ i j vs us, i < j → V[i]? = some vs → V[j]? = some us → 0 < vs.length → 0 < us.length → D i ≠ D j
theorem OwnVss.vss {w : World} {lo hi : Nat} {t te : TypeId} {A : Option Addr} {V : List (List Value)} (h : OwnVss w lo hi t te A V) : Vss w hi A V := fun hn => by
  obtain ⟨g, cs, D, C, hA, _, hg, hb, hx, _⟩ := h hn
  exact ⟨g, 0, hA, hg, fun i vs hi => ⟨D i, C i, by rw [Nat.zero_add]; exact (hb.cell i).trans (hx i vs hi).1, (hx i vs hi).2.vs⟩⟩
theorem OwnVss.keep {w w' : World} {lo hi lo' hi' : Nat} {t te : TypeId} {A : Option Addr} {V : List (List Value)} (h : OwnVss w lo hi t te A V) (hl : lo' ≤ lo) (hh : hi ≤ hi') (hk : ∀ i, lo ≤ i → i < hi → w'.heap[i]? = w.heap[i]?) : OwnVss w' lo' hi' t te A V := fun hn => by
  obtain ⟨g, cs, D, C, hA, h0, hg, hb, hx, hd⟩ := h hn
  exact ⟨g, cs, D, C, hA, by omega, by omega, (hk g h0 hg).trans hb, fun i vs hi => ⟨(hx i vs hi).1, (hx i vs hi).2.keep hl hh hk⟩, hd⟩
theorem OwnVss.below {w w' : World} {lo hi B : Nat} {t te : TypeId} {A : Option Addr} {V : List (List Value)} (h : OwnVss w lo hi t te A V) (hb : Below B w w') (hB : hi ≤ B) : OwnVss w' lo hi t te A V :=
  h.keep (Nat.le_refl _) (Nat.le_refl _) fun i _ hi => hb.block i (by omega)
theorem OwnVss.nil (w : World) (lo hi : Nat) (t te : TypeId) (A : Option Addr) : OwnVss w lo hi t te A [] := fun h => absurd h (by simp)

/-- How many values there are in all rows. -/
def tot {α : Type} (L : List (List α)) : Nat := (L.map List.length).sum
theorem tot_cons {α : Type} (x : List α) (r : List (List α)) : tot (x :: r) = x.length + tot r := by simp [tot]
theorem tot_take_succ {α : Type} {L : List (List α)} {k : Nat} {xs : List α} (h : L[k]? = some xs) : tot (L.take (k + 1)) = tot (L.take k) + xs.length := by
  rw [List.take_add_one, h]
  simp [tot]
theorem tot_take_le {α : Type} (L : List (List α)) (k : Nat) : tot (L.take k) ≤ tot L := by
  have : tot L = tot (L.take k) + tot (L.drop k) := by
    simp only [tot, List.map_take, List.map_drop]
    rw [← List.sum_append, List.take_append_drop]
  omega
theorem tot_mem {α : Type} {L : List (List α)} {k : Nat} {xs : List α} (h : L[k]? = some xs) : xs.length ≤ tot L := by
  have := tot_take_succ h
  have := tot_take_le L (k + 1)
  omega
end Go.Proofs.Ytiljakbjbiinkaa
