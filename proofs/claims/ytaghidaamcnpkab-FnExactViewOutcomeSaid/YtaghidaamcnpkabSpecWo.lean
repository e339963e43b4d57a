/-
  The contract of the reference model's Without, over the same plain lists as the program's.
-/
import Derived.Test.YtaghidaamcnpkabCopy1
namespace Go.Proofs.Ytaghidaamcnpkab
open Go.RowKit Pl
set_option maxHeartbeats 400000
set_option linter.unusedVariables false

/-- The threads of a program of the call's own, blocks perhaps shared. -/
def InRows (w : World) (lo hi : Nat) (A : Option Addr) (L : List (List Sm)) : Prop :=
  0 < L.length → ∃ (g : Nat) (cs : Array Value), A = some ⟨g, 0, none⟩ ∧ lo ≤ g ∧ g < hi ∧ Bk w g 111 cs ∧
    ∀ (i : Nat) (xs : List Sm), L[i]? = some xs → ∃ Ai ci, cs[i]? = some (.slice Ai xs.length ci) ∧ xs.length ≤ ci ∧ ci ≤ maxLen ∧ (Ai = none → ci = 0) ∧ OwnRow w lo hi Ai xs
theorem InRows.rows {w : World} {lo hi : Nat} {A : Option Addr} {L : List (List Sm)} (h : InRows w lo hi A L) : Rows2 w hi A L := fun hn => by
  obtain ⟨g, cs, hA, _, hg, hb, hx⟩ := h hn
  refine ⟨g, 0, hA, hg, fun i xs hi => ?_⟩
  obtain ⟨Ai, ci, g0, g1, g2, g3, g4⟩ := hx i xs hi
  exact ⟨Ai, ci, by rw [Nat.zero_add]; exact (hb.cell i).trans g0, g1, g2, g3, g4.row⟩
theorem InRows.keep {w w' : World} {lo hi lo' hi' : Nat} {A : Option Addr} {L : List (List Sm)} (h : InRows w lo hi A L) (hl : lo' ≤ lo) (hh : hi ≤ hi') (hk : ∀ i, lo ≤ i → i < hi → w'.heap[i]? = w.heap[i]?) : InRows w' lo' hi' A L := fun hn => by
  obtain ⟨g, cs, hA, h0, hg, hb, hx⟩ := h hn
  refine ⟨g, cs, hA, by omega, by omega, (hk g h0 hg).trans hb, fun i xs hi => ?_⟩
  obtain ⟨Ai, ci, g0, g1, g2, g3, g4⟩ := hx i xs hi
  exact ⟨Ai, ci, g0, g1, g2, g3, g4.keep hl hh hk⟩
theorem InRows.below {w w' : World} {lo hi : Nat} {A : Option Addr} {L : List (List Sm)} {B : Nat} (h : InRows w lo hi A L) (hb : Below B w w') (hB : hi ≤ B) : InRows w' lo hi A L :=
  h.keep (Nat.le_refl _) (Nat.le_refl _) fun i _ hi => hb.block i (by omega)
theorem OwnRows2.inRows {w : World} {lo hi : Nat} {A : Option Addr} {L : List (List Sm)} (h : OwnRows2 w lo hi A L) : InRows w lo hi A L := fun hn => by
  obtain ⟨g, cs, D, C, hA, h0, hg, hb, hx, _⟩ := h hn
  exact ⟨g, cs, hA, h0, hg, hb, fun i xs hi => ⟨D i, C i, hx i xs hi⟩⟩
/-- The reference model's answer. -/
def AnswerI (w : World) (E : List (List Sm)) (ok : Bool) (e : Ending) (w' : World) : Prop :=
  ∃ A c, e = .returned (.tuple #[.agg #[.slice A E.length c], .bool ok]) ∧ Below w.heap.size w w' ∧ InRows w' w.heap.size w'.heap.size A E

theorem erase_on {xs : List Sm} {m a : Nat} {x : Sm} (hx : xs[m]? = some x) (h : m ≠ a) : (xs.take (m + 1)).eraseIdx a = (xs.take m).eraseIdx a ++ [x] := by
  have hm : m < xs.length := (List.getElem?_eq_some_iff.1 hx).1
  have e : xs.take (m + 1) = xs.take m ++ [x] := by rw [List.take_add_one, hx]; rfl
  have hl : (xs.take m).length = m := by rw [List.length_take]; omega
  rw [e]
  rcases Nat.lt_or_ge a m with h1 | h1
  · rw [List.eraseIdx_append_of_lt_length (by omega)]
  · rw [List.eraseIdx_of_length_le (by rw [List.length_append, hl, List.length_singleton]; omega), List.eraseIdx_of_length_le (by omega)]
theorem erase_skip {xs : List Sm} {m : Nat} {x : Sm} (hx : xs[m]? = some x) : (xs.take (m + 1)).eraseIdx m = (xs.take m).eraseIdx m := by
  have hm : m < xs.length := (List.getElem?_eq_some_iff.1 hx).1
  have e : xs.take (m + 1) = xs.take m ++ [x] := by rw [List.take_add_one, hx]; rfl
  have hl : (xs.take m).length = m := by rw [List.length_take]; omega
  rw [e, List.eraseIdx_append_of_length_le (by omega), hl, Nat.sub_self, List.eraseIdx_of_length_le (by omega : (xs.take m).length ≤ m)]
  simp

theorem put_done {w2 w4 : World} {L : List (List Sm)} {hs : List Value} {lo gc cc g cap k : Nat} {zs : List Sm} (own2 : w2.ownsRow lo 111 1 (.slice (some ⟨gc, 0, none⟩) L.length cc) L.length hs) (hh : HeadsIn w2 lo w2.heap.size hs L)
    (b24 : Below w2.heap.size w2 w4) (hl : w4.ownsRow w2.heap.size 107 5 (.slice (some ⟨g, 0, none⟩) zs.length cap) zs.length (flat zs)) (hlo : lo ≤ w2.heap.size) :
    InRows (w4.setCell ⟨gc, k, none⟩ (.slice (some ⟨g, 0, none⟩) zs.length cap)) lo w4.heap.size (some ⟨gc, 0, none⟩) (L.set k zs) := fun hn => by
  rcases own2.2 with ⟨h0, _⟩ | ⟨gc', cc', cur, hv, hb, hh0, h1, h2, h3, htake⟩
  · simp at h0
  simp only [Value.slice.injEq, Option.some.injEq, Addr.mk.injEq, and_true, true_and] at hv
  obtain ⟨rfl, rfl⟩ := hv
  have hbk : Bk w2 gc 111 cur := hh0
  have hlt := hbk.lt
  obtain ⟨c1, c2, c3, cu, hcu⟩ := owns_cap hl
  have hcl := hcu.lt
  have hset : ∀ i, i ≠ gc → (w4.setCell ⟨gc, k, none⟩ (.slice (some ⟨g, 0, none⟩) zs.length cap)).heap[i]? = w4.heap[i]? := fun i hi => Below.heap_setCell w4 ⟨gc, k, none⟩ _ i hi
  have hz := b24.size
  refine ⟨gc, _, rfl, hb, by omega, (hbk.below b24 hlt).set _ _, fun i ys hi => ?_⟩
  have hcur : ∀ (j : Nat) (u : Value), hs[j]? = some u → cur[j]? = some u := by
    intro j u hj
    rw [← htake, List.getElem?_take] at hj
    split at hj
    · simpa using hj
    · cases hj
  by_cases e : i = k
  · subst e
    have hiL : i < L.length := by
      have := (List.getElem?_eq_some_iff.1 hi).1
      simpa using this
    obtain rfl : zs = ys := by rw [List.getElem?_set_self hiL] at hi; injection hi
    refine ⟨some ⟨g, 0, none⟩, cap, ?_, c1, c2, (fun e0 => by cases e0), ?_⟩
    · rw [Array.getElem?_setIfInBounds_self_of_lt (by omega)]
    · exact (own_row hl c3).keep (by omega) (by omega) fun j hj hj2 => hset j (by omega)
  · rw [List.getElem?_set_ne (by omega)] at hi
    obtain ⟨Ai, ci, g0, g1, g2, g3, g5⟩ := hh.2 i ys hi
    refine ⟨Ai, ci, by rw [Array.getElem?_setIfInBounds_ne (by omega)]; exact hcur _ _ g0, g1, g2, g3, fun hn2 => ?_⟩
    obtain ⟨q, cs, hA, h5, h6, h7, h8⟩ := g5 hn2
    refine ⟨q, cs, hA, h5, by omega, ((hset q (fun e1 => ?_)).trans (b24.block q h6)).trans h7, h8⟩
    subst e1
    unfold Bk at hbk h7
    rw [hbk] at h7
    injection h7 with h7
    injection h7 with _ h7
    cases h7

end Go.Proofs.Ytaghidaamcnpkab
