/-
  The contract of the reference model's l1Copy: a copy in memory of the call's own.
-/
import Derived.Test.YtaghidaamcnpkabSpecOk
import Derived.Deep.AppendLies
namespace Go.Proofs.Ytaghidaamcnpkab
open Go.RowKit Pl
set_option maxHeartbeats 400000
set_option linter.unusedVariables false

/-- The headers of threads of the call's own. -/
def HeadsIn (w : World) (lo hi : Nat) (hs : List Value) (L : List (List Sm)) : Prop :=
  hs.length = L.length ∧ ∀ (i : Nat) (xs : List Sm), L[i]? = some xs → ∃ Ai ci, hs[i]? = some (.slice Ai xs.length ci) ∧ xs.length ≤ ci ∧ ci ≤ maxLen ∧ (Ai = none → ci = 0) ∧ OwnRow w lo hi Ai xs
theorem HeadsIn.keep {w w' : World} {lo hi lo' hi' : Nat} {hs : List Value} {L : List (List Sm)} (h : HeadsIn w lo hi hs L) (hl : lo' ≤ lo) (hh : hi ≤ hi') (hk : ∀ i cs, lo ≤ i → i < hi → Bk w i 107 cs → w'.heap[i]? = w.heap[i]?) : HeadsIn w' lo' hi' hs L := by
  refine ⟨h.1, fun i xs hi => ?_⟩
  obtain ⟨Ai, ci, g0, g1, g2, g3, g4⟩ := h.2 i xs hi
  refine ⟨Ai, ci, g0, g1, g2, g3, fun hn => ?_⟩
  obtain ⟨g, cs, hA, h0, hg, hb, hx⟩ := g4 hn
  exact ⟨g, cs, hA, by omega, by omega, (hk g cs h0 hg hb).trans hb, hx⟩
theorem HeadsIn.nil (w : World) (lo hi : Nat) : HeadsIn w lo hi [] [] := ⟨rfl, fun i xs hi => by simp at hi⟩

theorem cells_one (x : Sm) : ∀ u ∈ x.cells, u.oneCell' = true := by
  intro u hu
  simp [Sm.cells] at hu
  rcases hu with rfl | rfl | rfl | rfl | rfl <;> rfl
theorem flat_snoc {xs : List Sm} {m : Nat} {x : Sm} (h : xs[m]? = some x) : flat (xs.take (m + 1)) = flat (xs.take m) ++ x.cells := by
  rw [List.take_add_one, h, flat_append]
  simp [flat]
theorem cells_new (w : World) (x : Sm) : ∀ j u, x.cells[j]? = some u → (w.alloc (.cells #[.int .i64 x.k, .int .i64 x.a, .int .i64 x.b, .int .i64 x.c, .bool x.s] 107)).cell? ((⟨w.heap.size, 0, none⟩ : Addr).add j) = some u := by
  intro j u hj
  rw [addr_add', Nat.zero_add]
  have := (Bk.new w #[.int .i64 x.k, .int .i64 x.a, .int .i64 x.b, .int .i64 x.c, .bool x.s] 107).cell j
  rw [this, ← hj]
  simp [Sm.cells]

/-- What l1Copy has come to behind k threads: block W.heap.size is the copy. -/
def CpO (W wr : World) (L : List (List Sm)) (k : Nat) : Prop :=
  Below W.heap.size W wr ∧ ∃ A c hs, Bk wr W.heap.size 32 #[.slice A k c] ∧ wr.ownsRow (W.heap.size + 1) 111 1 (.slice A k c) k hs ∧ HeadsIn wr (W.heap.size + 1) wr.heap.size hs (L.take k)

theorem grown_of_below {w w' : World} (h : Below w.heap.size w w') (row : Option Nat) : w.grownBy w' row := ⟨h.os, h.tape, h.output, h.size, fun i hi _ => h.block i hi⟩
theorem owns_cap {w : World} {base size n cap g : Nat} {e : TypeId} {zs : List Value} (h : w.ownsRow base e size (.slice (some ⟨g, 0, none⟩) n cap) n zs) : n ≤ cap ∧ cap ≤ maxLen ∧ base ≤ g ∧ ∃ cur, Bk w g e cur := by
  rcases h.2 with ⟨h0, _⟩ | ⟨g', cap', cur, hv, hb, hh, h1, h2, _⟩
  · simp at h0
  · simp only [Value.slice.injEq, Option.some.injEq, Addr.mk.injEq, and_true, true_and] at hv
    obtain ⟨rfl, rfl⟩ := hv
    exact ⟨h1, h2, hb, cur, hh⟩
theorem owns_block {w : World} {base size n : Nat} {e : TypeId} {v : Value} {zs : List Value} (h : w.ownsRow base e size v n zs) {q : Nat} (hq : some q = v.ownBlock) : base ≤ q ∧ q < w.heap.size ∧ ∃ cur, Bk w q e cur := by
  rcases h.2 with ⟨rfl, _⟩ | ⟨g', cap', cur, rfl, hb, hh, _⟩
  · simp [Value.ownBlock] at hq
  · simp [Value.ownBlock] at hq
    subst hq
    exact ⟨hb, Bk.lt hh, cur, hh⟩
theorem out_kept {W wo w2 w4 : World} {k co : Nat} {Ao : Option Addr} {hs : List Value} {o : Obj} {cs : Array Value} {t : TypeId} (hbo : Bk wo W.heap.size t cs)
    (howno : wo.ownsRow (W.heap.size + 1) 111 1 (.slice Ao k co) k hs) (hb2 : Below wo.heap.size wo w2) (grow4 : (w2.alloc o).grownBy w4 (Value.slice Ao k co).ownBlock) : Bk w4 W.heap.size t cs := by
  have hlt := hbo.lt
  have hz2 := hb2.size
  have hrow : ∀ q, (Value.slice Ao k co).ownBlock = some q → W.heap.size + 1 ≤ q := fun q hq => (owns_block howno hq.symm).1
  exact ((grow4.block _ (by simp; omega) (fun e => by have := hrow _ e.symm; omega)).trans (Below.heap_alloc w2 o _ (by omega))).trans (hbo.below hb2 hlt)
theorem cpo_next {W wo w2 w4 : World} {L : List (List Sm)} {k g cap g4 cap4 co : Nat} {Ao : Option Addr} {hs : List Value} {xs : List Sm} {o : Obj} (h0 : Below W.heap.size W wo) (hbo : Bk wo W.heap.size 32 #[.slice Ao k co])
    (howno : wo.ownsRow (W.heap.size + 1) 111 1 (.slice Ao k co) k hs) (hh : HeadsIn wo (W.heap.size + 1) wo.heap.size hs (L.take k)) (hb2 : Below wo.heap.size wo w2)
    (hown : w2.ownsRow wo.heap.size 107 5 (.slice (some ⟨g, 0, none⟩) xs.length cap) xs.length (flat xs))
    (own4 : w4.ownsRow (W.heap.size + 1) 111 1 (.slice (some ⟨g4, 0, none⟩) (k + 1) cap4) (k + 1) (hs ++ [.slice (some ⟨g, 0, none⟩) xs.length cap]))
    (grow4 : (w2.alloc o).grownBy w4 (Value.slice Ao k co).ownBlock) (hx : L[k]? = some xs) : CpO W (w4.setCell ⟨W.heap.size, 0, none⟩ (.slice (some ⟨g4, 0, none⟩) (k + 1) cap4)) L (k + 1) := by
  have hk : k < L.length := (List.getElem?_eq_some_iff.1 hx).1
  have hz1 := h0.size
  have hz2 := hb2.size
  have hz4 : w2.heap.size + 1 ≤ w4.heap.size := by have := grow4.size; simpa using this
  have hlt := hbo.lt
  obtain ⟨hc1, hc2, hgb, cur, hcur⟩ := owns_cap hown
  have hgl := hcur.lt
  have hrow : ∀ q, (Value.slice Ao k co).ownBlock = some q → W.heap.size + 1 ≤ q ∧ q < wo.heap.size ∧ ∃ cu, Bk wo q 111 cu := fun q hq => owns_block howno hq.symm
  have hbel : Below W.heap.size W w4 := ((below_on h0 hb2).alloc (by omega) o).grown grow4 (by simp; omega) (fun q hq => by have := (hrow q hq).1; omega)
  have hset : ∀ i, i ≠ W.heap.size → (w4.setCell ⟨W.heap.size, 0, none⟩ (.slice (some ⟨g4, 0, none⟩) (k + 1) cap4)).heap[i]? = w4.heap[i]? := fun i hi => Below.heap_setCell w4 ⟨W.heap.size, 0, none⟩ _ i hi
  have h24 : ∀ i, i < w2.heap.size → some i ≠ (Value.slice Ao k co).ownBlock → w4.heap[i]? = w2.heap[i]? := fun i hi hne => (grow4.block i (by simp; omega) hne).trans (Below.heap_alloc w2 o i hi)
  have hbo4 : Bk w4 W.heap.size 32 #[.slice Ao k co] := (h24 _ (by omega) (fun e => by have := (hrow _ e.symm).1; omega)).trans (hbo.below hb2 hlt)
  have hlen : hs.length = k := by rw [hh.1, List.length_take]; omega
  refine ⟨hbel.setCell (Nat.le_refl _) _, _, _, _, by simpa using hbo4.set 0 (.slice (some ⟨g4, 0, none⟩) (k + 1) cap4), ownsRow_setCell_below own4 (by show W.heap.size < W.heap.size + 1; omega) _, ?_, ?_⟩
  · simp [hlen]; omega
  · intro i ys hi
    have hsz : (w4.setCell ⟨W.heap.size, 0, none⟩ (.slice (some ⟨g4, 0, none⟩) (k + 1) cap4)).heap.size = w4.heap.size := World.size_setCell ..
    rw [hsz]
    rw [List.getElem?_take] at hi
    split at hi
    · rename_i hik
      by_cases e : i = k
      · subst e
        obtain rfl : xs = ys := by rw [hx] at hi; injection hi
        refine ⟨some ⟨g, 0, none⟩, cap, by rw [List.getElem?_append_right (by omega), hlen]; simp, hc1, hc2, (fun e0 => by cases e0), ?_⟩
        exact (own_row hown hgb).keep (by omega) (by omega) fun j hj hj2 => (hset j (by omega)).trans (h24 j (by omega) (fun e => by have := (hrow _ e.symm).2.1; omega))
      · obtain ⟨Ai, ci, g0, g1, g2, g3, g5⟩ := hh.2 i ys (by rw [List.getElem?_take, if_pos (by omega)]; exact hi)
        refine ⟨Ai, ci, by rw [List.getElem?_append_left (by omega)]; exact g0, g1, g2, g3, fun hn => ?_⟩
        obtain ⟨q, cs, hA, h5, h6, h7, h8⟩ := g5 hn
        refine ⟨q, cs, hA, h5, by omega, ?_, h8⟩
        refine ((hset q (by omega)).trans ((h24 q (by omega) (fun e => ?_)).trans (hb2.block q h6))).trans h7
        obtain ⟨_, _, cu, hcu⟩ := hrow q e.symm
        unfold Bk at hcu h7
        rw [hcu] at h7
        injection h7 with h7
        injection h7 with _ h7
        cases h7
    · cases hi
theorem cell_new1 (w : World) (v : Value) (t : TypeId) : ∀ j u, [v][j]? = some u → (w.alloc (.cells #[v] t)).cell? ((⟨w.heap.size, 0, none⟩ : Addr).add j) = some u := by
  intro j u hj
  rw [addr_add', Nat.zero_add]
  have := (Bk.new w #[v] t).cell j
  rw [this, ← hj]
  simp

/-- What the reference model's copy comes to. -/
def CopyI (w : World) (L : List (List Sm)) (e : Ending) (w' : World) : Prop :=
  ∃ A c hs, e = .returned (.agg #[.slice A L.length c]) ∧ Below w.heap.size w w' ∧ w'.ownsRow w.heap.size 111 1 (.slice A L.length c) L.length hs ∧ HeadsIn w' w.heap.size w'.heap.size hs L

end Go.Proofs.Ytaghidaamcnpkab
