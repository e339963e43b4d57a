/-
  What the program's ordersFrom comes to, where all orders are asked for.
-/
import Derived.Test.YtiljakbjbiinkaaOrdP
import Derived.Deep.RegionHeld3
import Derived.Deep.DeepCutAuto
namespace Go.Proofs.Ytiljakbjbiinkaa
open Go.RowKit Pl
set_option maxHeartbeats 4000000
set_option maxRecDepth 100000
set_option linter.unusedVariables false

/-- An order in a block. -/
def AccAt (w : World) (ga : Nat) (acc : List Int) : Prop := ∃ cs, Bk w ga 3 cs ∧ ∀ (a : Nat) (v : Value), (ints acc)[a]? = some v → cs[a]? = some v
theorem AccAt.lt {w : World} {ga : Nat} {acc : List Int} (h : AccAt w ga acc) : ga < w.heap.size := by obtain ⟨cs, hb, _⟩ := h; exact hb.lt
theorem AccAt.below {w w' : World} {ga : Nat} {acc : List Int} (h : AccAt w ga acc) (hb : Below w.heap.size w w') : AccAt w' ga acc := by
  obtain ⟨cs, hbk, hx⟩ := h
  exact ⟨cs, hbk.below hb hbk.lt, hx⟩
theorem AccAt.vs {w : World} {ga : Nat} {acc : List Int} (h : AccAt w ga acc) : Vs w w.heap.size (some ⟨ga, 0, none⟩) (ints acc) := fun _ => by
  obtain ⟨cs, hb, hx⟩ := h
  exact ⟨ga, 0, rfl, hb.lt, fun j u hj => by rw [Nat.zero_add]; exact (hb.cell j).trans (hx j u hj)⟩
/-- Whole orders, each in a block of its own from ga on. -/
def OrdA (w : World) (ga : Nat) (Ls : List (List Int)) (e : Ending) (w' : World) : Prop :=
  ∃ (g cap : Nat) (D C : Nat → Nat), e = .returned (.slice (some ⟨g, 0, none⟩) Ls.length cap) ∧ Below w.heap.size w w' ∧ w.heap.size ≤ g ∧ w'.ownsRow w.heap.size 39 1 (.slice (some ⟨g, 0, none⟩) Ls.length cap) Ls.length (headsC Ls D C) ∧ RowsI w' ga w'.heap.size Ls D
theorem ordP_len {L : Pg} (h3 : L.length ≤ 3) : ∀ (m : Nat) (f : Nat → Nat) (acc : List Int), (ordP L m f acc).length ≤ 3 ^ m := by
  intro m
  induction m with
  | zero => intro f acc; exact Nat.le_refl _
  | succ m ih =>
    intro f acc
    have key : ∀ t, (ordK L m f acc t).length ≤ t * 3 ^ m := by
      intro t
      induction t with
      | zero => exact Nat.zero_le _
      | succ t iht =>
        rw [ordK_succ, List.length_append, Nat.add_mul, Nat.one_mul]
        have h2 : (if goB L f (t : Int) then ordP L m (stepF L f t) (acc ++ [(t : Int)]) else []).length ≤ 3 ^ m := by
          split
          · exact ih _ _
          · exact Nat.zero_le _
        omega
    unfold ordP
    split
    · have : 0 < 3 ^ (m + 1) := Nat.pow_pos (by omega)
      exact this
    · have h1 := key L.length
      have h2 : L.length * 3 ^ m ≤ 3 * 3 ^ m := Nat.mul_le_mul_right _ h3
      unfold ordK at h1
      rw [Nat.pow_succ, Nat.mul_comm]
      omega
theorem ordK_len {L : Pg} (h3 : L.length ≤ 3) (m : Nat) (f : Nat → Nat) (acc : List Int) : ∀ t, (ordK L m f acc t).length ≤ t * 3 ^ m := by
  intro t
  induction t with
  | zero => exact Nat.zero_le _
  | succ t iht =>
    rw [ordK_succ, List.length_append, Nat.add_mul, Nat.one_mul]
    have h2 : (if goB L f (t : Int) then ordP L m (stepF L f t) (acc ++ [(t : Int)]) else []).length ≤ 3 ^ m := by
      split
      · exact ordP_len h3 _ _ _
      · exact Nat.zero_le _
    omega
theorem own_form1 {w : World} {base n m : Nat} {e : TypeId} {v v0 : Value} {xs : List Value} (h : w.ownsRow base e 1 v n xs) (hi : v = .slice none 0 0 ↔ v0 = .slice none 0 0 ∧ m = 0) (h0 : v0 ≠ .slice none 0 0) :
    ∃ g cap, v = .slice (some ⟨g, 0, none⟩) n cap ∧ base ≤ g ∧ w.ownsRow base e 1 (.slice (some ⟨g, 0, none⟩) n cap) n xs := by
  have h' := h
  rcases h.2 with ⟨h1, _⟩ | ⟨g, cap, cur, e1, e2, _⟩
  · exact absurd (hi.1 h1).1 h0
  · rw [e1] at h'
    exact ⟨g, cap, e1, e2, h'⟩
theorem heads_news {w : World} {base g cap : Nat} {t : TypeId} {vs : List Value} (h : w.ownsRow base t 1 (.slice (some ⟨g, 0, none⟩) vs.length cap) vs.length vs) : ∀ j u, vs[j]? = some u → w.cell? ((⟨g, 0, none⟩ : Addr).add j) = some u := by
  intro j u hj
  have hl := (List.getElem?_eq_some_iff.1 hj).1
  obtain ⟨g', cs, hA, _, _, hb, hx⟩ := own_vs h rfl (by omega)
  injection hA with hA
  injection hA with hA
  subst hA
  rw [addr_add', Nat.zero_add]
  exact (hb.cell j).trans (hx j u hj)
theorem heads_one (Ls : List (List Int)) (D C : Nat → Nat) : ∀ u ∈ headsC Ls D C, u.oneCell' = true := by
  intro u hu
  simp only [headsC, List.mem_map] at hu
  obtain ⟨j, _, rfl⟩ := hu
  rfl
/-- What the loop over threads has come to. -/
def OrdL (w wr : World) (v : Value) (Ls : List (List Int)) : Prop :=
  ∃ (g cap : Nat) (D C : Nat → Nat), v = .slice (some ⟨g, 0, none⟩) Ls.length cap ∧ w.heap.size ≤ g ∧ wr.ownsRow w.heap.size 39 1 (.slice (some ⟨g, 0, none⟩) Ls.length cap) Ls.length (headsC Ls D C) ∧ RowsI wr w.heap.size wr.heap.size Ls D ∧ Below w.heap.size w wr
theorem ordL_next {w w5 w7 : World} {Ls Ms : List (List Int)} {g cap : Nat} {D C D2 C2 : Nat → Nat} {mid ga g7 cap7 : Nat} (hbel : Below w.heap.size w w5) (hrows : RowsI w5 w.heap.size mid Ls D) (hm : mid ≤ ga) (hw : w.heap.size ≤ mid) (hr6 : RowsI w5 ga w5.heap.size Ms D2) (hmid : mid ≤ w5.heap.size)
    (own : w5.ownsRow w.heap.size 39 1 (.slice (some ⟨g, 0, none⟩) Ls.length cap) Ls.length (headsC Ls D C)) (grow : w5.grownBy w7 (Value.slice (some ⟨g, 0, none⟩) Ls.length cap).ownBlock)
    (hg7 : w.heap.size ≤ g7) (own7 : w7.ownsRow w.heap.size 39 1 (.slice (some ⟨g7, 0, none⟩) (Ls.length + Ms.length) cap7) (Ls.length + Ms.length) (headsC Ls D C ++ headsC Ms D2 C2)) :
    OrdL w w7 (.slice (some ⟨g7, 0, none⟩) (Ls.length + Ms.length) cap7) (Ls ++ Ms) := by
  obtain ⟨g0, g1, cu, hcu⟩ := owns_block own (q := g) rfl
  have hk : ∀ i cs, i < w5.heap.size → Bk w5 i 3 cs → w7.heap[i]? = w5.heap[i]? := fun i cs hi hb => grow.block i hi (fun e => by
    have e : i = g := by injection e
    subst e
    unfold Bk at hb hcu
    rw [hcu] at hb
    injection hb with hb
    injection hb with _ hb
    cases hb)
  have hz := grow.size
  refine ⟨g7, cap7, catF Ls.length D D2, catF Ls.length C C2, by rw [List.length_append], hg7, by rw [headsC_cat, List.length_append]; exact own7, ?_, ?_⟩
  · have a1 := hrows.keep (w' := w7) (Nat.le_refl _) (Nat.le_refl _) fun i cs _ h2 hb => hk i cs (by omega) hb
    have a2 := hr6.keep (w' := w7) (lo' := mid) (hi' := w7.heap.size) hm hz fun i cs _ h2 hb => hk i cs h2 hb
    exact a1.cat a2 hw (by omega)
  · exact hbel.grown grow hbel.size (fun q hq => by cases hq; exact g0)
theorem acc_of {w : World} {base g cap : Nat} {v : List Int} (h : w.ownsRow base 3 1 (.slice (some ⟨g, 0, none⟩) v.length cap) v.length (ints v)) (h0 : 0 < v.length) : AccAt w g v := (nums_of h).2 h0
end Go.Proofs.Ytiljakbjbiinkaa
