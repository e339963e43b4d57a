/-
  What the reference model's LockPairs comes to.
-/
import Derived.Test.YtiljakbjbiinkaaILkp
import Derived.Test.YtiljakbjbiinkaaSWhole
import Derived.Test.YtiljakbjbiinkaaSpDo
import Derived.Test.YtiljakbjbiinkaaIDo
import Derived.Deep.RegionHeld3
import Derived.Deep.DeepCutAuto
import Derived.BigRegion
namespace Go.Proofs.Ytiljakbjbiinkaa
open Go.RowKit Pl
set_option maxHeartbeats 8000000
set_option maxRecDepth 100000
set_option linter.unusedVariables false

theorem p1r_next {w wo wr w4 : World} {n k g cap : Nat} {D : Nat → Nat} {Mt : Nat → Nat → Bool} {hs : List Value} {o : Obj} (hbel : Below w.heap.size w wo) (htab : Tab wo w.heap.size wo.heap.size n k D Mt) (hrow : RowB wo wr n n (Mt k))
    (own : wo.ownsRow w.heap.size 62 1 (.slice (some ⟨g, 0, none⟩) k cap) k hs) (grow4 : (wr.alloc o).grownBy w4 (Value.slice (some ⟨g, 0, none⟩) k cap).ownBlock) :
    Tab w4 w.heap.size w4.heap.size n (k + 1) (fun i => if i = k then wo.heap.size else D i) Mt ∧ Below w.heap.size w w4 := by
  obtain ⟨hr0, cs, hbk, hsz, hc⟩ := hrow
  obtain ⟨g0, g1, cu, hcu⟩ := owns_block own (q := g) rfl
  have hz1 := hbel.size
  have hz2 := hr0.size
  have hz4 : wr.heap.size + 1 ≤ w4.heap.size := by have := grow4.size; simpa using this
  have hlt := hbk.lt
  have h4 : ∀ z, z < wr.heap.size → z ≠ g → w4.heap[z]? = wr.heap[z]? := fun z hz hne => (grow4.block z (by simp; omega) (fun e => hne (by injection e))).trans (Below.heap_alloc wr o z hz)
  have hB : Below w.heap.size w w4 := ((below_on hbel hr0).alloc (by omega) o).grown grow4 (by simp; omega) (fun q hq => by cases hq; omega)
  refine ⟨(htab.keep (Nat.le_refl _) (Nat.le_refl _) fun z cz a b hz => ?_).snoc (Nat.le_refl _) hz1 (by omega) ((h4 wo.heap.size hlt (by omega)).trans hbk) hsz fun j hj => ?_, hB⟩
  · refine (h4 z (by omega) fun e => ?_).trans (hr0.block z b)
    subst e
    unfold Bk at hz hcu
    rw [hcu] at hz
    injection hz with hz
    injection hz with _ hz
    cases hz
  · rw [hc j hj, decide_eq_true hj, Bool.true_and]
theorem PhR.kept {w wr wv : World} {lo g hi n m B : Nat} {D : Nat → Nat} {M : Nat → Nat → Bool} (h : PhR w wr lo g hi n m D M) (hb : Below B wr wv) (hB : hi ≤ B) (hl : lo ≤ B) : PhR w wv lo g hi n m D M :=
  ⟨h.bel.trans (hb.mono hl), Nat.le_trans h.top hb.size, h.hd.below hb hB, h.tab.keep (Nat.le_refl _) (Nat.le_refl _) fun i _ _ h2 _ => hb.block i (by omega)⟩
theorem PhR.congr {w wr : World} {lo g hi n m : Nat} {D : Nat → Nat} {M M' : Nat → Nat → Bool} (h : PhR w wr lo g hi n m D M) (e : ∀ i j, i < m → j < n → M i j = M' i j) : PhR w wr lo g hi n m D M' := ⟨h.bel, h.top, h.hd, h.tab.congr e⟩
/-- The table at work, and the orders that stand behind it. -/
structure LkS (w1 w3 wr : World) (lo g hi : Nat) (D : Nat → Nat) (M : Nat → Nat → Bool) : Prop where
  ph : PhR w1 wr lo g hi 2 2 D M
  fr : ∀ q, hi ≤ q → q < w3.heap.size → wr.heap[q]? = w3.heap[q]?
  sz : w3.heap.size ≤ wr.heap.size
  h0 : lo ≤ hi
  h1 : hi ≤ w3.heap.size
theorem LkS.kept {w1 w3 wr wv : World} {lo g hi B : Nat} {D : Nat → Nat} {M : Nat → Nat → Bool} (h : LkS w1 w3 wr lo g hi D M) (hb : Below B wr wv) (hB : w3.heap.size ≤ B) : LkS w1 w3 wv lo g hi D M := by
  have a := h.h0
  have b := h.h1
  exact ⟨h.ph.kept hb (by omega) (by omega), fun q h2 h3 => (hb.block q (by omega)).trans (h.fr q h2 h3), Nat.le_trans h.sz hb.size, a, b⟩
theorem LkS.putv {w1 w3 wr : World} {lo g hi : Nat} {D : Nat → Nat} {M : Nat → Nat → Bool} (h : LkS w1 w3 wr lo g hi D M) {i k : Nat} (hi' : i < 2) (hk : k < 2) (v : Bool) : LkS w1 w3 (wr.setCell ⟨D i, k, none⟩ (.bool v)) lo g hi D (putV M i k v) := by
  obtain ⟨a, b, -⟩ := h.ph.tab.1 i hi'
  exact ⟨h.ph.putv hi' hk v, fun q h2 h3 => (Below.heap_setCell _ _ _ q (by show q ≠ D i; omega)).trans (h.fr q h2 h3), by rw [World.size_setCell]; exact h.sz, h.h0, h.h1⟩
theorem LkS.congr {w1 w3 wr : World} {lo g hi : Nat} {D : Nat → Nat} {M M' : Nat → Nat → Bool} (h : LkS w1 w3 wr lo g hi D M) (e : ∀ i j, i < 2 → j < 2 → M i j = M' i j) : LkS w1 w3 wr lo g hi D M' := ⟨h.ph.congr e, h.fr, h.sz, h.h0, h.h1⟩
theorem LkS.cell {w1 w3 wr : World} {lo g hi : Nat} {D : Nat → Nat} {M : Nat → Nat → Bool} (h : LkS w1 w3 wr lo g hi D M) {b o : Nat} {u : Option Value} (hb : hi ≤ b) (hl : b < w3.heap.size) (hc : w3.cell? ⟨b, o, none⟩ = u) : wr.cell? ⟨b, o, none⟩ = u := by
  rw [← hc]
  unfold World.cell?
  rw [h.fr b hb hl]
def anyK (L : Pg) (vs : List Mv) (h a : Nat) : Bool := vs.any fun m => tkB L m h a
def allK (L : Pg) (os : List (List Int)) (h a : Nat) : Bool := os.any fun r => anyK L (visits L (keptF L zeroF L.length) r) h a
theorem allK_next {L : Pg} {os : List (List Int)} {k : Nat} {x : List Int} (hx : os[k]? = some x) (h a : Nat) : (allK L (os.take k) h a || anyK L (visits L (keptF L zeroF L.length) x) h a) = allK L (os.take (k + 1)) h a := by
  unfold allK
  rw [List.take_add_one, hx, List.any_append]
  simp
theorem visits_snoc {L : Pg} {r : List Int} {f g : Nat → Nat} {t : Nat} (h : runF L f r = some g) : visits L f (r ++ [(t : Int)]) = visits L f r ++ [⟨g, t⟩] := by
  rw [visits_cat h]; rfl
theorem runF_append {L : Pg} : ∀ (r s : List Int) (f : Nat → Nat), runF L f (r ++ s) = (runF L f r).bind fun g => runF L g s
  | [], s, f => rfl
  | x :: r, s, f => by
    show (if goB L f x then runF L (stepF L f x.toNat) (r ++ s) else none) = (if goB L f x then runF L (stepF L f x.toNat) r else none).bind _
    split
    · exact runF_append r s _
    · rfl
theorem run_at {L : Pg} {x : List Int} {f0 f gE : Nat → Nat} {k : Nat} (hE : runF L f0 x = some gE) (h : runF L f0 (x.take k) = some f) (hk : k < x.length) : ∃ t : Nat, x[k]? = some (t : Int) ∧ t < L.length ∧ goB L f (t : Int) = true ∧ runF L f0 (x.take (k + 1)) = some (stepF L f t) ∧ x.take (k + 1) = x.take k ++ [(t : Int)] := by
  obtain ⟨th, h1, h2⟩ := drop_at hk
  have e : x = x.take k ++ x.drop k := (List.take_append_drop k x).symm
  rw [e, runF_append, h] at hE
  simp only [Option.bind_some] at hE
  rw [h2] at hE
  unfold runF at hE
  split at hE
  · rename_i hg
    obtain ⟨t, e2, ht, hc⟩ := goB_parts hg
    subst e2
    have e3 : x.take (k + 1) = x.take k ++ [(t : Int)] := by rw [List.take_add_one, h1]; rfl
    refine ⟨t, h1, ht, hg, ?_, e3⟩
    have := runF_snoc h hg
    rw [Int.toNat_natCast] at this
    rw [e3]; exact this
  · cases hE
/-- The table while the locks are gone through. -/
def mq (L : Pg) (Mk : Nat → Nat → Bool) (m : Mv) (q : Nat) : Nat → Nat → Bool := fun h a => Mk h a || (decide (h < q) && tkB L m h a)
theorem mq_next {L : Pg} {Mk : Nat → Nat → Bool} {f : Nat → Nat} {t q n : Nat} {x : Sm} {val : Bool} (hx : smAt L t (f (3 + t)) = x) (h6 : x.k = 6) (ha : x.a = (n : Int)) (hv : val = (mq L Mk ⟨f, t⟩ q q n || (f (18 + q) == t + 1))) : ∀ h a, h < 2 → a < 2 → putV (mq L Mk ⟨f, t⟩ q) q n val h a = mq L Mk ⟨f, t⟩ (q + 1) h a := fun h a hh haa => by
  have et : ∀ h a, tkB L ⟨f, t⟩ h a = ((n : Int) == (a : Int) && f (18 + h) == t + 1) := fun h a => by
    unfold tkB
    simp only
    rw [hx, h6, ha]; rfl
  unfold putV
  by_cases e : h = q ∧ a = n
  · rw [if_pos e]
    obtain ⟨rfl, rfl⟩ := e
    rw [hv]
    unfold mq
    rw [et]
    simp
  · rw [if_neg e]
    unfold mq
    rw [et]
    by_cases hq : h = q
    · subst hq
      have hne : ((n : Int) == (a : Int)) = false := by
        rw [beq_eq_false_iff_ne]
        intro e2
        exact e ⟨rfl, by omega⟩
      rw [hne]; simp
    · have : decide (h < q) = decide (h < q + 1) := by rw [decide_eq_decide]; omega
      rw [this]
theorem tkB_not {L : Pg} {f : Nat → Nat} {t : Nat} {x : Sm} (hx : smAt L t (f (3 + t)) = x) (h6 : ¬ x.k = 6) (h a : Nat) : tkB L ⟨f, t⟩ h a = false := by
  unfold tkB
  simp only
  rw [hx]
  have : (x.k == 6) = false := by simpa using h6
  rw [this]; rfl
end Go.Proofs.Ytiljakbjbiinkaa
