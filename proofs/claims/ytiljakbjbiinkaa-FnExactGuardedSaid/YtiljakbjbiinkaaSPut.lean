/-
  Contracts of the reference model's l2Sum, l2Set, l2New and l2Go, on states that are told by a word's numbers.
-/
import Derived.Test.YtiljakbjbiinkaaSCopy
import Derived.Test.YtiljakbjbiinkaaIDo
import Derived.Deep.QuietTactic
import Derived.BigQuiet
import Derived.BigRegion
namespace Go.Proofs.Ytiljakbjbiinkaa
open Go.RowKit Pl
set_option maxHeartbeats 2000000
set_option maxRecDepth 100000
set_option linter.unusedVariables false

theorem own_put {w : World} {lo hi : Nat} {t : TypeId} {A : Option Addr} {xs : List Int} (h : OwnVs w lo hi t A (ints xs)) {i : Nat} (hi' : i < xs.length) (x : Int) :
    ∃ g y, A = some ⟨g, 0, none⟩ ∧ lo ≤ g ∧ g < hi ∧ g < w.heap.size ∧ xs[i]? = some y ∧ w.cell? ⟨g, i, none⟩ = some (.int .i64 y) ∧ w.frozen? ⟨g, i, none⟩ = false ∧ OwnVs (w.setCell ⟨g, i, none⟩ (.int .i64 x)) lo hi t A (ints (xs.set i x)) := by
  obtain ⟨g, cs, hA, h0, hg, hb, hx⟩ := h (by rw [ints_length]; omega)
  have hy : xs[i]? = some xs[i] := List.getElem?_eq_getElem hi'
  have hc := hx i _ (ints_at hy)
  refine ⟨g, xs[i], hA, h0, hg, hb.lt, hy, (hb.cell i).trans hc, hb.free i, fun _ => ⟨g, _, hA, h0, hg, hb.set i (.int .i64 x), fun j v hj => ?_⟩⟩
  have hsz : i < cs.size := (Array.getElem?_eq_some_iff.1 hc).1
  by_cases e : i = j
  · subst e
    simp [ints, hi'] at hj
    subst hj
    simp [hsz]
  · rw [Array.getElem?_setIfInBounds_ne e]
    refine hx j v ?_
    rw [← hj]
    simp [ints, List.getElem?_set_ne e]
theorem own_apart {w : World} {lo hi : Nat} {t : TypeId} {A : Option Addr} {vs : List Value} (h : OwnVs w lo hi t A vs) {g i : Nat} {v : Value} (hne : 0 < vs.length → A ≠ some ⟨g, 0, none⟩) : OwnVs (w.setCell ⟨g, i, none⟩ v) lo hi t A vs := fun hn => by
  obtain ⟨g', cs, hA, h0, hg, hb, hx⟩ := h hn
  refine ⟨g', cs, hA, h0, hg, hb.far (by intro e; apply hne hn; rw [hA]; have e' : g' = g := e; rw [e']) v, hx⟩
theorem fldI_put {f : Nat → Nat} {b i v n : Nat} {l : Int} (hi : i < n) : fldI (upd f (b + i) v) b l n = (fldI f b l n).set i ((v : Int) + l) := by
  apply List.ext_getElem?
  intro j
  by_cases hj : j < n
  · rw [fldI_at hj]
    by_cases e : i = j
    · subst e
      rw [List.getElem?_set_self (by rw [fldI_length]; exact hi)]
      simp [upd]
    · rw [List.getElem?_set_ne e, fldI_at hj]
      have : upd f (b + i) v (b + j) = f (b + j) := by unfold upd; rw [if_neg (by omega)]
      rw [this]
  · rw [List.getElem?_eq_none (by rw [fldI_length]; omega), List.getElem?_eq_none (by rw [List.length_set, fldI_length]; omega)]
theorem fldI_apart {f : Nat → Nat} {p b v n : Nat} {l : Int} (h : p < b ∨ b + n ≤ p) : fldI (upd f p v) b l n = fldI f b l n := by
  apply List.ext_getElem?
  intro j
  by_cases hj : j < n
  · rw [fldI_at hj, fldI_at hj]
    have : upd f p v (b + j) = f (b + j) := by unfold upd; rw [if_neg (by omega)]
    rw [this]
  · rw [List.getElem?_eq_none (by rw [fldI_length]; omega), List.getElem?_eq_none (by rw [fldI_length]; omega)]
theorem fldI_congr {f g : Nat → Nat} {b n : Nat} {l : Int} (h : ∀ i, i < n → f (b + i) = g (b + i)) : fldI f b l n = fldI g b l n := by
  apply List.ext_getElem?
  intro j
  by_cases hj : j < n
  · rw [fldI_at hj, fldI_at hj, h j hj]
  · rw [List.getElem?_eq_none (by rw [fldI_length]; omega), List.getElem?_eq_none (by rw [fldI_length]; omega)]
theorem staF_congr {L : Pg} {f g : Nat → Nat} (h : ∀ p, 3 ≤ p → f p = g p) : staF L f = staF L g := by
  unfold staF
  rw [fldI_congr (f := f) (g := g) fun i _ => h _ (by omega), fldI_congr (f := f) (g := g) fun i _ => h _ (by omega), fldI_congr (f := f) (g := g) fun i _ => h _ (by omega), fldI_congr (f := f) (g := g) fun i _ => h _ (by omega), fldI_congr (f := f) (g := g) fun i _ => h _ (by omega)]

theorem sta_put0 {w : World} {lo hi : Nat} {k : StaH} {L : Pg} {f : Nat → Nat} (h32 : L.length ≤ 3) (h : StaO w lo hi k (staF L f)) {i : Nat} (hi' : i < L.length) (v : Nat) (x : Int) (hx : x = (v : Int) + fL 0) :
    ∃ g, k.A0 = some ⟨g, 0, none⟩ ∧ lo ≤ g ∧ g < hi ∧ g < w.heap.size ∧ w.cell? ⟨g, i, none⟩ = some (.int .i64 ((f (3 + i) : Int) + fL 0)) ∧ w.frozen? ⟨g, i, none⟩ = false ∧ StaO (w.setCell ⟨g, i, none⟩ (.int .i64 x)) lo hi k (staF L (upd f (3 + i) v)) := by
  subst hx
  obtain ⟨g, y, hA, h0, hg, hgw, hy, hc, hf, ho⟩ := own_put h.o0 (i := i) (by show i < (fldI f 3 (fL 0) (L.length)).length; rw [fldI_length]; exact hi') ((v : Int) + fL 0)
  have hy' : y = (f (3 + i) : Int) + fL 0 := by
    have : (fldI f 3 (fL 0) (L.length))[i]? = some y := hy
    rw [fldI_at hi'] at this; injection this with this; exact this.symm
  subst hy'
  have e : staF L (upd f (3 + i) v) = ⟨(staF L f).f0.set i ((v : Int) + fL 0), (staF L f).f1, (staF L f).f2, (staF L f).f3, (staF L f).f4⟩ := by unfold staF; rw [fldI_put hi', fldI_apart (by omega), fldI_apart (by omega), fldI_apart (by omega), fldI_apart (by omega)]
  rw [e]
  exact ⟨g, hA, h0, hg, hgw, hc, hf, ho, own_apart h.o1 (fun hn => by rw [← hA]; exact (h.d01 (by show 0 < (fldI f 3 (fL 0) (L.length)).length; rw [fldI_length]; omega) (by rw [ints_length] at hn; exact hn)).symm), own_apart h.o2 (fun hn => by rw [← hA]; exact (h.d02 (by show 0 < (fldI f 3 (fL 0) (L.length)).length; rw [fldI_length]; omega) (by rw [ints_length] at hn; exact hn)).symm), own_apart h.o3 (fun hn => by rw [← hA]; exact (h.d03 (by show 0 < (fldI f 3 (fL 0) (L.length)).length; rw [fldI_length]; omega) (by rw [ints_length] at hn; exact hn)).symm), own_apart h.o4 (fun hn => by rw [← hA]; exact (h.d04 (by show 0 < (fldI f 3 (fL 0) (L.length)).length; rw [fldI_length]; omega) (by rw [ints_length] at hn; exact hn)).symm), fun h1 h2 => h.d01 (by rw [List.length_set] at h1; exact h1) h2, fun h1 h2 => h.d02 (by rw [List.length_set] at h1; exact h1) h2, fun h1 h2 => h.d03 (by rw [List.length_set] at h1; exact h1) h2, fun h1 h2 => h.d04 (by rw [List.length_set] at h1; exact h1) h2, h.d12, h.d13, h.d14, h.d23, h.d24, h.d34⟩
theorem sta_put1 {w : World} {lo hi : Nat} {k : StaH} {L : Pg} {f : Nat → Nat} (h32 : L.length ≤ 3) (h : StaO w lo hi k (staF L f)) {i : Nat} (hi' : i < L.length * 3) (v : Nat) (x : Int) (hx : x = (v : Int) + fL 1) :
    ∃ g, k.A1 = some ⟨g, 0, none⟩ ∧ lo ≤ g ∧ g < hi ∧ g < w.heap.size ∧ w.cell? ⟨g, i, none⟩ = some (.int .i64 ((f (6 + i) : Int) + fL 1)) ∧ w.frozen? ⟨g, i, none⟩ = false ∧ StaO (w.setCell ⟨g, i, none⟩ (.int .i64 x)) lo hi k (staF L (upd f (6 + i) v)) := by
  subst hx
  obtain ⟨g, y, hA, h0, hg, hgw, hy, hc, hf, ho⟩ := own_put h.o1 (i := i) (by show i < (fldI f 6 (fL 1) (L.length * 3)).length; rw [fldI_length]; exact hi') ((v : Int) + fL 1)
  have hy' : y = (f (6 + i) : Int) + fL 1 := by
    have : (fldI f 6 (fL 1) (L.length * 3))[i]? = some y := hy
    rw [fldI_at hi'] at this; injection this with this; exact this.symm
  subst hy'
  have e : staF L (upd f (6 + i) v) = ⟨(staF L f).f0, (staF L f).f1.set i ((v : Int) + fL 1), (staF L f).f2, (staF L f).f3, (staF L f).f4⟩ := by unfold staF; rw [fldI_apart (by omega), fldI_put hi', fldI_apart (by omega), fldI_apart (by omega), fldI_apart (by omega)]
  rw [e]
  exact ⟨g, hA, h0, hg, hgw, hc, hf, own_apart h.o0 (fun hn => by rw [← hA]; exact h.d01 (by rw [ints_length] at hn; exact hn) (by show 0 < (fldI f 6 (fL 1) (L.length * 3)).length; rw [fldI_length]; omega)), ho, own_apart h.o2 (fun hn => by rw [← hA]; exact (h.d12 (by show 0 < (fldI f 6 (fL 1) (L.length * 3)).length; rw [fldI_length]; omega) (by rw [ints_length] at hn; exact hn)).symm), own_apart h.o3 (fun hn => by rw [← hA]; exact (h.d13 (by show 0 < (fldI f 6 (fL 1) (L.length * 3)).length; rw [fldI_length]; omega) (by rw [ints_length] at hn; exact hn)).symm), own_apart h.o4 (fun hn => by rw [← hA]; exact (h.d14 (by show 0 < (fldI f 6 (fL 1) (L.length * 3)).length; rw [fldI_length]; omega) (by rw [ints_length] at hn; exact hn)).symm), fun h1 h2 => h.d01 h1 (by rw [List.length_set] at h2; exact h2), h.d02, h.d03, h.d04, fun h1 h2 => h.d12 (by rw [List.length_set] at h1; exact h1) h2, fun h1 h2 => h.d13 (by rw [List.length_set] at h1; exact h1) h2, fun h1 h2 => h.d14 (by rw [List.length_set] at h1; exact h1) h2, h.d23, h.d24, h.d34⟩
theorem sta_put2 {w : World} {lo hi : Nat} {k : StaH} {L : Pg} {f : Nat → Nat} (h32 : L.length ≤ 3) (h : StaO w lo hi k (staF L f)) {i : Nat} (hi' : i < 3) (v : Nat) (x : Int) (hx : x = (v : Int) + fL 2) :
    ∃ g, k.A2 = some ⟨g, 0, none⟩ ∧ lo ≤ g ∧ g < hi ∧ g < w.heap.size ∧ w.cell? ⟨g, i, none⟩ = some (.int .i64 ((f (15 + i) : Int) + fL 2)) ∧ w.frozen? ⟨g, i, none⟩ = false ∧ StaO (w.setCell ⟨g, i, none⟩ (.int .i64 x)) lo hi k (staF L (upd f (15 + i) v)) := by
  subst hx
  obtain ⟨g, y, hA, h0, hg, hgw, hy, hc, hf, ho⟩ := own_put h.o2 (i := i) (by show i < (fldI f 15 (fL 2) (3)).length; rw [fldI_length]; exact hi') ((v : Int) + fL 2)
  have hy' : y = (f (15 + i) : Int) + fL 2 := by
    have : (fldI f 15 (fL 2) (3))[i]? = some y := hy
    rw [fldI_at hi'] at this; injection this with this; exact this.symm
  subst hy'
  have e : staF L (upd f (15 + i) v) = ⟨(staF L f).f0, (staF L f).f1, (staF L f).f2.set i ((v : Int) + fL 2), (staF L f).f3, (staF L f).f4⟩ := by unfold staF; rw [fldI_apart (by omega), fldI_apart (by omega), fldI_put hi', fldI_apart (by omega), fldI_apart (by omega)]
  rw [e]
  exact ⟨g, hA, h0, hg, hgw, hc, hf, own_apart h.o0 (fun hn => by rw [← hA]; exact h.d02 (by rw [ints_length] at hn; exact hn) (by show 0 < (fldI f 15 (fL 2) (3)).length; rw [fldI_length]; omega)), own_apart h.o1 (fun hn => by rw [← hA]; exact h.d12 (by rw [ints_length] at hn; exact hn) (by show 0 < (fldI f 15 (fL 2) (3)).length; rw [fldI_length]; omega)), ho, own_apart h.o3 (fun hn => by rw [← hA]; exact (h.d23 (by show 0 < (fldI f 15 (fL 2) (3)).length; rw [fldI_length]; omega) (by rw [ints_length] at hn; exact hn)).symm), own_apart h.o4 (fun hn => by rw [← hA]; exact (h.d24 (by show 0 < (fldI f 15 (fL 2) (3)).length; rw [fldI_length]; omega) (by rw [ints_length] at hn; exact hn)).symm), h.d01, fun h1 h2 => h.d02 h1 (by rw [List.length_set] at h2; exact h2), h.d03, h.d04, fun h1 h2 => h.d12 h1 (by rw [List.length_set] at h2; exact h2), h.d13, h.d14, fun h1 h2 => h.d23 (by rw [List.length_set] at h1; exact h1) h2, fun h1 h2 => h.d24 (by rw [List.length_set] at h1; exact h1) h2, h.d34⟩
theorem sta_put3 {w : World} {lo hi : Nat} {k : StaH} {L : Pg} {f : Nat → Nat} (h32 : L.length ≤ 3) (h : StaO w lo hi k (staF L f)) {i : Nat} (hi' : i < 2) (v : Nat) (x : Int) (hx : x = (v : Int) + fL 3) :
    ∃ g, k.A3 = some ⟨g, 0, none⟩ ∧ lo ≤ g ∧ g < hi ∧ g < w.heap.size ∧ w.cell? ⟨g, i, none⟩ = some (.int .i64 ((f (18 + i) : Int) + fL 3)) ∧ w.frozen? ⟨g, i, none⟩ = false ∧ StaO (w.setCell ⟨g, i, none⟩ (.int .i64 x)) lo hi k (staF L (upd f (18 + i) v)) := by
  subst hx
  obtain ⟨g, y, hA, h0, hg, hgw, hy, hc, hf, ho⟩ := own_put h.o3 (i := i) (by show i < (fldI f 18 (fL 3) (2)).length; rw [fldI_length]; exact hi') ((v : Int) + fL 3)
  have hy' : y = (f (18 + i) : Int) + fL 3 := by
    have : (fldI f 18 (fL 3) (2))[i]? = some y := hy
    rw [fldI_at hi'] at this; injection this with this; exact this.symm
  subst hy'
  have e : staF L (upd f (18 + i) v) = ⟨(staF L f).f0, (staF L f).f1, (staF L f).f2, (staF L f).f3.set i ((v : Int) + fL 3), (staF L f).f4⟩ := by unfold staF; rw [fldI_apart (by omega), fldI_apart (by omega), fldI_apart (by omega), fldI_put hi', fldI_apart (by omega)]
  rw [e]
  exact ⟨g, hA, h0, hg, hgw, hc, hf, own_apart h.o0 (fun hn => by rw [← hA]; exact h.d03 (by rw [ints_length] at hn; exact hn) (by show 0 < (fldI f 18 (fL 3) (2)).length; rw [fldI_length]; omega)), own_apart h.o1 (fun hn => by rw [← hA]; exact h.d13 (by rw [ints_length] at hn; exact hn) (by show 0 < (fldI f 18 (fL 3) (2)).length; rw [fldI_length]; omega)), own_apart h.o2 (fun hn => by rw [← hA]; exact h.d23 (by rw [ints_length] at hn; exact hn) (by show 0 < (fldI f 18 (fL 3) (2)).length; rw [fldI_length]; omega)), ho, own_apart h.o4 (fun hn => by rw [← hA]; exact (h.d34 (by show 0 < (fldI f 18 (fL 3) (2)).length; rw [fldI_length]; omega) (by rw [ints_length] at hn; exact hn)).symm), h.d01, h.d02, fun h1 h2 => h.d03 h1 (by rw [List.length_set] at h2; exact h2), h.d04, h.d12, fun h1 h2 => h.d13 h1 (by rw [List.length_set] at h2; exact h2), h.d14, fun h1 h2 => h.d23 h1 (by rw [List.length_set] at h2; exact h2), h.d24, fun h1 h2 => h.d34 (by rw [List.length_set] at h1; exact h1) h2⟩
theorem sta_put4 {w : World} {lo hi : Nat} {k : StaH} {L : Pg} {f : Nat → Nat} (h32 : L.length ≤ 3) (h : StaO w lo hi k (staF L f)) {i : Nat} (hi' : i < 2) (v : Nat) (x : Int) (hx : x = (v : Int) + fL 4) :
    ∃ g, k.A4 = some ⟨g, 0, none⟩ ∧ lo ≤ g ∧ g < hi ∧ g < w.heap.size ∧ w.cell? ⟨g, i, none⟩ = some (.int .i64 ((f (20 + i) : Int) + fL 4)) ∧ w.frozen? ⟨g, i, none⟩ = false ∧ StaO (w.setCell ⟨g, i, none⟩ (.int .i64 x)) lo hi k (staF L (upd f (20 + i) v)) := by
  subst hx
  obtain ⟨g, y, hA, h0, hg, hgw, hy, hc, hf, ho⟩ := own_put h.o4 (i := i) (by show i < (fldI f 20 (fL 4) (2)).length; rw [fldI_length]; exact hi') ((v : Int) + fL 4)
  have hy' : y = (f (20 + i) : Int) + fL 4 := by
    have : (fldI f 20 (fL 4) (2))[i]? = some y := hy
    rw [fldI_at hi'] at this; injection this with this; exact this.symm
  subst hy'
  have e : staF L (upd f (20 + i) v) = ⟨(staF L f).f0, (staF L f).f1, (staF L f).f2, (staF L f).f3, (staF L f).f4.set i ((v : Int) + fL 4)⟩ := by unfold staF; rw [fldI_apart (by omega), fldI_apart (by omega), fldI_apart (by omega), fldI_apart (by omega), fldI_put hi']
  rw [e]
  exact ⟨g, hA, h0, hg, hgw, hc, hf, own_apart h.o0 (fun hn => by rw [← hA]; exact h.d04 (by rw [ints_length] at hn; exact hn) (by show 0 < (fldI f 20 (fL 4) (2)).length; rw [fldI_length]; omega)), own_apart h.o1 (fun hn => by rw [← hA]; exact h.d14 (by rw [ints_length] at hn; exact hn) (by show 0 < (fldI f 20 (fL 4) (2)).length; rw [fldI_length]; omega)), own_apart h.o2 (fun hn => by rw [← hA]; exact h.d24 (by rw [ints_length] at hn; exact hn) (by show 0 < (fldI f 20 (fL 4) (2)).length; rw [fldI_length]; omega)), own_apart h.o3 (fun hn => by rw [← hA]; exact h.d34 (by rw [ints_length] at hn; exact hn) (by show 0 < (fldI f 20 (fL 4) (2)).length; rw [fldI_length]; omega)), ho, h.d01, h.d02, h.d03, fun h1 h2 => h.d04 h1 (by rw [List.length_set] at h2; exact h2), h.d12, h.d13, fun h1 h2 => h.d14 h1 (by rw [List.length_set] at h2; exact h2), h.d23, fun h1 h2 => h.d24 h1 (by rw [List.length_set] at h2; exact h2), fun h1 h2 => h.d34 h1 (by rw [List.length_set] at h2; exact h2)⟩
end Go.Proofs.Ytiljakbjbiinkaa
namespace Go.Proofs.Ytiljakbjbiinkaa
open Go.RowKit Pl
set_option maxHeartbeats 2000000
set_option maxRecDepth 100000
set_option linter.unusedVariables false

theorem sta_len (L : Pg) (f : Nat → Nat) : (staF L f).f0.length = L.length ∧ (staF L f).f1.length = L.length * 3 ∧ (staF L f).f2.length = 3 ∧ (staF L f).f3.length = 2 ∧ (staF L f).f4.length = 2 :=
  ⟨fldI_length _ _ _ _, fldI_length _ _ _ _, fldI_length _ _ _ _, fldI_length _ _ _ _, fldI_length _ _ _ _⟩
theorem ssum_any (k : StaH) (L : Pg) (f : Nat → Nat) (t : Nat) (b c : Int) (w : World) (B : Nat) (hS : StaR w B k (staF L f)) (hB : B ≤ w.heap.size) (hf : okF WS f) (h32 : L.length ≤ 3) (ht : t < L.length) (h : valB b c = true) (v : Nat) (hv : Hid (sumF f t b c = v)) :
    Calls Try.prog 167 #[StaV k (staF L f), .int .i64 t, .int .i64 b, .int .i64 c] w fun e w' => e = .returned (.int .i64 v) ∧ Below w.heap.size w w' := by
  obtain ⟨⟨h1, h2⟩, h3, h4⟩ := val_parts h
  obtain ⟨c, rfl⟩ := Int.eq_ofNat_of_zero_le h3
  obtain ⟨-, n1, -⟩ := sta_len L f
  have ht3 : t < 3 := by omega
  by_cases hb : b = -1
  · subst hb
    have hfin : Hid (c = v) := Lib.hid (by rw [← hv.out]; simp [sumF])
    clear hv h hS n1
    go_enter Try.func167, Try.ntmps167
    go_wp2
    go_ret
    refine ⟨?_, by go_grown⟩
    rw [← hfin.out]
    show Ending.returned (.int .i64 ((c : Int) % 4)) = _
    rw [show (c : Int) % 4 = (c : Int) by omega]
  · obtain ⟨m, rfl⟩ := Int.eq_ofNat_of_zero_le (show 0 ≤ b by omega)
    have hm3 : m < 3 := by omega
    obtain ⟨bb, off, x, hA, hbb, hx, -, hc⟩ := hS.r1.int_ (k := t * 3 + m) (by rw [n1]; omega)
    have hx' : x = (f (6 + (t * 3 + m)) : Int) := by
      have e : (fldI f 6 (fL 1) (L.length * 3))[t * 3 + m]? = some x := hx
      rw [fldI_at (by omega)] at e; injection e with e; rw [← e]; simp [fL]
    obtain ⟨q, hq⟩ : ∃ q, f (6 + (t * 3 + m)) = q := ⟨_, rfl⟩
    have hq4 : q < 4 := by rw [← hq]; exact reg_lt hf ht3 hm3
    rw [hq] at hx'
    subst hx'
    have hfin : Hid (((c : Int) + (q : Int)) % 4 = (v : Int)) := Lib.hid (by rw [← hv.out, sumF, if_neg hb, Int.toNat_natCast, Int.toNat_natCast, hq]; omega)
    have hbw : bb < w.heap.size := by omega
    have hlt : ((t * 3 + m : Nat) : Int) < ((staF L f).f1.length : Int) := by rw [n1]; omega
    have e1 : IntKind.i64.wrap ((t : Int) * 3) = (t : Int) * 3 := wrap64_small (by omega) (by omega)
    have e2 : IntKind.i64.wrap ((t : Int) * 3 + (m : Int)) = ((t * 3 + m : Nat) : Int) := by rw [wrap64_small (by omega) (by omega)]; omega
    have e3 : IntKind.i64.wrap ((c : Int) + (q : Int)) = (c : Int) + (q : Int) := wrap64_small (by omega) (by omega)
    have e4 : ((c : Int) + (q : Int)).tmod 4 = ((c : Int) + (q : Int)) % 4 := Int.tmod_eq_emod_of_nonneg (by omega)
    generalize staF L f = s at *
    clear hv h hb hq hx hS n1 hf
    go_enter Try.func167, Try.ntmps167
    go_wp2
    go_ret
    exact ⟨by rw [← hfin.out]; rfl, by go_grown⟩
theorem snew_any (x : Sm) (old : Nat) (w : World) (ho : old < 4) (q : Nat) (hq : x.c = (q : Int)) (hq4 : q < 4) (v : Nat) (hv : Hid ((if x.k = 4 then (old + q) % 4 else q) = v)) :
    Calls Try.prog 168 #[x.val, .int .i64 old] w fun e w' => e = .returned (.int .i64 v) ∧ Below w.heap.size w w' := by
  obtain ⟨k, a, b, c, s⟩ := x
  simp only at hq hv
  subst hq
  by_cases hk : k = 4
  · subst hk
    have hfin : Hid (((old : Int) + (q : Int)) % 4 = (v : Int)) := Lib.hid (by rw [← hv.out]; simp)
    have e3 : IntKind.i64.wrap ((old : Int) + (q : Int)) = (old : Int) + (q : Int) := wrap64_small (by omega) (by omega)
    have e4 : ((old : Int) + (q : Int)).tmod 4 = ((old : Int) + (q : Int)) % 4 := Int.tmod_eq_emod_of_nonneg (by omega)
    clear hv
    go_enter Try.func168, Try.ntmps168
    go_wp2
    go_ret
    exact ⟨by rw [← hfin.out]; rfl, by go_grown⟩
  · have hfin : Hid (q = v) := Lib.hid (by rw [← hv.out, if_neg hk])
    have hk' : (k == 4) = false := by simp [hk]
    clear hv hk
    go_enter Try.func168, Try.ntmps168
    go_wp2
    go_ret
    exact ⟨by rw [← hfin.out]; rfl, by go_grown⟩
theorem sset_any (k : StaH) (L : Pg) (f : Nat → Nat) (t r v : Nat) (w : World) (lo hi : Nat) (hO : StaO w lo hi k (staF L f)) (hhi : hi ≤ w.heap.size) (h32 : L.length ≤ 3) (ht : t < L.length) (hr : r < 3) (hv : v < 4) :
    Calls Try.prog 166 #[StaV k (staF L f), .int .i64 t, .int .i64 r, .int .i64 v] w fun e w' => e = .returned (.tuple #[]) ∧ Only lo hi w w' ∧ StaO w' lo hi k (staF L (upd f (6 + (t * 3 + r)) v)) := by
  obtain ⟨-, n1, -⟩ := sta_len L f
  obtain ⟨A0, A1, A2, A3, A4, c0, c1, c2, c3, c4⟩ := k
  have ht3 : t < 3 := by omega
  obtain ⟨W, hW⟩ : ∃ W, W = w.alloc (.cells #[.slice A0 (staF L f).f0.length c0, .slice A1 (staF L f).f1.length c1, .slice A2 (staF L f).f2.length c2, .slice A3 (staF L f).f3.length c3, .slice A4 (staF L f).f4.length c4] 41) := ⟨_, rfl⟩
  have bW : Below w.heap.size w W := by rw [hW]; go_grown
  have kW : Bk W w.heap.size 41 #[.slice A0 (staF L f).f0.length c0, .slice A1 (staF L f).f1.length c1, .slice A2 (staF L f).f2.length c2, .slice A3 (staF L f).f3.length c3, .slice A4 (staF L f).f4.length c4] := by rw [hW]; exact Bk.new _ _ _
  have oW := hO.below bW hhi
  obtain ⟨g, hA, hg0, hg1, hgw, hc, hfz, hput⟩ := sta_put1 h32 oW (i := t * 3 + r) (by omega) v (v : Int) (by simp [fL])
  simp only at hA
  subst hA
  have hlt : ((t * 3 + r : Nat) : Int) < ((staF L f).f1.length : Int) := by rw [n1]; omega
  have e1 : IntKind.i64.wrap ((t : Int) * 3) = (t : Int) * 3 := wrap64_small (by omega) (by omega)
  have e2 : IntKind.i64.wrap ((t : Int) * 3 + (r : Int)) = ((t * 3 + r : Nat) : Int) := by rw [wrap64_small (by omega) (by omega)]; omega
  have e4 : (v : Int).tmod 4 = (v : Int) := by rw [Int.tmod_eq_emod_of_nonneg (by omega)]; omega
  have e5 : (v : Int) % 4 = (v : Int) := by omega
  have OnW := Lib.hid (Only.setCell (Only.of_below bW : Only lo hi w W) (p := ⟨g, t * 3 + r, none⟩) hg0 hg1 (.int .i64 v))
  have Put := Lib.hid hput
  have HW := Lib.hid hW
  subst hW
  have lW := kW.lt
  clear hput kW oW hO n1 HW
  go_enter Try.func166, Try.ntmps166
  go_wp2_with fail
  exact bodyPost_end (v := .tuple #[]) (by simp [results, Try.results166, go_sem]) rfl ⟨rfl, OnW.out, Put.out⟩
theorem sgo_any (h : PgH) (k : StaH) (L : Pg) (f : Nat → Nat) (t m : Nat) (w : World) (B lo hi : Nat) (hP : PgR w B h L) (hB : B ≤ lo) (hlo : lo ≤ w.heap.size) (hO : StaO w lo hi k (staF L f)) (hhi : hi ≤ w.heap.size) (h32 : L.length ≤ 3) (ht : t < L.length) (hm : m ≤ 6) (hf : f (3 + t) ≤ 7) (r : Nat) (hr : Hid (min (f (3 + t) + m) (L.getD t []).length = r)) :
    Calls Try.prog 187 #[PgV h L, StaV k (staF L f), .int .i64 t, .int .i64 m] w fun e w' => e = .returned (.tuple #[]) ∧ Only lo hi w w' ∧ StaO w' lo hi k (staF L (upd f (3 + t) r)) := by
  obtain ⟨n0, -⟩ := sta_len L f
  have ht3 : t < 3 := by omega
  obtain ⟨A0, A1, A2, A3, A4, c0, c1, c2, c3, c4⟩ := k
  obtain ⟨A, c⟩ := h
  obtain ⟨pb, po, xs, Ai, ci, hA0, hpb, hxs, hc1, hro, hmi, -⟩ := pg_at hP ht
  simp only at hA0
  subst hA0
  rw [getD_some hxs] at hr
  obtain ⟨a, ha⟩ : ∃ a, f (3 + t) = a := ⟨_, rfl⟩
  rw [ha] at hr hf
  obtain ⟨W, hW⟩ : ∃ W, W = (w.alloc (.cells #[.slice (some ⟨pb, po, none⟩) L.length c] 30)).alloc (.cells #[.slice A0 (staF L f).f0.length c0, .slice A1 (staF L f).f1.length c1, .slice A2 (staF L f).f2.length c2, .slice A3 (staF L f).f3.length c3, .slice A4 (staF L f).f4.length c4] 41) := ⟨_, rfl⟩
  have bW : Below w.heap.size w W := by rw [hW]; go_grown
  have oW := hO.below bW hhi
  obtain ⟨g, hA, hg0, hg1, hgw, hc, hfz, hput⟩ := sta_put0 h32 oW (i := t) ht (a + m) ((a : Int) + (m : Int)) (by simp [fL])
  simp only at hA
  subst hA
  rw [ha] at hc
  have hcx : W.cell? ⟨g, t, none⟩ = some (.int .i64 a) := by rw [hc]; simp [fL]
  have hgw0 : g < w.heap.size := by omega
  have hpw : pb < w.heap.size := by omega
  have hgp : g ≠ pb := by omega
  have hlt : (t : Int) < ((staF L f).f0.length : Int) := by rw [n0]; omega
  have hlt2 : (t : Int) < (L.length : Int) := by omega
  have e1 : IntKind.i64.wrap ((a : Int) + (m : Int)) = (a : Int) + (m : Int) := wrap64_small (by omega) (by omega)
  have on1 : Only lo hi w (W.setCell ⟨g, t, none⟩ (.int .i64 ((a : Int) + (m : Int)))) := Only.setCell (Only.of_below bW : Only lo hi w W) (p := ⟨g, t, none⟩) hg0 hg1 _
  have On1 := Lib.hid on1
  have Put := Lib.hid hput
  have hcP : W.cell? ⟨pb, po + t, none⟩ = some (.slice Ai xs.length ci) := (bW.cell (p := ⟨pb, po + t, none⟩) hpw).trans hc1
  unfold maxLen at hmi
  have k0 : Bk W w.heap.size 30 #[.slice (some ⟨pb, po, none⟩) L.length c] := by rw [hW]; exact (Bk.new w _ _).alloc _
  have k1 : Bk W (w.heap.size + 1) 41 #[.slice (some ⟨g, 0, none⟩) (staF L f).f0.length c0, .slice A1 (staF L f).f1.length c1, .slice A2 (staF L f).f2.length c2, .slice A3 (staF L f).f3.length c3, .slice A4 (staF L f).f4.length c4] := by
    rw [hW]; have := Bk.new (w.alloc (.cells #[.slice (some ⟨pb, po, none⟩) L.length c] 30)) #[.slice (some ⟨g, 0, none⟩) (staF L f).f0.length c0, .slice A1 (staF L f).f1.length c1, .slice A2 (staF L f).f2.length c2, .slice A3 (staF L f).f3.length c3, .slice A4 (staF L f).f4.length c4] 41
    rwa [World.size_alloc] at this
  have cb0 := k0.cell 0
  have cb1 := k1.cell 0
  simp only [List.getElem?_toArray, List.getElem?_cons_zero] at cb0 cb1
  have K0 := Lib.hid k0
  have K1 := Lib.hid k1
  have HW := Lib.hid hW
  have zW := bW.size
  clear on1 hput bW oW hO n0 hc hc1 hP hxs ha hW k0 k1
  by_cases hle : a + m ≤ xs.length
  · have hfin : Hid (a + m = r) := Lib.hid (by rw [← hr.out]; omega)
    have hcmp : ¬ ((xs.length : Int) < (a : Int) + (m : Int)) := by omega
    clear hr
    go_enter Try.func187, Try.ntmps187
    go_wp2_with fail
    rw [← HW.out]
    go_region
    obtain ⟨V, hV⟩ : ∃ V, V = (W.setCell ⟨g, t, none⟩ (.int .i64 ((a : Int) + (m : Int)))).drew := ⟨_, rfl⟩
    have oV : StaO V lo hi ⟨some ⟨g, 0, none⟩, A1, A2, A3, A4, c0, c1, c2, c3, c4⟩ (staF L (upd f (3 + t) (a + m))) := by rw [hV]; exact Put.out.keep (Nat.le_refl _) (Nat.le_refl _) fun _ _ _ => rfl
    have onV : Only lo hi w V := by rw [hV]; exact On1.out.trans ⟨rfl, rfl, rfl, Nat.le_refl _, fun _ _ _ => rfl⟩
    have v0 : V.cell? ⟨w.heap.size, 0, none⟩ = some (.slice (some ⟨pb, po, none⟩) L.length c) := by rw [hV]; exact (K0.out.far (p := ⟨g, t, none⟩) (by show w.heap.size ≠ g; omega) _).cell 0
    have v1 : V.cell? ⟨w.heap.size + 1, 0, none⟩ = some (.slice (some ⟨g, 0, none⟩) (staF L f).f0.length c0) := by rw [hV]; exact (K1.out.far (p := ⟨g, t, none⟩) (by show w.heap.size + 1 ≠ g; omega) _).cell 0
    have vp : V.cell? ⟨pb, po + t, none⟩ = some (.slice Ai xs.length ci) := by rw [hV, World.cell?_drew, World.cell?_setCell_far _ _ _ _ (by show g ≠ pb; omega)]; exact hcP
    obtain ⟨g', hA', -, -, hgv, hcv, hfv, hput2⟩ := sta_put0 h32 oV (i := t) ht xs.length (xs.length : Int) (by simp [fL])
    obtain rfl : g = g' := by simp only at hA'; injection hA' with e; injection e
    have hcv' : V.cell? ⟨g, t, none⟩ = some (.int .i64 ((a : Int) + (m : Int))) := by rw [hcv]; simp [fL, upd]
    have e2 : upd (upd f (3 + t) (a + m)) (3 + t) xs.length = upd f (3 + t) xs.length := by funext p; unfold upd; split <;> rfl
    rw [e2] at hput2
    have On2 := Lib.hid (onV.setCell (p := ⟨g, t, none⟩) hg0 hg1 (.int .i64 xs.length))
    have Put2 := Lib.hid hput2
    have OV := Lib.hid oV
    have OnV := Lib.hid onV
    rw [← hV]
    clear hA' hcv e2 hput2 oV onV hV hcx hfz hcP cb0 cb1 Put On1 K0 K1
    go_wp2_with fail
    go_quiet (fail)
    have On3 := Lib.hid (OnV.out.trans (⟨rfl, rfl, rfl, Nat.le_refl _, fun _ _ _ => rfl⟩ : Only lo hi V (V.drewN nq)))
    have Put3 := Lib.hid (OV.out.keep (w' := V.drewN nq) (Nat.le_refl _) (Nat.le_refl _) fun _ _ _ => rfl)
    rw [hfin.out] at Put3
    clear v0 v1 vp hcv' hfv
    go_wp2
    exact bodyPost_end (v := .tuple #[]) (by simp [results, Try.results187, go_sem]) rfl ⟨rfl, On3.out, Put3.out⟩
  · have hfin : Hid (xs.length = r) := Lib.hid (by rw [← hr.out]; omega)
    have hcmp : (xs.length : Int) < (a : Int) + (m : Int) := by omega
    clear hr
    go_enter Try.func187, Try.ntmps187
    go_wp2_with fail
    rw [← HW.out]
    go_region
    obtain ⟨V, hV⟩ : ∃ V, V = (W.setCell ⟨g, t, none⟩ (.int .i64 ((a : Int) + (m : Int)))).drew := ⟨_, rfl⟩
    have oV : StaO V lo hi ⟨some ⟨g, 0, none⟩, A1, A2, A3, A4, c0, c1, c2, c3, c4⟩ (staF L (upd f (3 + t) (a + m))) := by rw [hV]; exact Put.out.keep (Nat.le_refl _) (Nat.le_refl _) fun _ _ _ => rfl
    have onV : Only lo hi w V := by rw [hV]; exact On1.out.trans ⟨rfl, rfl, rfl, Nat.le_refl _, fun _ _ _ => rfl⟩
    have v0 : V.cell? ⟨w.heap.size, 0, none⟩ = some (.slice (some ⟨pb, po, none⟩) L.length c) := by rw [hV]; exact (K0.out.far (p := ⟨g, t, none⟩) (by show w.heap.size ≠ g; omega) _).cell 0
    have v1 : V.cell? ⟨w.heap.size + 1, 0, none⟩ = some (.slice (some ⟨g, 0, none⟩) (staF L f).f0.length c0) := by rw [hV]; exact (K1.out.far (p := ⟨g, t, none⟩) (by show w.heap.size + 1 ≠ g; omega) _).cell 0
    have vp : V.cell? ⟨pb, po + t, none⟩ = some (.slice Ai xs.length ci) := by rw [hV, World.cell?_drew, World.cell?_setCell_far _ _ _ _ (by show g ≠ pb; omega)]; exact hcP
    obtain ⟨g', hA', -, -, hgv, hcv, hfv, hput2⟩ := sta_put0 h32 oV (i := t) ht xs.length (xs.length : Int) (by simp [fL])
    obtain rfl : g = g' := by simp only at hA'; injection hA' with e; injection e
    have hcv' : V.cell? ⟨g, t, none⟩ = some (.int .i64 ((a : Int) + (m : Int))) := by rw [hcv]; simp [fL, upd]
    have e2 : upd (upd f (3 + t) (a + m)) (3 + t) xs.length = upd f (3 + t) xs.length := by funext p; unfold upd; split <;> rfl
    rw [e2] at hput2
    have On2 := Lib.hid (onV.setCell (p := ⟨g, t, none⟩) hg0 hg1 (.int .i64 xs.length))
    have Put2 := Lib.hid hput2
    have OV := Lib.hid oV
    have OnV := Lib.hid onV
    rw [← hV]
    clear hA' hcv e2 hput2 oV onV hV hcx hfz hcP cb0 cb1 Put On1 K0 K1
    go_wp2_with fail
    go_quiet (fail)
    obtain ⟨U, hU⟩ : ∃ U, U = V.drewN nq := ⟨_, rfl⟩
    have u0 : U.cell? ⟨w.heap.size, 0, none⟩ = some (.slice (some ⟨pb, po, none⟩) L.length c) := by rw [hU]; exact v0
    have u1 : U.cell? ⟨w.heap.size + 1, 0, none⟩ = some (.slice (some ⟨g, 0, none⟩) (staF L f).f0.length c0) := by rw [hU]; exact v1
    have up : U.cell? ⟨pb, po + t, none⟩ = some (.slice Ai xs.length ci) := by rw [hU]; exact vp
    have ug : U.cell? ⟨g, t, none⟩ = some (.int .i64 ((a : Int) + (m : Int))) := by rw [hU]; exact hcv'
    have uf : U.frozen? ⟨g, t, none⟩ = false := by rw [hU]; exact hfv
    have ul : g < U.heap.size := by rw [hU]; exact hgv
    have On3 := Lib.hid (show Only lo hi w ((U.setCell ⟨g, t, none⟩ (.int .i64 xs.length)).drew) from On2.out.trans (by rw [hU]; exact ⟨rfl, rfl, rfl, by simp, fun _ _ _ => rfl⟩))
    have Put3 := Lib.hid (show StaO ((U.setCell ⟨g, t, none⟩ (.int .i64 xs.length)).drew) lo hi ⟨some ⟨g, 0, none⟩, A1, A2, A3, A4, c0, c1, c2, c3, c4⟩ (staF L (upd f (3 + t) r)) from by rw [← hfin.out, hU]; exact Put2.out.keep (Nat.le_refl _) (Nat.le_refl _) fun _ _ _ => rfl)
    rw [← hU]
    clear v0 v1 vp hcv' hfv hU On2 Put2 OV OnV hgv
    go_wp2_with fail
    go_region
    go_wp2
    exact bodyPost_end (v := .tuple #[]) (by simp [results, Try.results187, go_sem]) rfl ⟨rfl, On3.out, Put3.out⟩
end Go.Proofs.Ytiljakbjbiinkaa
