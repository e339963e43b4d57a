/-
  Lists of numbers of a call's own, written in place; lists of a word's numbers; the state of a state's word is the state.
-/
import Derived.Test.YtaghidaamcnpkabSNext
import Derived.Test.YtaghidaamcnpkabUnp
namespace Go.Proofs.Ytaghidaamcnpkab
open Go.RowKit Pl Go.BigFrame
set_option maxHeartbeats 4000000
set_option maxRecDepth 100000
set_option linter.unusedVariables false

theorem getD_lim {xs : List Int} {lo hi : Int} (h : ∀ (k : Nat) (x : Int), xs[k]? = some x → lo ≤ x ∧ x ≤ hi) {i : Nat} (hi_ : i < xs.length) : lo ≤ xs.getD i 0 ∧ xs.getD i 0 ≤ hi := by
  have h1 : xs[i]? = some xs[i] := List.getElem?_eq_getElem hi_
  rw [getD_at h1]
  exact h i _ h1
theorem wait_ok {L : Pg} {s : Sta} (P : StP L s) {t : Nat} {x : Sm} (hx : x.okb = true) : waitF (pkF s) t x = !okZ s t x := by
  unfold waitF okZ
  by_cases h6 : x.k = 6
  · rw [if_pos h6, if_pos h6]
    obtain ⟨n, hn, ha⟩ := ok_lock hx (Or.inl h6)
    rw [ha, Int.toNat_natCast, pk_own P hn]
    have := getD_lim P.v3 (i := n) (by have := P.m3; omega)
    rw [Bool.eq_iff_iff]; simp; omega
  rw [if_neg h6, if_neg h6]
  by_cases h7 : x.k = 7
  · rw [if_pos h7, if_pos h7]
    obtain ⟨n, hn, ha⟩ := ok_lock hx (Or.inr (Or.inl h7))
    rw [ha, Int.toNat_natCast, pk_own P hn]
    have := getD_lim P.v3 (i := n) (by have := P.m3; omega)
    rw [Bool.eq_iff_iff]; simp; omega
  rw [if_neg h7, if_neg h7]
  by_cases h8 : x.k = 8
  · rw [if_pos h8, if_pos h8]
    obtain ⟨n, hn, ha⟩ := ok_lock hx (Or.inr (Or.inr h8))
    rw [ha, Int.toNat_natCast, pk_chan P hn]
    have := getD_lim P.v4 (i := n) (by have := P.m4; omega)
    rw [Bool.eq_iff_iff]; simp; omega
  rw [if_neg h8, if_neg h8]
  by_cases h9 : x.k = 9
  · rw [if_pos h9, if_pos h9]
    obtain ⟨n, hn, hb⟩ := ok_get hx h9
    rw [hb, Int.toNat_natCast, pk_chan P hn]
    have := getD_lim P.v4 (i := n) (by have := P.m4; omega)
    rw [Bool.eq_iff_iff]; simp; omega
  rw [if_neg h9, if_neg h9]
  rfl
theorem can_nx {L : Pg} {s : Sta} (P : StP L s) {t : Nat} (ht : t < L.length) : canF L (pkF s) t = nxZ L s t := by
  have hx : L[t]? = some L[t] := List.getElem?_eq_getElem ht
  obtain ⟨xs, hxs⟩ : ∃ xs, L[t]? = some xs := ⟨_, hx⟩
  obtain ⟨i, hi, h0, h1⟩ := atZ_at P.at_ hxs
  unfold canF nxZ
  rw [pk_at P ht, getD_at hi, getD_some hxs]
  by_cases hl : i < (xs.length : Int)
  · have hn : i.toNat < xs.length := by omega
    have hxi : xs[i.toNat]? = some xs[i.toNat] := List.getElem?_eq_getElem hn
    have hsm : smAt L t i.toNat = xs[i.toNat] := by unfold smAt; rw [getD_some hxs]; exact getD_some hxi
    have hok := (prog_thr P.prog hxs).2 _ _ hxi
    rw [hsm, wait_ok P hok]
    have e : (i.toNat == xs.length) = false := by rw [beq_eq_false_iff_ne]; omega
    rw [e]; simp [hl]
  · have e : i.toNat = xs.length := by omega
    simp [e, hl]
end Go.Proofs.Ytaghidaamcnpkab
namespace Go.Proofs.Ytaghidaamcnpkab
open Go.RowKit Pl
set_option maxHeartbeats 2000000
set_option maxRecDepth 100000
set_option linter.unusedVariables false

theorem own_put {w : World} {lo hi : Nat} {t : TypeId} {A : Option Addr} {xs : List Int} (h : OwnVs w lo hi t A (ints xs)) {i : Nat} (hi' : i < xs.length) (x : Int) :
    ∃ g y, A = some ⟨g, 0, none⟩ ∧ lo ≤ g ∧ g < hi ∧ g < w.heap.size ∧ xs[i]? = some y ∧ w.cell? ⟨g, i, none⟩ = some (.int .i64 y) ∧ w.frozen? ⟨g, i, none⟩ = false ∧ OwnVs (w.setCell ⟨g, i, none⟩ (.int .i64 x)) lo hi t A (ints (xs.set i x)) := by
  obtain ⟨g, cs, hA, h0, hg, hb, hx⟩ := h (by rw [ints_length]; omega)
  have hy : xs[i]? = some xs[i] := List.getElem?_eq_getElem hi'
  have hc := hx i _ (ints_at hy)
  refine ⟨g, xs[i], hA, h0, hg, hb.lt, hy, (hb.cell i).trans hc, hb.free i, fun _ => ⟨g, _, hA, h0, hg, hb.set i (.int .i64 x), fun j v hj => ?_⟩⟩
  have hsz : i < cs.size := (Array.getElem?_eq_some_iff.1 hc).1
  by_cases e : i = j
  · subst e
    simp [ints, hi'] at hj
    subst hj
    simp [hsz]
  · rw [Array.getElem?_setIfInBounds_ne e]
    refine hx j v ?_
    rw [← hj]
    simp [ints, List.getElem?_set_ne e]
theorem own_apart {w : World} {lo hi : Nat} {t : TypeId} {A : Option Addr} {vs : List Value} (h : OwnVs w lo hi t A vs) {g i : Nat} {v : Value} (hne : 0 < vs.length → A ≠ some ⟨g, 0, none⟩) : OwnVs (w.setCell ⟨g, i, none⟩ v) lo hi t A vs := fun hn => by
  obtain ⟨g', cs, hA, h0, hg, hb, hx⟩ := h hn
  refine ⟨g', cs, hA, h0, hg, hb.far (by intro e; apply hne hn; rw [hA]; have e' : g' = g := e; rw [e']) v, hx⟩
theorem fldI_put {f : Nat → Nat} {b i v n : Nat} {l : Int} (hi : i < n) : fldI (upd f (b + i) v) b l n = (fldI f b l n).set i ((v : Int) + l) := by
  apply List.ext_getElem?
  intro j
  by_cases hj : j < n
  · rw [fldI_at hj]
    by_cases e : i = j
    · subst e
      rw [List.getElem?_set_self (by rw [fldI_length]; exact hi)]
      simp [upd]
    · rw [List.getElem?_set_ne e, fldI_at hj]
      have : upd f (b + i) v (b + j) = f (b + j) := by unfold upd; rw [if_neg (by omega)]
      rw [this]
  · rw [List.getElem?_eq_none (by rw [fldI_length]; omega), List.getElem?_eq_none (by rw [List.length_set, fldI_length]; omega)]
theorem fldI_apart {f : Nat → Nat} {p b v n : Nat} {l : Int} (h : p < b ∨ b + n ≤ p) : fldI (upd f p v) b l n = fldI f b l n := by
  apply List.ext_getElem?
  intro j
  by_cases hj : j < n
  · rw [fldI_at hj, fldI_at hj]
    have : upd f p v (b + j) = f (b + j) := by unfold upd; rw [if_neg (by omega)]
    rw [this]
  · rw [List.getElem?_eq_none (by rw [fldI_length]; omega), List.getElem?_eq_none (by rw [fldI_length]; omega)]
theorem fldI_congr {f g : Nat → Nat} {b n : Nat} {l : Int} (h : ∀ i, i < n → f (b + i) = g (b + i)) : fldI f b l n = fldI g b l n := by
  apply List.ext_getElem?
  intro j
  by_cases hj : j < n
  · rw [fldI_at hj, fldI_at hj, h j hj]
  · rw [List.getElem?_eq_none (by rw [fldI_length]; omega), List.getElem?_eq_none (by rw [fldI_length]; omega)]
theorem staF_congr {L : Pg} {f g : Nat → Nat} (h : ∀ p, 3 ≤ p → f p = g p) : staF L f = staF L g := by
  unfold staF
  rw [fldI_congr (f := f) (g := g) fun i _ => h _ (by omega), fldI_congr (f := f) (g := g) fun i _ => h _ (by omega), fldI_congr (f := f) (g := g) fun i _ => h _ (by omega), fldI_congr (f := f) (g := g) fun i _ => h _ (by omega), fldI_congr (f := f) (g := g) fun i _ => h _ (by omega)]

theorem fldI_back {f : Nat → Nat} {b : Nat} {l : Int} {xs : List Int} (hlo : ∀ (k : Nat) (x : Int), xs[k]? = some x → l ≤ x) (h : ∀ i, i < xs.length → f (b + i) = (xs.getD i 0 - l).toNat) : fldI f b l xs.length = xs := by
  apply List.ext_getElem?
  intro i
  by_cases hi : i < xs.length
  · have hx : xs[i]? = some xs[i] := List.getElem?_eq_getElem hi
    have := hlo i _ hx
    rw [fldI_at hi, h i hi, getD_at hx, hx]
    congr 1; omega
  · rw [List.getElem?_eq_none (by rw [fldI_length]; omega), List.getElem?_eq_none (by omega)]
theorem staF_pk {L : Pg} {s : Sta} (P : StP L s) : staF L (pkF s) = s := by
  have m0 := P.m0; have m1 := P.m1; have m2 := P.m2; have m3 := P.m3; have m4 := P.m4
  have e0 : fldI (pkF s) 3 (fL 0) L.length = s.f0 := by
    rw [← m0]; exact fldI_back (l := 0) (fun k x hx => (P.v0 k x hx).1) fun i hi => by rw [pk_at P (by omega)]; simp
  have e1 : fldI (pkF s) 6 (fL 1) (L.length * 3) = s.f1 := by
    rw [← m1]; exact fldI_back (l := 0) (fun k x hx => (P.v1 k x hx).1) fun i hi => by rw [pk_reg P (by omega)]; simp
  have e2 : fldI (pkF s) 15 (fL 2) 3 = s.f2 := by
    rw [show (3 : Nat) = s.f2.length from m2.symm]; exact fldI_back (l := 0) (fun k x hx => (P.v2 k x hx).1) fun i hi => by rw [pk_mem P (by omega)]; simp
  have e3 : fldI (pkF s) 18 (fL 3) 2 = s.f3 := by
    rw [show (2 : Nat) = s.f3.length from m3.symm]; exact fldI_back (l := -1) (fun k x hx => (P.v3 k x hx).1) fun i hi => by rw [pk_own P (by omega)]; rfl
  have e4 : fldI (pkF s) 20 (fL 4) 2 = s.f4 := by
    rw [show (2 : Nat) = s.f4.length from m4.symm]; exact fldI_back (l := -1) (fun k x hx => (P.v4 k x hx).1) fun i hi => by rw [pk_chan P (by omega)]; rfl
  unfold staF
  rw [e0, e1, e2, e3, e4]
theorem staF_wd {L : Pg} {s : Sta} (P : StP L s) : staF L (wdF L s) = s := by
  rw [staF_congr (g := pkF s) fun p hp => wdF_hi P hp]; exact staF_pk P
theorem sta_len (L : Pg) (f : Nat → Nat) : (staF L f).f0.length = L.length ∧ (staF L f).f1.length = L.length * 3 ∧ (staF L f).f2.length = 3 ∧ (staF L f).f3.length = 2 ∧ (staF L f).f4.length = 2 :=
  ⟨fldI_length _ _ _ _, fldI_length _ _ _ _, fldI_length _ _ _ _, fldI_length _ _ _ _, fldI_length _ _ _ _⟩
end Go.Proofs.Ytaghidaamcnpkab
