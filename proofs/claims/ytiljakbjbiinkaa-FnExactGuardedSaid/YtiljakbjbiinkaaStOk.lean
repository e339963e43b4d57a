/-
  Contracts of StateOk, of the program and of the reference model: both come to the same plain function of the program and the state.
-/
import Derived.Test.YtiljakbjbiinkaaVec
import Derived.Test.YtiljakbjbiinkaaEq
import Derived.Test.YtiljakbjbiinkaaCopy1
import Derived.Test.YtiljakbjbiinkaaOrdS
import Derived.Test.YtiljakbjbiinkaaPg
import Derived.Test.YtiljakbjbiinkaaIl
import Derived.Deep.QuietTactic
import Derived.BigQuiet
namespace Go.Proofs.Ytiljakbjbiinkaa
open Go.RowKit Pl
set_option linter.unusedVariables false

/-- A slice's address leads to these rows, below block B. -/
def Vss (w : World) (B : Nat) (A : Option Addr) (V : List (List Value)) : Prop :=
  0 < V.length → ∃ b off, A = some ⟨b, off, none⟩ ∧ b < B ∧ ∀ (i : Nat) (vs : List Value), V[i]? = some vs → ∃ Ai ci, w.cell? ⟨b, off + i, none⟩ = some (.slice Ai vs.length ci) ∧ Vs w B Ai vs
theorem Vss.keep {w w' : World} {B B' : Nat} {A : Option Addr} {V : List (List Value)} (h : Vss w B A V) (hB : B ≤ B') (hk : ∀ b o, b < B → w'.cell? ⟨b, o, none⟩ = w.cell? ⟨b, o, none⟩) : Vss w' B' A V := fun hn => by
  obtain ⟨b, off, hA, hb, hx⟩ := h hn
  refine ⟨b, off, hA, by omega, fun i vs hi => ?_⟩
  obtain ⟨Ai, ci, hc, hr⟩ := hx i vs hi
  exact ⟨Ai, ci, (hk b _ hb).trans hc, hr.keep hB hk⟩
theorem Vss.below {w w' : World} {B B' : Nat} {A : Option Addr} {V : List (List Value)} (h : Vss w B A V) (hb : Below B' w w') (hB : B ≤ B') : Vss w' B A V :=
  h.keep (Nat.le_refl _) fun b o hlt => hb.cell (p := ⟨b, o, none⟩) (by show b < B'; omega)
theorem Vss.up {w w' : World} {B B' B'' : Nat} {A : Option Addr} {V : List (List Value)} (h : Vss w B A V) (hb : Below B' w w') (hB : B ≤ B') (hB2 : B ≤ B'') : Vss w' B'' A V :=
  h.keep hB2 fun b o hlt => hb.cell (p := ⟨b, o, none⟩) (by show b < B'; omega)
theorem Vss.at_ {w : World} {B : Nat} {A : Option Addr} {V : List (List Value)} (h : Vss w B A V) {i : Nat} {vs : List Value} (hi : V[i]? = some vs) :
    ∃ b off Ai ci, A = some ⟨b, off, none⟩ ∧ b < B ∧ w.cell? ⟨b, off + i, none⟩ = some (.slice Ai vs.length ci) ∧ Vs w B Ai vs := by
  have hl := (List.getElem?_eq_some_iff.1 hi).1
  obtain ⟨b, off, hA, hb, hx⟩ := h (by omega)
  obtain ⟨Ai, ci, hc, hr⟩ := hx i vs hi
  exact ⟨b, off, Ai, ci, hA, hb, hc, hr⟩

/-- Rows of the call's own: each in a block that no other one has. -/
def OwnVss (w : World) (lo hi : Nat) (t te : TypeId) (A : Option Addr) (V : List (List Value)) : Prop :=
  0 < V.length → ∃ (g : Nat) (cs : Array Value) (D : Nat → Option Addr) (C : Nat → Nat), A = some ⟨g, 0, none⟩ ∧ lo ≤ g ∧ g < hi ∧ Bk w g t cs ∧
    (∀ (i : Nat) (vs : List Value), V[i]? = some vs → cs[i]? = some (.slice (D i) vs.length (C i)) ∧ OwnVs w lo hi te (D i) vs) ∧
    ∀ i j vs us, i < j → V[i]? = some vs → V[j]? = some us → 0 < vs.length → 0 < us.length → D i ≠ D j
theorem OwnVss.vss {w : World} {lo hi : Nat} {t te : TypeId} {A : Option Addr} {V : List (List Value)} (h : OwnVss w lo hi t te A V) : Vss w hi A V := fun hn => by
  obtain ⟨g, cs, D, C, hA, _, hg, hb, hx, _⟩ := h hn
  exact ⟨g, 0, hA, hg, fun i vs hi => ⟨D i, C i, by rw [Nat.zero_add]; exact (hb.cell i).trans (hx i vs hi).1, (hx i vs hi).2.vs⟩⟩
theorem OwnVss.keep {w w' : World} {lo hi lo' hi' : Nat} {t te : TypeId} {A : Option Addr} {V : List (List Value)} (h : OwnVss w lo hi t te A V) (hl : lo' ≤ lo) (hh : hi ≤ hi') (hk : ∀ i, lo ≤ i → i < hi → w'.heap[i]? = w.heap[i]?) : OwnVss w' lo' hi' t te A V := fun hn => by
  obtain ⟨g, cs, D, C, hA, h0, hg, hb, hx, hd⟩ := h hn
  exact ⟨g, cs, D, C, hA, by omega, by omega, (hk g h0 hg).trans hb, fun i vs hi => ⟨(hx i vs hi).1, (hx i vs hi).2.keep hl hh hk⟩, hd⟩
theorem OwnVss.below {w w' : World} {lo hi B : Nat} {t te : TypeId} {A : Option Addr} {V : List (List Value)} (h : OwnVss w lo hi t te A V) (hb : Below B w w') (hB : hi ≤ B) : OwnVss w' lo hi t te A V :=
  h.keep (Nat.le_refl _) (Nat.le_refl _) fun i _ hi => hb.block i (by omega)
theorem OwnVss.nil (w : World) (lo hi : Nat) (t te : TypeId) (A : Option Addr) : OwnVss w lo hi t te A [] := fun h => absurd h (by simp)

/-- How many values there are in all rows. -/
def tot {α : Type} (L : List (List α)) : Nat := (L.map List.length).sum
theorem tot_cons {α : Type} (x : List α) (r : List (List α)) : tot (x :: r) = x.length + tot r := by simp [tot]
theorem tot_take_succ {α : Type} {L : List (List α)} {k : Nat} {xs : List α} (h : L[k]? = some xs) : tot (L.take (k + 1)) = tot (L.take k) + xs.length := by
  rw [List.take_add_one, h]
  simp [tot]
theorem tot_take_le {α : Type} (L : List (List α)) (k : Nat) : tot (L.take k) ≤ tot L := by
  have : tot L = tot (L.take k) + tot (L.drop k) := by
    simp only [tot, List.map_take, List.map_drop]
    rw [← List.sum_append, List.take_append_drop]
  omega
theorem tot_mem {α : Type} {L : List (List α)} {k : Nat} {xs : List α} (h : L[k]? = some xs) : xs.length ≤ tot L := by
  have := tot_take_succ h
  have := tot_take_le L (k + 1)
  omega
end Go.Proofs.Ytiljakbjbiinkaa
namespace Go.Proofs.Ytiljakbjbiinkaa
open Go.RowKit Pl Go.BigFrame
set_option maxHeartbeats 4000000
set_option maxRecDepth 100000
set_option linter.unusedVariables false

abbrev Bss := List (List Bool)
def vsBss (L : Bss) : List (List Value) := L.map bools
@[simp] theorem vsBss_length (L : Bss) : (vsBss L).length = L.length := by simp [vsBss]
theorem vsBss_at {L : Bss} {i : Nat} {xs : List Bool} (h : L[i]? = some xs) : (vsBss L)[i]? = some (bools xs) := by simp [vsBss, h]
theorem vsBss_inv {L : Bss} {i : Nat} {vs : List Value} (h : (vsBss L)[i]? = some vs) : ∃ xs, L[i]? = some xs ∧ vs = bools xs := by
  simp only [vsBss, List.getElem?_map, Option.map_eq_some_iff] at h
  obtain ⟨xs, h1, h2⟩ := h
  exact ⟨xs, h1, h2.symm⟩
structure BssH where
  A : Option Addr
  c : Nat
abbrev BssV (h : BssH) (o : Bss) : Value := .slice h.A o.length h.c
structure BssR (w : World) (B : Nat) (h : BssH) (o : Bss) : Prop where
  v : Vss w B h.A (vsBss o)
structure BssL (o : Bss) (m : Nat) : Prop where
  l0 : o.length ≤ m
  l1 : tot o ≤ m
abbrev BssS (o : Bss) : Prop := BssL o 1048576
theorem BssS_L {o : Bss} (s : BssS o) : BssL o maxLen := ⟨Nat.le_trans s.l0 (by unfold maxLen; omega), Nat.le_trans s.l1 (by unfold maxLen; omega)⟩
structure BssO (w : World) (lo hi : Nat) (h : BssH) (o : Bss) : Prop where
  o0 : OwnVss w lo hi 62 4 h.A (vsBss o)
theorem BssR.below {w w' : World} {B B' : Nat} {h : BssH} {o : Bss} (r : BssR w B h o) (hb : Below B' w w') (hB : B ≤ B') : BssR w' B h o := ⟨r.v.below hb hB⟩
theorem BssR.up {w w' : World} {B B' B'' : Nat} {h : BssH} {o : Bss} (r : BssR w B h o) (hb : Below B' w w') (hB : B ≤ B') (hB2 : B ≤ B'') : BssR w' B'' h o := ⟨r.v.up hb hB hB2⟩
theorem BssO.rd {w : World} {lo hi : Nat} {h : BssH} {o : Bss} (r : BssO w lo hi h o) : BssR w hi h o := ⟨r.o0.vss⟩
theorem BssO.below {w w' : World} {lo hi B : Nat} {h : BssH} {o : Bss} (r : BssO w lo hi h o) (hb : Below B w w') (hB : hi ≤ B) : BssO w' lo hi h o := ⟨r.o0.below hb hB⟩
theorem BssO.keep {w w' : World} {lo hi lo' hi' : Nat} {h : BssH} {o : Bss} (r : BssO w lo hi h o) (hl : lo' ≤ lo) (hh : hi ≤ hi') (hk : ∀ i, lo ≤ i → i < hi → w'.heap[i]? = w.heap[i]?) : BssO w' lo' hi' h o := ⟨r.o0.keep hl hh hk⟩

/-! ### marks -/
/-- The rows behind marks. -/
def upBss : Int → Bss → Bss
  | _, [] => []
  | K, x :: r => upB K x.length :: upBss (K + (x.length : Int)) r
theorem upBss_length : ∀ (L : Bss) (K : Int), (upBss K L).length = L.length := by
  intro L
  induction L with
  | nil => intro K; rfl
  | cons x r ih => intro K; simp [upBss, ih]
theorem upBss_at : ∀ {L : Bss} {K : Int} {i : Nat} {xs : List Bool}, L[i]? = some xs → (upBss K L)[i]? = some (upB (K + (tot (L.take i) : Int)) xs.length) := by
  intro L
  induction L with
  | nil => intro K i xs h; simp at h
  | cons y r ih =>
    intro K i xs h
    cases i with
    | zero => simp at h; subst h; simp [upBss, tot]
    | succ i =>
      simp at h
      rw [upBss, List.getElem?_cons_succ, ih h, List.take_succ_cons, tot_cons]
      congr 2
      rw [Int.natCast_add]; omega
theorem upBss_inv {L : Bss} {K : Int} {i : Nat} {xs : List Bool} (h : (upBss K L)[i]? = some xs) : ∃ ys, L[i]? = some ys ∧ xs = upB (K + (tot (L.take i) : Int)) ys.length := by
  have hl := (List.getElem?_eq_some_iff.1 h).1
  rw [upBss_length] at hl
  refine ⟨L[i], List.getElem?_eq_getElem hl, ?_⟩
  rw [upBss_at (List.getElem?_eq_getElem hl)] at h
  injection h with h
  exact h.symm
def allBss (L : Bss) : Int := (tot L : Int)
def MkBss (w wr : World) (lo hi g : Nat) (cs : Array Value) (D : Nat → Option Addr) (L : Bss) (K : Int) (k : Nat) : Prop :=
  Only lo hi w wr ∧ Bk wr g 62 cs ∧ ∀ (i : Nat) (xs : List Bool), L[i]? = some xs → OwnVs wr lo hi 4 (D i) (bools (if i < k then upB (K + (tot (L.take i) : Int)) xs.length else xs))
theorem MkBss.next {w wr w1 : World} {lo hi g : Nat} {cs : Array Value} {D : Nat → Option Addr} {L : Bss} {K : Int} {k gk : Nat} {xs : List Bool} (h : MkBss w wr lo hi g cs D L K k)
    (hd : ∀ i j xs ys, i < j → L[i]? = some xs → L[j]? = some ys → 0 < xs.length → 0 < ys.length → D i ≠ D j) (hx : L[k]? = some xs) (h0 : 0 < xs.length) (hDk : D k = some ⟨gk, 0, none⟩) (hlo : lo ≤ gk) (hhi : gk < hi) (hb : ∃ c0, Bk wr gk 4 c0)
    (hm : MarkV wr w1 gk 4 (bools (upB (K + (tot (L.take k) : Int)) xs.length)) (bools (upB (K + (tot (L.take k) : Int)) xs.length)).length) : MkBss w w1 lo hi g cs D L K (k + 1) := by
  obtain ⟨o, b, r⟩ := h
  obtain ⟨c0, hb⟩ := hb
  have hne : g ≠ gk := by
    intro e; subst e
    unfold Bk at b hb; rw [b] at hb
    injection hb with hb; injection hb with _ hb; cases hb
  have hkeep : ∀ q, q ≠ gk → q < wr.heap.size → w1.heap[q]? = wr.heap[q]? := fun q hq hql => hm.1.block q hql (by omega)
  refine ⟨o.trans (hm.1.mono hlo (by omega)), (hkeep g hne b.lt).trans b, fun i ys hi => ?_⟩
  by_cases e : i = k
  · subst e
    obtain rfl : xs = ys := by rw [hx] at hi; injection hi
    rw [if_pos (by omega), hDk]
    exact hm.done.keep hlo (by omega) fun _ _ _ => rfl
  · have hr := r i ys hi
    have e2 : (if i < k + 1 then upB (K + (tot (L.take i) : Int)) ys.length else ys) = if i < k then upB (K + (tot (L.take i) : Int)) ys.length else ys := by
      by_cases h1 : i < k
      · rw [if_pos h1, if_pos (by omega)]
      · rw [if_neg h1, if_neg (by omega)]
    rw [e2]
    intro hn
    obtain ⟨q, cq, hA, h1, h2, h3, h4⟩ := hr hn
    have hyl : 0 < ys.length := by
      rw [bools_length] at hn
      by_cases h5 : i < k
      · rw [if_pos h5, upB_length] at hn; exact hn
      · rw [if_neg h5] at hn; exact hn
    refine ⟨q, cq, hA, h1, h2, (hkeep q (fun e3 => ?_) h3.lt).trans h3, h4⟩
    subst e3
    rcases Nat.lt_or_ge i k with h6 | h6
    · exact hd i k ys xs h6 hi hx hyl h0 (by rw [hA, hDk])
    · exact hd k i xs ys (by omega) hx hi h0 hyl (by rw [hA, hDk])
theorem MkBss.skip {w wr : World} {lo hi g : Nat} {cs : Array Value} {D : Nat → Option Addr} {L : Bss} {K : Int} {k : Nat} {xs : List Bool} (h : MkBss w wr lo hi g cs D L K k) (hx : L[k]? = some xs) (h0 : xs.length = 0) : MkBss w wr lo hi g cs D L K (k + 1) := by
  obtain ⟨o, b, r⟩ := h
  refine ⟨o, b, fun i ys hi => ?_⟩
  by_cases e : i = k
  · subst e
    obtain rfl : xs = ys := by rw [hx] at hi; injection hi
    intro hn
    rw [if_pos (by omega), bools_length, upB_length] at hn
    omega
  · have e2 : (if i < k + 1 then upB (K + (tot (L.take i) : Int)) ys.length else ys) = if i < k then upB (K + (tot (L.take i) : Int)) ys.length else ys := by
      by_cases h1 : i < k
      · rw [if_pos h1, if_pos (by omega)]
      · rw [if_neg h1, if_neg (by omega)]
    rw [e2]; exact r i ys hi
end Go.Proofs.Ytiljakbjbiinkaa
namespace Go.Proofs.Ytiljakbjbiinkaa
open Go.RowKit Pl Go.BigFrame
set_option maxHeartbeats 4000000
set_option maxRecDepth 100000
set_option linter.unusedVariables false

abbrev Iss := List (List Int)
def vsIss (L : Iss) : List (List Value) := L.map ints
@[simp] theorem vsIss_length (L : Iss) : (vsIss L).length = L.length := by simp [vsIss]
theorem vsIss_at {L : Iss} {i : Nat} {xs : List Int} (h : L[i]? = some xs) : (vsIss L)[i]? = some (ints xs) := by simp [vsIss, h]
theorem vsIss_inv {L : Iss} {i : Nat} {vs : List Value} (h : (vsIss L)[i]? = some vs) : ∃ xs, L[i]? = some xs ∧ vs = ints xs := by
  simp only [vsIss, List.getElem?_map, Option.map_eq_some_iff] at h
  obtain ⟨xs, h1, h2⟩ := h
  exact ⟨xs, h1, h2.symm⟩
structure IssH where
  A : Option Addr
  c : Nat
abbrev IssV (h : IssH) (o : Iss) : Value := .slice h.A o.length h.c
structure IssR (w : World) (B : Nat) (h : IssH) (o : Iss) : Prop where
  v : Vss w B h.A (vsIss o)
structure IssL (o : Iss) (m : Nat) : Prop where
  l0 : o.length ≤ m
  l1 : tot o ≤ m
abbrev IssS (o : Iss) : Prop := IssL o 1048576
theorem IssS_L {o : Iss} (s : IssS o) : IssL o maxLen := ⟨Nat.le_trans s.l0 (by unfold maxLen; omega), Nat.le_trans s.l1 (by unfold maxLen; omega)⟩
structure IssO (w : World) (lo hi : Nat) (h : IssH) (o : Iss) : Prop where
  o0 : OwnVss w lo hi 39 3 h.A (vsIss o)
theorem IssR.below {w w' : World} {B B' : Nat} {h : IssH} {o : Iss} (r : IssR w B h o) (hb : Below B' w w') (hB : B ≤ B') : IssR w' B h o := ⟨r.v.below hb hB⟩
theorem IssR.up {w w' : World} {B B' B'' : Nat} {h : IssH} {o : Iss} (r : IssR w B h o) (hb : Below B' w w') (hB : B ≤ B') (hB2 : B ≤ B'') : IssR w' B'' h o := ⟨r.v.up hb hB hB2⟩
theorem IssO.rd {w : World} {lo hi : Nat} {h : IssH} {o : Iss} (r : IssO w lo hi h o) : IssR w hi h o := ⟨r.o0.vss⟩
theorem IssO.below {w w' : World} {lo hi B : Nat} {h : IssH} {o : Iss} (r : IssO w lo hi h o) (hb : Below B w w') (hB : hi ≤ B) : IssO w' lo hi h o := ⟨r.o0.below hb hB⟩
theorem IssO.keep {w w' : World} {lo hi lo' hi' : Nat} {h : IssH} {o : Iss} (r : IssO w lo hi h o) (hl : lo' ≤ lo) (hh : hi ≤ hi') (hk : ∀ i, lo ≤ i → i < hi → w'.heap[i]? = w.heap[i]?) : IssO w' lo' hi' h o := ⟨r.o0.keep hl hh hk⟩

/-- Lengths alone: of the list, and of each row. -/
structure IssM (o : Iss) (m : Nat) : Prop where
  l0 : o.length ≤ m
  l1 : ∀ xs ∈ o, xs.length ≤ m
theorem IssL.m {o : Iss} {m : Nat} (h : IssL o m) : IssM o m := ⟨h.l0, fun xs hx => by obtain ⟨i, hi⟩ := List.getElem?_of_mem hx; exact Nat.le_trans (tot_mem hi) h.l1⟩
theorem eqIss_m (k1 k2 : IssH) (L1 L2 : Iss) (w : World) (B : Nat) (r1 : IssR w B k1 L1) (r2 : IssR w B k2 L2) (hB : B ≤ w.heap.size) (S1 : IssM L1 maxLen) (S2 : IssM L2 maxLen) (r : Bool) (hr : Hid (decide (L1 = L2) = r)) :
    Calls Try.prog 66 #[IssV k1 L1, IssV k2 L2] w fun e w' => e = .returned (.bool r) ∧ Below w.heap.size w w' := by
  obtain ⟨A1, c1⟩ := k1
  obtain ⟨A2, c2⟩ := k2
  obtain ⟨hm1, ht1⟩ := S1
  obtain ⟨hm2, ht2⟩ := S2
  obtain ⟨h1⟩ := r1
  obtain ⟨h2⟩ := r2
  unfold maxLen at hm1 hm2 ht1 ht2
  have h1 : Vss w B A1 (vsIss L1) := h1
  have h2 : Vss w B A2 (vsIss L2) := h2
  show Calls Try.prog 66 #[.slice A1 L1.length c1, .slice A2 L2.length c2] w _
  by_cases hne : L1.length = L2.length
  · have heq : ((L1.length : Int) != (L2.length : Int)) = false := by simp [hne]
    have hle : L1.length ≤ L2.length := by omega
    have hge : L2.length ≤ L1.length := by omega
    clear hne
    go_enter Try.func66, Try.ntmps66
    go_wp2
    go_loopw [5] (fun i wr => ∃ k : Nat, k ≤ L1.length ∧ i = .int .i64 k ∧ Below w.heap.size w wr ∧ Hid (decide (L1.drop k = L2.drop k) = r)) (fun i _ => L1.length - (intOf i).toNat)
    case atStart => exact ⟨0, Nat.zero_le _, rfl, Below.refl _ _, by simpa using hr⟩
    case round =>
      obtain ⟨k, hk, rfl, hbel, hrest⟩ := hrel
      clear hr heq
      by_cases hlt : k < L1.length
      · obtain ⟨xs, hxs, hd1⟩ := drop_at hlt
        obtain ⟨ys, hys, hd2⟩ := drop_at (show k < L2.length by omega)
        obtain ⟨b1, off1, Ai, ci, rfl, hb1, hx0, hrx⟩ := (h1.below hbel hB).at_ (vsIss_at hxs)
        obtain ⟨b2, off2, Aj, cj, rfl, hb2, hy0, hry⟩ := (h2.below hbel hB).at_ (vsIss_at hys)
        rw [ints_length] at hx0 hy0
        have hlx : xs.length ≤ 9223372036854775807 := ht1 xs (List.mem_of_getElem? hxs)
        have hly : ys.length ≤ 9223372036854775807 := ht2 ys (List.mem_of_getElem? hys)
        have hz := hbel.size
        have hi1 : (k : Int) < (L1.length : Int) := by omega
        have hi2 : (k : Int) < (L2.length : Int) := by omega
        have Hd1 := Lib.hid hd1
        have Hd2 := Lib.hid hd2
        have Gx := Lib.hid (fun x : Ws (Fr wr []) => hrx.below x.ok.below (by omega))
        have Gy := Lib.hid (fun x : Ws (Fr wr []) => hry.below x.ok.below (by omega))
        have hS := fr_none wr
        have gx0 := Ws.same (bs := []) (by omega) hx0
        have gy0 := Ws.same (bs := []) (by omega) hy0
        haveI hne := Nonempty.intro (Ws.mk _ hS)
        have HS := Lib.hid hS
        clear hS hd1 hd2 hx0 hy0 h1 h2 hrx hry hxs hys
        rcases Bool.eq_false_or_eq_true (decide (xs = ys)) with he | he
        all_goals
          have He := Lib.hid he
          clear he
          go_wp2_with fail
          refine region_in (by kernel_rfl) HS.out.drew ?_
          repeat (go_big_quiet_step ((go_at_call 34; exact call_in (eqInt_any Ai Aj xs ys ci cj _ B (Gx.out _) (Gy.out _) (by unfold maxLen; omega) (by unfold maxLen; omega) _ He))))
          refine wpQuiet_nil ?_
          rintro w2 ⟨⟨_, hw2⟩, rfl⟩
          have hB2 : Below w.heap.size w w2 := below_on hbel hw2.below
          clear gx0 gy0
          go_wp2
        · go_roundw
          case rel => exact ⟨k + 1, by omega, by go_num, hB2, by
            have hxy : xs = ys := of_decide_eq_true He.out
            have := hrest.out
            rw [Hd1.out, Hd2.out, hxy] at this
            exact Lib.hid (by rw [← this]; simp)⟩
          case measure => simp [intOf]; omega
        · go_ret
          refine ⟨?_, hB2⟩
          have hxy : xs ≠ ys := of_decide_eq_false He.out
          have := hrest.out
          rw [Hd1.out, Hd2.out] at this
          rw [← this]
          simp [hxy]
      · have hlast : Hid (r = true) := Lib.hid (by
          have := hrest.out
          rw [List.drop_eq_nil_of_le (by omega), List.drop_eq_nil_of_le (by omega)] at this
          rw [← this]; rfl)
        go_wp2
        go_ret
        exact ⟨by rw [hlast.out]; rfl, hbel⟩
  · have hlast : Hid (r = false) := Lib.hid (by rw [← hr.out]; exact decide_eq_false (fun e => hne (by rw [e])))
    have heq : ((L1.length : Int) != (L2.length : Int)) = true := by simp; omega
    clear hr
    go_enter Try.func66, Try.ntmps66
    go_wp2
    go_ret
    exact ⟨by rw [hlast.out]; rfl, Below.refl _ _⟩

theorem eqIss_any (k1 k2 : IssH) (L1 L2 : Iss) (w : World) (B : Nat) (r1 : IssR w B k1 L1) (r2 : IssR w B k2 L2) (hB : B ≤ w.heap.size) (S1 : IssL L1 maxLen) (S2 : IssL L2 maxLen) (r : Bool) (hr : Hid (decide (L1 = L2) = r)) :
    Calls Try.prog 66 #[IssV k1 L1, IssV k2 L2] w fun e w' => e = .returned (.bool r) ∧ Below w.heap.size w w' := eqIss_m k1 k2 L1 L2 w B r1 r2 hB S1.m S2.m r hr

/-! ### marks -/
/-- The rows behind marks. -/
def upIss : Int → Iss → Iss
  | _, [] => []
  | K, x :: r => upI K x.length :: upIss (K + (x.length : Int)) r
theorem upIss_length : ∀ (L : Iss) (K : Int), (upIss K L).length = L.length := by
  intro L
  induction L with
  | nil => intro K; rfl
  | cons x r ih => intro K; simp [upIss, ih]
theorem upIss_at : ∀ {L : Iss} {K : Int} {i : Nat} {xs : List Int}, L[i]? = some xs → (upIss K L)[i]? = some (upI (K + (tot (L.take i) : Int)) xs.length) := by
  intro L
  induction L with
  | nil => intro K i xs h; simp at h
  | cons y r ih =>
    intro K i xs h
    cases i with
    | zero => simp at h; subst h; simp [upIss, tot]
    | succ i =>
      simp at h
      rw [upIss, List.getElem?_cons_succ, ih h, List.take_succ_cons, tot_cons]
      congr 2
      rw [Int.natCast_add]; omega
theorem upIss_inv {L : Iss} {K : Int} {i : Nat} {xs : List Int} (h : (upIss K L)[i]? = some xs) : ∃ ys, L[i]? = some ys ∧ xs = upI (K + (tot (L.take i) : Int)) ys.length := by
  have hl := (List.getElem?_eq_some_iff.1 h).1
  rw [upIss_length] at hl
  refine ⟨L[i], List.getElem?_eq_getElem hl, ?_⟩
  rw [upIss_at (List.getElem?_eq_getElem hl)] at h
  injection h with h
  exact h.symm
def allIss (L : Iss) : Int := (tot L : Int)
def MkIss (w wr : World) (lo hi g : Nat) (cs : Array Value) (D : Nat → Option Addr) (L : Iss) (K : Int) (k : Nat) : Prop :=
  Only lo hi w wr ∧ Bk wr g 39 cs ∧ ∀ (i : Nat) (xs : List Int), L[i]? = some xs → OwnVs wr lo hi 3 (D i) (ints (if i < k then upI (K + (tot (L.take i) : Int)) xs.length else xs))
theorem MkIss.next {w wr w1 : World} {lo hi g : Nat} {cs : Array Value} {D : Nat → Option Addr} {L : Iss} {K : Int} {k gk : Nat} {xs : List Int} (h : MkIss w wr lo hi g cs D L K k)
    (hd : ∀ i j xs ys, i < j → L[i]? = some xs → L[j]? = some ys → 0 < xs.length → 0 < ys.length → D i ≠ D j) (hx : L[k]? = some xs) (h0 : 0 < xs.length) (hDk : D k = some ⟨gk, 0, none⟩) (hlo : lo ≤ gk) (hhi : gk < hi) (hb : ∃ c0, Bk wr gk 3 c0)
    (hm : MarkV wr w1 gk 3 (ints (upI (K + (tot (L.take k) : Int)) xs.length)) (ints (upI (K + (tot (L.take k) : Int)) xs.length)).length) : MkIss w w1 lo hi g cs D L K (k + 1) := by
  obtain ⟨o, b, r⟩ := h
  obtain ⟨c0, hb⟩ := hb
  have hne : g ≠ gk := by
    intro e; subst e
    unfold Bk at b hb; rw [b] at hb
    injection hb with hb; injection hb with _ hb; cases hb
  have hkeep : ∀ q, q ≠ gk → q < wr.heap.size → w1.heap[q]? = wr.heap[q]? := fun q hq hql => hm.1.block q hql (by omega)
  refine ⟨o.trans (hm.1.mono hlo (by omega)), (hkeep g hne b.lt).trans b, fun i ys hi => ?_⟩
  by_cases e : i = k
  · subst e
    obtain rfl : xs = ys := by rw [hx] at hi; injection hi
    rw [if_pos (by omega), hDk]
    exact hm.done.keep hlo (by omega) fun _ _ _ => rfl
  · have hr := r i ys hi
    have e2 : (if i < k + 1 then upI (K + (tot (L.take i) : Int)) ys.length else ys) = if i < k then upI (K + (tot (L.take i) : Int)) ys.length else ys := by
      by_cases h1 : i < k
      · rw [if_pos h1, if_pos (by omega)]
      · rw [if_neg h1, if_neg (by omega)]
    rw [e2]
    intro hn
    obtain ⟨q, cq, hA, h1, h2, h3, h4⟩ := hr hn
    have hyl : 0 < ys.length := by
      rw [ints_length] at hn
      by_cases h5 : i < k
      · rw [if_pos h5, upI_length] at hn; exact hn
      · rw [if_neg h5] at hn; exact hn
    refine ⟨q, cq, hA, h1, h2, (hkeep q (fun e3 => ?_) h3.lt).trans h3, h4⟩
    subst e3
    rcases Nat.lt_or_ge i k with h6 | h6
    · exact hd i k ys xs h6 hi hx hyl h0 (by rw [hA, hDk])
    · exact hd k i xs ys (by omega) hx hi h0 hyl (by rw [hA, hDk])
theorem MkIss.skip {w wr : World} {lo hi g : Nat} {cs : Array Value} {D : Nat → Option Addr} {L : Iss} {K : Int} {k : Nat} {xs : List Int} (h : MkIss w wr lo hi g cs D L K k) (hx : L[k]? = some xs) (h0 : xs.length = 0) : MkIss w wr lo hi g cs D L K (k + 1) := by
  obtain ⟨o, b, r⟩ := h
  refine ⟨o, b, fun i ys hi => ?_⟩
  by_cases e : i = k
  · subst e
    obtain rfl : xs = ys := by rw [hx] at hi; injection hi
    intro hn
    rw [if_pos (by omega), ints_length, upI_length] at hn
    omega
  · have e2 : (if i < k + 1 then upI (K + (tot (L.take i) : Int)) ys.length else ys) = if i < k then upI (K + (tot (L.take i) : Int)) ys.length else ys := by
      by_cases h1 : i < k
      · rw [if_pos h1, if_pos (by omega)]
      · rw [if_neg h1, if_neg (by omega)]
    rw [e2]; exact r i ys hi
theorem markIss_any (h : IssH) (L : Iss) (K : Int) (w : World) (lo hi : Nat) (hO : IssO w lo hi h L) (hhi : hi ≤ w.heap.size) (hL : IssL L 1048576) (hK : 0 ≤ K) (hK2 : K ≤ 100000000) :
    Calls Try.prog 69 #[IssV h L, .int .i64 K] w fun e w' => e = .returned (.int .i64 (K + allIss L)) ∧ Only lo hi w w' ∧ IssO w' lo hi h (upIss K L) := by
  obtain ⟨hl, ht⟩ := hL
  obtain ⟨A, c⟩ := h
  unfold allIss
  by_cases hn : 0 < L.length
  · obtain ⟨g, cs, D, C, hA, hg1, hg2, hbk, hx, hd⟩ := hO.o0 (by rw [vsIss_length]; exact hn)
    obtain rfl : A = some ⟨g, 0, none⟩ := hA
    have start : Hid (MkIss w w lo hi g cs D L K 0) := Lib.hid ⟨Only.refl _ _ _, hbk, fun i xs hi => by rw [if_neg (by omega)]; exact (hx i _ (vsIss_at hi)).2⟩
    have Hx := Lib.hid (fun i xs hi => (hx i _ (vsIss_at (i := i) (xs := xs) hi)).1)
    have Hd := Lib.hid (fun i j (xs ys : List Int) hij hi hj (h1 : 0 < xs.length) (h2 : 0 < ys.length) => hd i j _ _ hij (vsIss_at hi) (vsIss_at hj) (by rw [ints_length]; exact h1) (by rw [ints_length]; exact h2))
    have Hg1 := Lib.hid hg1
    have Hg2 := Lib.hid hg2
    clear hbk hO hx hd hg1 hg2
    show Calls Try.prog 69 #[.slice (some ⟨g, 0, none⟩) L.length c, .int .i64 K] w _
    go_enter Try.func69, Try.ntmps69
    go_wp2
    go_loopw [1, 5] (fun q i wr => ∃ k : Nat, k ≤ L.length ∧ i = .int .i64 k ∧ q = .int .i64 (K + (tot (L.take k) : Int)) ∧ MkIss w wr lo hi g cs D L K k) (fun _ i _ => L.length - (intOf i).toNat)
    case atStart => exact ⟨0, Nat.zero_le _, rfl, by simp [tot], start.out⟩
    case round =>
      obtain ⟨k, hk, rfl, rfl, hmk⟩ := hrel
      clear start
      have htk := tot_take_le L k
      by_cases hlt : k < L.length
      · have hxk : L[k]? = some L[k] := List.getElem?_eq_getElem hlt
        obtain ⟨xs, hxs⟩ : ∃ xs, L[k]? = some xs := ⟨_, hxk⟩
        have h1 := Hx.out k xs hxs
        rw [ints_length] at h1
        have hcell := (hmk.2.1.cell k).trans h1
        have htot := tot_take_succ hxs
        have hxl : xs.length ≤ 1048576 := by have := tot_take_le L (k + 1); omega
        have Hxs := Lib.hid hxs
        have Htot := Lib.hid htot
        have Hmk := Lib.hid hmk
        clear hxk h1 hxs htot hmk
        by_cases h0 : xs.length = 0
        · rw [h0] at hcell
          go_wp2_with (go_at_call 35; refine (markInt_none _ _ _ _ (by omega) (by omega)).mono ?_; rintro e w' ⟨rfl, rfl⟩)
          go_roundw
          case rel => exact ⟨k + 1, by omega, by go_num, by rw [Htot.out, h0]; go_num, Hmk.out.skip Hxs.out h0⟩
          case measure => simp [intOf]; omega
        · have hrow := Hmk.out.2.2 k xs Hxs.out
          rw [if_neg (by omega)] at hrow
          obtain ⟨gk, c0, hDk, hlo, hhi', hbk, hcs⟩ := hrow (by rw [ints_length]; omega)
          have hsz : xs.length ≤ c0.size := by
            obtain ⟨v, hv⟩ : ∃ v, (ints xs)[xs.length - 1]? = some v := ⟨_, List.getElem?_eq_getElem (by rw [ints_length]; omega)⟩
            have := (Array.getElem?_eq_some_iff.1 (hcs _ v hv)).1
            omega
          rw [hDk] at hcell
          have HDk := Lib.hid hDk
          have Hbk := Lib.hid hbk
          have Hlo := Lib.hid hlo
          have Hhi := Lib.hid hhi'
          have h00 : 0 < xs.length := by omega
          clear hDk hbk hcs hlo hhi' h0
          go_wp2_with (go_at_call 35; refine (markInt_any xs.length gk _ c0 _ _ Hbk.out hsz hxl (by omega) (by omega)).mono ?_; rintro e w1 ⟨rfl, hm1⟩; have Next := Lib.hid (Hmk.out.next Hd.out Hxs.out h00 HDk.out Hlo.out Hhi.out ⟨_, Hbk.out⟩ hm1); clear hm1)
          go_roundw
          case rel => exact ⟨k + 1, by omega, by go_num, by rw [Htot.out]; go_num, Next.out⟩
          case measure => simp [intOf]; omega
      · have hkl : k = L.length := by omega
        subst hkl
        have Hmk := Lib.hid hmk
        rw [List.take_length] at *
        clear hmk
        go_wp2
        go_ret
        refine ⟨rfl, Hmk.out.1, ⟨fun _ => ?_⟩⟩
        refine ⟨g, cs, D, C, rfl, Hg1.out, Hg2.out, Hmk.out.2.1, fun i vs hi => ?_, fun i j vs us hij hi hj h5 h6 => ?_⟩
        · obtain ⟨ys, hy, rfl⟩ := vsIss_inv hi
          obtain ⟨xs, hL, rfl⟩ := upIss_inv hy
          have hil := (List.getElem?_eq_some_iff.1 hL).1
          have a1 := Hx.out i xs hL
          have a2 := Hmk.out.2.2 i xs hL
          rw [if_pos hil] at a2
          rw [ints_length] at a1
          rw [ints_length, upI_length]
          exact ⟨a1, a2⟩
        · obtain ⟨ys, hy, rfl⟩ := vsIss_inv hi
          obtain ⟨xs, hL, rfl⟩ := upIss_inv hy
          obtain ⟨ys', hy', rfl⟩ := vsIss_inv hj
          obtain ⟨xs', hL', rfl⟩ := upIss_inv hy'
          rw [ints_length, upI_length] at h5 h6
          exact Hd.out i j _ _ hij hL hL' h5 h6
  · have hL : L = [] := List.eq_nil_of_length_eq_zero (by omega)
    subst hL
    show Calls Try.prog 69 #[.slice A 0 c, .int .i64 K] w _
    go_enter Try.func69, Try.ntmps69
    go_wp2
    refine wp_loop_rounds 1 ?_
    rw [rounds_succ]
    go_wp2
    go_ret
    exact ⟨by simp [tot], Only.refl _ _ _, ⟨OwnVss.nil _ _ _ _ _ _⟩⟩
theorem heldIss_any (h : IssH) (L : Iss) (K : Int) (w : World) (B : Nat) (hR : IssR w B h (upIss K L)) (hB : B ≤ w.heap.size) (hL : IssL L 1048576) (hK : 0 ≤ K) (hK2 : K ≤ 100000000) :
    Calls Try.prog 72 #[IssV h L, .int .i64 K] w fun e w' => e = .returned (.int .i64 (K + allIss L)) ∧ Below w.heap.size w w' := by
  obtain ⟨hl, ht⟩ := hL
  obtain ⟨hr⟩ := hR
  obtain ⟨A, c⟩ := h
  have hr : Vss w B A (vsIss (upIss K L)) := hr
  unfold allIss
  show Calls Try.prog 72 #[.slice A L.length c, .int .i64 K] w _
  go_enter Try.func72, Try.ntmps72
  go_wp2
  go_loop [1, 5] (fun q i => ∃ k : Nat, k ≤ L.length ∧ i = .int .i64 k ∧ q = .int .i64 (K + (tot (L.take k) : Int))) (fun _ i => L.length - (intOf i).toNat)
  case atStart => exact ⟨0, Nat.zero_le _, rfl, by simp [tot]⟩
  case round =>
    obtain ⟨k, hk, rfl, rfl⟩ := hrel
    have htk := tot_take_le L k
    by_cases hlt : k < L.length
    · have hLk : L[k]? = some L[k] := List.getElem?_eq_getElem hlt
      obtain ⟨xs, hxs⟩ : ∃ xs, L[k]? = some xs := ⟨_, hLk⟩
      obtain ⟨b, off, Ai, ci, rfl, hb, hx0, hrow⟩ := hr.at_ (vsIss_at (upIss_at hxs))
      rw [ints_length, upI_length] at hx0
      have htot := tot_take_succ hxs
      have hxl : xs.length ≤ 1048576 := by have := tot_take_le L (k + 1); omega
      have Htot := Lib.hid htot
      clear hLk hxs htot hr
      go_wp2_with (go_at_call 36; refine (heldInt_any Ai xs.length ci _ _ _ hrow hxl (by omega) (by omega)).mono ?_; rintro e w' ⟨rfl, rfl⟩)
      go_round
      case rel => exact ⟨k + 1, by omega, by go_num, by rw [Htot.out]; go_num⟩
      case measure => simp [intOf]; omega
    · have hkl : k = L.length := by omega
      subst hkl
      have e : L.take L.length = L := List.take_length
      rw [e]
      clear hr hlt htk e
      go_wp2
      go_ret
      exact ⟨rfl, Below.refl _ _⟩
end Go.Proofs.Ytiljakbjbiinkaa
namespace Go.Proofs.Ytiljakbjbiinkaa
open Go.RowKit Pl
set_option maxHeartbeats 1000000
set_option maxRecDepth 100000
set_option linter.unusedVariables false

theorem Try.info39 : (Try.prog.info? 39).map (fun i => (i.zero, i.size, i.bytes)) = some (some (.slice none 0 0), 1, 24) := by kernel_rfl
/-! ### a list of lists of numbers in memory, its lists each in a block of its own -/
def RowsI (w : World) (lo hi : Nat) (Ls : List (List Int)) (D : Nat → Nat) : Prop :=
  (∀ j xs, Ls[j]? = some xs → lo ≤ D j ∧ D j < hi ∧ ∃ cs, Bk w (D j) 3 cs ∧ ∀ (a : Nat) (v : Value), (ints xs)[a]? = some v → cs[a]? = some v) ∧ ∀ i j, i < j → j < Ls.length → D i < D j
def headsI (Ls : List (List Int)) (D : Nat → Nat) : List Value := (List.range Ls.length).map fun j => .slice (some ⟨D j, 0, none⟩) (Ls.getD j []).length (Ls.getD j []).length
@[simp] theorem headsI_length (Ls : List (List Int)) (D : Nat → Nat) : (headsI Ls D).length = Ls.length := by simp [headsI]
theorem headsI_at {Ls : List (List Int)} {D : Nat → Nat} {j : Nat} {xs : List Int} (h : Ls[j]? = some xs) : (headsI Ls D)[j]? = some (.slice (some ⟨D j, 0, none⟩) xs.length xs.length) := by
  have hl := (List.getElem?_eq_some_iff.1 h).1
  simp [headsI, hl]
  have : Ls[j] = xs := (List.getElem?_eq_some_iff.1 h).2
  rw [this]
theorem headsI_snoc (Ls : List (List Int)) (x : List Int) (D : Nat → Nat) (V : Nat) : headsI (Ls ++ [x]) (fun j => if j = Ls.length then V else D j) = headsI Ls D ++ [.slice (some ⟨V, 0, none⟩) x.length x.length] := by
  unfold headsI
  rw [List.length_append, List.length_singleton, List.range_succ, List.map_append]
  congr 1
  · refine List.map_congr_left fun j hj => ?_
    have hj := List.mem_range.1 hj
    show Value.slice (some ⟨(if j = Ls.length then V else D j), 0, none⟩) _ _ = _
    rw [if_neg (by omega)]
    have : (Ls ++ [x]).getD j [] = Ls.getD j [] := by simp [List.getD, List.getElem?_append_left hj]
    rw [this]
  · simp [List.getD]
theorem RowsI.keep {w w' : World} {lo hi lo' hi' : Nat} {Ls : List (List Int)} {D : Nat → Nat} (h : RowsI w lo hi Ls D) (hl : lo' ≤ lo) (hh : hi ≤ hi') (hk : ∀ i cs, lo ≤ i → i < hi → Bk w i 3 cs → w'.heap[i]? = w.heap[i]?) : RowsI w' lo' hi' Ls D := by
  obtain ⟨h0, h1⟩ := h
  refine ⟨fun j xs hj => ?_, h1⟩
  obtain ⟨a, b, cs, hb, hc⟩ := h0 j xs hj
  exact ⟨by omega, by omega, cs, (hk _ cs a b hb).trans hb, hc⟩
theorem RowsI.nil (w : World) (lo hi : Nat) (D : Nat → Nat) : RowsI w lo hi [] D := ⟨fun j xs h => by simp at h, fun i j _ h => absurd h (by simp)⟩
theorem RowsI.snoc {w : World} {lo hi hi' V : Nat} {Ls : List (List Int)} {x : List Int} {D : Nat → Nat} (h : RowsI w lo hi Ls D) (hV : hi ≤ V) (hl : lo ≤ V) (hh : V < hi') {cs : Array Value} (hb : Bk w V 3 cs) (hc : ∀ (a : Nat) (v : Value), (ints x)[a]? = some v → cs[a]? = some v) :
    RowsI w lo hi' (Ls ++ [x]) (fun j => if j = Ls.length then V else D j) := by
  obtain ⟨h0, h1⟩ := h
  refine ⟨fun j xs hj => ?_, fun i j hij hj => ?_⟩
  · show lo ≤ (if j = Ls.length then V else D j) ∧ (if j = Ls.length then V else D j) < hi' ∧ ∃ cs, Bk w (if j = Ls.length then V else D j) 3 cs ∧ ∀ (a : Nat) (v : Value), (ints xs)[a]? = some v → cs[a]? = some v
    by_cases e : j = Ls.length
    · rw [if_pos e]
      rw [List.getElem?_append_right (by omega), e, Nat.sub_self] at hj
      simp at hj
      subst hj
      exact ⟨hl, hh, cs, hb, hc⟩
    · have hjl := (List.getElem?_eq_some_iff.1 hj).1
      rw [List.length_append, List.length_singleton] at hjl
      rw [if_neg e]
      rw [List.getElem?_append_left (by omega)] at hj
      obtain ⟨a, b, r⟩ := h0 j xs hj
      exact ⟨a, by omega, r⟩
  · rw [List.length_append, List.length_singleton] at hj
    show (if i = Ls.length then V else D i) < (if j = Ls.length then V else D j)
    rw [if_neg (by omega)]
    by_cases e : j = Ls.length
    · rw [if_pos e]
      have hil : i < Ls.length := by omega
      have := (h0 i _ (List.getElem?_eq_getElem hil)).2.1
      omega
    · rw [if_neg e]; exact h1 i j hij (by omega)
theorem rowsI_own {w : World} {lo hi : Nat} {A : Option Addr} {Ls : List (List Int)} {D : Nat → Nat} (hH : OwnVs w lo hi 39 A (headsI Ls D)) (hT : RowsI w lo hi Ls D) : OwnVss w lo hi 39 3 A (vsIss Ls) := fun hn => by
  rw [vsIss_length] at hn
  obtain ⟨g, cs, hA, h0, h1, hb, hx⟩ := hH (by rw [headsI_length]; exact hn)
  refine ⟨g, cs, fun i => some ⟨D i, 0, none⟩, fun i => (Ls.getD i []).length, hA, h0, h1, hb, fun i vs hi' => ?_, fun i j vs us hij hi' hj _ _ e => ?_⟩
  · obtain ⟨xs, hxs, rfl⟩ := vsIss_inv hi'
    have e : Ls.getD i [] = xs := by simp [List.getD, hxs]
    show cs[i]? = some (Value.slice (some ⟨D i, 0, none⟩) (ints xs).length (Ls.getD i []).length) ∧ _
    rw [ints_length, e]
    refine ⟨hx i _ (headsI_at hxs), fun _ => ?_⟩
    obtain ⟨a, b, cr, hbr, hc⟩ := hT.1 i xs hxs
    exact ⟨D i, cr, rfl, a, b, hbr, hc⟩
  · obtain ⟨ys, hys, rfl⟩ := vsIss_inv hj
    have hjl := (List.getElem?_eq_some_iff.1 hys).1
    injection e with e
    injection e with e
    have := hT.2 i j hij hjl
    omega
/-- A list of lists that appends have made. -/
def PR (w wr : World) (v : Value) (Ls : List (List Int)) : Prop :=
  ∃ g cap D, v = .slice (some ⟨g, 0, none⟩) Ls.length cap ∧ w.heap.size ≤ g ∧ wr.ownsRow w.heap.size 39 1 (.slice (some ⟨g, 0, none⟩) Ls.length cap) Ls.length (headsI Ls D) ∧ RowsI wr w.heap.size wr.heap.size Ls D ∧ Below w.heap.size w wr
theorem PR.below {w wr wv : World} {v : Value} {Ls : List (List Int)} (h : PR w wr v Ls) (hb : Below wr.heap.size wr wv) : PR w wv v Ls := by
  obtain ⟨g, cap, D, e, hg, hown, hrows, hbel⟩ := h
  exact ⟨g, cap, D, e, hg, hown.kept (grown_of_below hb none) (by simp [Value.ownBlock]), hrows.keep (Nat.le_refl _) hb.size fun i _ _ h2 _ => hb.block i h2, below_on hbel hb⟩
theorem pr_start (w : World) : PR w (w.alloc (.cells #[] 39)) (.slice (some ⟨w.heap.size, 0, none⟩) 0 0) [] :=
  ⟨w.heap.size, 0, fun _ => 0, rfl, Nat.le_refl _, World.ownsRow_made w #[] 0 (Nat.le_refl _) (by decide) (by simp), RowsI.nil _ _ _ _, (Below.refl _ _).alloc (Nat.le_refl _) _⟩
theorem pr_next {w wr w4 : World} {g cap : Nat} {D : Nat → Nat} {Ls : List (List Int)} {x : List Int} {cs : Array Value} {o : Obj} (hbel : Below w.heap.size w wr) (hrows : RowsI wr w.heap.size wr.heap.size Ls D)
    (own : wr.ownsRow w.heap.size 39 1 (.slice (some ⟨g, 0, none⟩) Ls.length cap) Ls.length (headsI Ls D)) (hc : ∀ (a : Nat) (v : Value), (ints x)[a]? = some v → cs[a]? = some v)
    (grow4 : ((wr.alloc (.cells cs 3)).alloc o).grownBy w4 (Value.slice (some ⟨g, 0, none⟩) Ls.length cap).ownBlock) :
    RowsI w4 w.heap.size w4.heap.size (Ls ++ [x]) (fun j => if j = Ls.length then wr.heap.size else D j) ∧ Below w.heap.size w w4 := by
  obtain ⟨g0, g1, cu, hcu⟩ := owns_block own (q := g) rfl
  have hz1 := hbel.size
  have hz4 : wr.heap.size + 1 + 1 ≤ w4.heap.size := by have := grow4.size; simpa using this
  have h4 : ∀ z, z < wr.heap.size + 1 → z ≠ g → w4.heap[z]? = (wr.alloc (.cells cs 3)).heap[z]? := fun z hz hne => (grow4.block z (by simp; omega) (fun e => hne (by injection e))).trans (Below.heap_alloc _ o z (by simp; omega))
  have hB : Below w.heap.size w w4 := ((hbel.alloc (by omega) (.cells cs 3)).alloc (by simp; omega) o).grown grow4 (by simp; omega) (fun q hq => by cases hq; omega)
  refine ⟨(hrows.keep (Nat.le_refl _) (Nat.le_refl _) fun z cz a b hz => ?_).snoc (Nat.le_refl _) hz1 (by omega) ((h4 wr.heap.size (by omega) (by omega)).trans (Bk.new _ _ _)) hc, hB⟩
  refine (h4 z (by omega) fun e => ?_).trans (Below.heap_alloc wr _ z b)
  subst e
  unfold Bk at hz hcu
  rw [hcu] at hz
  injection hz with hz
  injection hz with _ hz
  cases hz
theorem cells2 (i k : Nat) : ∀ (a : Nat) (v : Value), (ints [(i : Int), (k : Int)])[a]? = some v → (#[.int .i64 (i : Int), .int .i64 (k : Int)] : Array Value)[a]? = some v := by
  intro a v h
  simpa [ints] using h
/-- Pairs, and whether there are any to tell. -/
def AnsIss (w : World) (o : List (List Int)) (r : Bool) (e : Ending) (w' : World) : Prop :=
  ∃ k : IssH, e = .returned (.tuple #[IssV k o, .bool r]) ∧ Below w.heap.size w w' ∧ w.heap.size ≤ w'.heap.size ∧ IssO w' w.heap.size w'.heap.size k o
theorem PR.own {w wr : World} {v : Value} {Ls : List (List Int)} (h : PR w wr v Ls) : ∃ k : IssH, v = IssV k Ls ∧ Below w.heap.size w wr ∧ IssO wr w.heap.size wr.heap.size k Ls := by
  obtain ⟨g, cap, D, e, hg, hown, hrows, hbel⟩ := h
  exact ⟨⟨some ⟨g, 0, none⟩, cap⟩, e, hbel, ⟨rowsI_own (own_vs hown rfl) hrows⟩⟩
/-! ### lists of lists whose rows may have room to spare -/
def headsC (Ls : List (List Int)) (D C : Nat → Nat) : List Value := (List.range Ls.length).map fun j => .slice (some ⟨D j, 0, none⟩) (Ls.getD j []).length (C j)
@[simp] theorem headsC_length (Ls : List (List Int)) (D C : Nat → Nat) : (headsC Ls D C).length = Ls.length := by simp [headsC]
theorem headsC_at {Ls : List (List Int)} {D C : Nat → Nat} {j : Nat} {xs : List Int} (h : Ls[j]? = some xs) : (headsC Ls D C)[j]? = some (.slice (some ⟨D j, 0, none⟩) xs.length (C j)) := by
  have hl := (List.getElem?_eq_some_iff.1 h).1
  simp [headsC, hl]
  have : Ls[j] = xs := (List.getElem?_eq_some_iff.1 h).2
  rw [this]
theorem rowsC_own {w : World} {lo hi : Nat} {A : Option Addr} {Ls : List (List Int)} {D C : Nat → Nat} (hH : OwnVs w lo hi 39 A (headsC Ls D C)) (hT : RowsI w lo hi Ls D) : OwnVss w lo hi 39 3 A (vsIss Ls) := fun hn => by
  rw [vsIss_length] at hn
  obtain ⟨g, cs, hA, h0, h1, hb, hx⟩ := hH (by rw [headsC_length]; exact hn)
  refine ⟨g, cs, fun i => some ⟨D i, 0, none⟩, C, hA, h0, h1, hb, fun i vs hi' => ?_, fun i j vs us hij hi' hj _ _ e => ?_⟩
  · obtain ⟨xs, hxs, rfl⟩ := vsIss_inv hi'
    rw [ints_length]
    refine ⟨hx i _ (headsC_at hxs), fun _ => ?_⟩
    obtain ⟨a, b, cr, hbr, hc⟩ := hT.1 i xs hxs
    exact ⟨D i, cr, rfl, a, b, hbr, hc⟩
  · obtain ⟨ys, hys, rfl⟩ := vsIss_inv hj
    have hjl := (List.getElem?_eq_some_iff.1 hys).1
    injection e with e
    injection e with e
    have := hT.2 i j hij hjl
    omega
end Go.Proofs.Ytiljakbjbiinkaa
namespace Go.Proofs.Ytiljakbjbiinkaa
open Go.RowKit Pl
set_option maxHeartbeats 400000
set_option linter.unusedVariables false

def allIn (xs : List Int) (lo hi : Int) : Bool := xs.all fun x => inB x lo hi
def numB (xs : List Int) (n lo hi : Int) : Bool := (xs.length : Int) == n && allIn xs lo hi
def atZ : List (List Sm) → List Int → Bool
  | [], [] => true
  | xs :: L, n :: r => inB n 0 xs.length && atZ L r
  | _, _ => false
theorem atZ_len {L : List (List Sm)} : ∀ {r : List Int}, atZ L r = true → r.length = L.length := by
  induction L with
  | nil => intro r h; cases r <;> simp_all [atZ]
  | cons x L ih => intro r h; cases r with
    | nil => simp [atZ] at h
    | cons n r => simp [atZ] at h; simp [ih h.2]
theorem atZ_ne {L : List (List Sm)} {r : List Int} (h : r.length ≠ L.length) : atZ L r = false := by
  rw [Bool.eq_false_iff]; exact fun e => h (atZ_len e)
theorem allIn_cons (x : Int) (r : List Int) (lo hi : Int) : allIn (x :: r) lo hi = (inB x lo hi && allIn r lo hi) := rfl

theorem prog_len {L : Pg} (h : progB L = true) : 1 ≤ L.length ∧ L.length ≤ 3 := by
  simp only [progB, Bool.and_eq_true, decide_eq_true_eq] at h
  exact h.1
theorem within_b (n lo hi : Int) (w : World) (r : Bool) (hr : Hid (inB n lo hi = r)) : Calls Try.prog 102 #[.int .i64 n, .int .i64 lo, .int .i64 hi] w fun e w' => e = .returned (.bool r) ∧ w = w' := by
  rw [← hr.out]; exact within_any n lo hi w
theorem l1In_b (n lo hi : Int) (w : World) (r : Bool) (hr : Hid (inB n lo hi = r)) : Calls Try.prog 79 #[.int .i64 n, .int .i64 lo, .int .i64 hi] w fun e w' => e = .returned (.bool r) ∧ w = w' := by
  rw [← hr.out]; exact l1In_any n lo hi w

theorem numok_any (A : Option Addr) (xs : List Int) (c : Nat) (n lo hi : Int) (w : World) (B : Nat) (h : Vs w B A (ints xs)) (hm : xs.length ≤ maxLen) (r : Bool) (hr : Hid (numB xs n lo hi = r)) :
    Calls Try.prog 87 #[.slice A xs.length c, .int .i64 n, .int .i64 lo, .int .i64 hi] w fun e w' => e = .returned (.bool r) ∧ w = w' := by
  unfold maxLen at hm
  by_cases hn : (xs.length : Int) = n
  · have hn' : ((xs.length : Int) != n) = false := by simp [hn]
    have hfin : Hid (allIn xs lo hi = r) := Lib.hid (by rw [← hr.out, numB]; simp [hn])
    clear hr hn
    go_enter Try.func87, Try.ntmps87
    go_wp2
    go_loop [17] (fun i => ∃ k : Nat, k ≤ xs.length ∧ i = .int .i64 k ∧ Hid (allIn (xs.drop k) lo hi = r)) (fun i => xs.length - (intOf i).toNat)
    case atStart => exact ⟨0, Nat.zero_le _, rfl, by simpa using hfin⟩
    case round =>
      obtain ⟨k, hk, rfl, hrest⟩ := hrel
      clear hfin hn'
      by_cases hlt : k < xs.length
      · obtain ⟨b, off, x, rfl, hb, hx, hd, hx0⟩ := h.int_ hlt
        have Hd := Lib.hid hd
        clear hd hx
        rcases Bool.eq_false_or_eq_true (inB x lo hi) with he | he
        all_goals
          have He := Lib.hid he
          clear he
          go_wp2_with (go_at_call 102; refine (within_b _ _ _ _ _ He).mono ?_; rintro e w' ⟨rfl, rfl⟩)
        · go_round
          case rel => exact ⟨k + 1, by omega, by go_num, Lib.hid (by
            have := hrest.out
            rw [Hd.out, allIn_cons, He.out] at this
            simpa using this)⟩
          case measure => simp [intOf]; omega
        · go_ret
          refine ⟨?_, rfl⟩
          have := hrest.out
          rw [Hd.out, allIn_cons, He.out] at this
          rw [← this]; rfl
      · have hlast : Hid (r = true) := Lib.hid (by
          have := hrest.out
          rw [List.drop_eq_nil_of_le (by omega)] at this
          rw [← this]; rfl)
        go_wp2
        go_ret
        exact ⟨by rw [hlast.out]; rfl, rfl⟩
  · have hn' : ((xs.length : Int) != n) = true := by simp [hn]
    have hfin : Hid (r = false) := Lib.hid (by rw [← hr.out, numB]; simp [hn])
    clear hr hn
    go_enter Try.func87, Try.ntmps87
    go_wp2
    go_ret
    exact ⟨by rw [hfin.out]; rfl, rfl⟩

theorem all_any (A : Option Addr) (xs : List Int) (c : Nat) (n lo hi : Int) (w : World) (B : Nat) (h : Vs w B A (ints xs)) (hm : xs.length ≤ maxLen) (r : Bool) (hr : Hid (numB xs n lo hi = r)) :
    Calls Try.prog 78 #[.slice A xs.length c, .int .i64 n, .int .i64 lo, .int .i64 hi] w fun e w' => e = .returned (.bool r) ∧ w = w' := by
  unfold maxLen at hm
  have hfin : Hid ((allIn xs lo hi && (xs.length : Int) == n) = r) := Lib.hid (by rw [← hr.out, numB, Bool.and_comm])
  clear hr
  go_enter Try.func78, Try.ntmps78
  go_wp2
  go_loop [9] (fun i => ∃ k : Nat, k ≤ xs.length ∧ i = .int .i64 k ∧ Hid ((allIn (xs.drop k) lo hi && (xs.length : Int) == n) = r)) (fun i => xs.length - (intOf i).toNat)
  case atStart => exact ⟨0, Nat.zero_le _, rfl, by simpa using hfin⟩
  case round =>
    obtain ⟨k, hk, rfl, hrest⟩ := hrel
    clear hfin
    by_cases hlt : k < xs.length
    · obtain ⟨b, off, x, rfl, hb, hx, hd, hx0⟩ := h.int_ hlt
      have Hd := Lib.hid hd
      clear hd hx
      rcases Bool.eq_false_or_eq_true (inB x lo hi) with he | he
      all_goals
        have He := Lib.hid he
        clear he
        go_wp2_with (go_at_call 79; refine (l1In_b _ _ _ _ _ He).mono ?_; rintro e w' ⟨rfl, rfl⟩)
      · go_round
        case rel => exact ⟨k + 1, by omega, by go_num, Lib.hid (by
          have := hrest.out
          rw [Hd.out, allIn_cons, He.out] at this
          simpa using this)⟩
        case measure => simp [intOf]; omega
      · go_ret
        refine ⟨?_, rfl⟩
        have := hrest.out
        rw [Hd.out, allIn_cons, He.out] at this
        rw [← this]; rfl
    · have hlast : Hid (((xs.length : Int) == n) = r) := Lib.hid (by
        have := hrest.out
        rw [List.drop_eq_nil_of_le (by omega)] at this
        rw [← this]; rfl)
      go_wp2
      go_ret
      exact ⟨by rw [← hlast.out]; rfl, rfl⟩

theorem atok_any (h : PgH) (L : Pg) (A : Option Addr) (xs : List Int) (c : Nat) (w : World) (B : Nat) (hP : PgR w B h L) (hV : Vs w B A (ints xs)) (hB : B ≤ w.heap.size) (hm : L.length ≤ maxLen) (hm2 : xs.length ≤ maxLen) (r : Bool) (hr : Hid (atZ L xs = r)) :
    Calls Try.prog 139 #[PgV h L, .slice A xs.length c] w fun e w' => e = .returned (.bool r) ∧ Below w.heap.size w w' := by
  unfold maxLen at hm hm2
  obtain ⟨W, hW⟩ : ∃ W, W = w.alloc (.cells #[.slice h.A L.length h.c] 30) := ⟨_, rfl⟩
  have bW : Below w.heap.size w W := by rw [hW]; go_grown
  have kW : Bk W w.heap.size 30 #[.slice h.A L.length h.c] := by rw [hW]; exact Bk.new _ _ _
  have cW := box_at kW
  have lW := kW.lt
  have P := Lib.hid (hP.below bW hB)
  have V := Lib.hid (hV.below bW hB)
  have BW := Lib.hid bW
  have HW := Lib.hid hW
  clear hW bW kW hP hV
  by_cases hn : xs.length = L.length
  · have hn' : ((xs.length : Int) != (L.length : Int)) = false := by simp [hn]
    have hle : xs.length ≤ L.length := by omega
    have hge : L.length ≤ xs.length := by omega
    clear hn
    go_enter Try.func139, Try.ntmps139
    go_wp2
    rw [← HW.out]
    go_loop [15] (fun i => ∃ k : Nat, k ≤ xs.length ∧ i = .int .i64 k ∧ Hid (atZ (L.drop k) (xs.drop k) = r)) (fun i => xs.length - (intOf i).toNat)
    case atStart => exact ⟨0, Nat.zero_le _, rfl, by simpa using hr⟩
    case round =>
      obtain ⟨k, hk, rfl, hrest⟩ := hrel
      clear hr hn'
      by_cases hlt : k < xs.length
      · obtain ⟨b, off, x, rfl, hb, hx, hd, hx0⟩ := V.out.int_ hlt
        obtain ⟨b2, off2, ys, Ai, ci, hA, hb2, -, hd2, hc2, -, hmy, -⟩ := Rows2.at_ P.out (show k < L.length by omega)
        have Hd := Lib.hid hd
        have Hd2 := Lib.hid hd2
        have hi2 : (k : Int) < (L.length : Int) := by omega
        unfold maxLen at hmy
        rw [hA] at cW
        clear hd hx hd2 hA
        rcases Bool.eq_false_or_eq_true (inB x 0 ys.length) with he | he
        all_goals
          have He := Lib.hid he
          clear he
          go_wp2_with (go_at_call 102; refine (within_b _ _ _ _ _ He).mono ?_; rintro e w' ⟨rfl, rfl⟩)
        · go_round
          case rel => exact ⟨k + 1, by omega, by go_num, Lib.hid (by
            have := hrest.out
            rw [Hd.out, Hd2.out, atZ, He.out] at this
            simpa using this)⟩
          case measure => simp [intOf]; omega
        · go_ret
          refine ⟨?_, BW.out⟩
          have := hrest.out
          rw [Hd.out, Hd2.out, atZ, He.out] at this
          rw [← this]; rfl
      · have hlast : Hid (r = true) := Lib.hid (by
          have := hrest.out
          rw [List.drop_eq_nil_of_le (by omega), List.drop_eq_nil_of_le (by omega)] at this
          rw [← this]; rfl)
        go_wp2
        go_ret
        exact ⟨by rw [hlast.out]; rfl, BW.out⟩
  · have hn' : ((xs.length : Int) != (L.length : Int)) = true := by simp; omega
    have hfin : Hid (r = false) := Lib.hid (by rw [← hr.out]; exact atZ_ne hn)
    clear hr hn
    go_enter Try.func139, Try.ntmps139
    go_wp2
    rw [← HW.out]
    go_ret
    exact ⟨by rw [hfin.out]; rfl, BW.out⟩
end Go.Proofs.Ytiljakbjbiinkaa
namespace Go.Proofs.Ytiljakbjbiinkaa
open Go.RowKit Pl
set_option maxHeartbeats 2000000
set_option maxRecDepth 100000
set_option linter.unusedVariables false

/-- What is a state of a program. -/
def stB (L : Pg) (s : Sta) : Bool :=
  ((((progB L && atZ L s.f0) && numB s.f1 ((L.length : Int) * 3) 0 3) && numB s.f2 3 0 3) && numB s.f3 2 (-1) ((L.length : Int) - 1)) && numB s.f4 2 (-1) 3

theorem istok_any (h : PgH) (L : Pg) (k : StaH) (s : Sta) (w : World) (B : Nat) (hP : PgR w B h L) (hS : StaR w B k s) (hB : B ≤ w.heap.size) (LP : PgL L maxLen) (LS : StaL s maxLen) (r : Bool) (hr : Hid (stB L s = r)) :
    Calls Try.prog 86 #[PgV h L, StaV k s] w fun e w' => e = .returned (.bool r) ∧ Below w.heap.size w w' := by
  obtain ⟨l0, l1, l2, l3, l4⟩ := LS
  have hl := LP.l
  obtain ⟨W, hW⟩ : ∃ W, W = (w.alloc (.cells #[.slice h.A L.length h.c] 30)).alloc (.cells #[.slice k.A0 s.f0.length k.c0, .slice k.A1 s.f1.length k.c1, .slice k.A2 s.f2.length k.c2, .slice k.A3 s.f3.length k.c3, .slice k.A4 s.f4.length k.c4] 41) := ⟨_, rfl⟩
  have hbW : Below w.heap.size w W := by rw [hW]; go_grown
  have hsW : W.heap.size = w.heap.size + 1 + 1 := by rw [hW]; simp
  have kp : Bk W w.heap.size 30 #[.slice h.A L.length h.c] := by rw [hW]; exact (Bk.new w _ _).alloc _
  have ks : Bk W (w.heap.size + 1) 41 #[.slice k.A0 s.f0.length k.c0, .slice k.A1 s.f1.length k.c1, .slice k.A2 s.f2.length k.c2, .slice k.A3 s.f3.length k.c3, .slice k.A4 s.f4.length k.c4] := by
    rw [hW]; have := Bk.new (w.alloc (.cells #[.slice h.A L.length h.c] 30)) #[.slice k.A0 s.f0.length k.c0, .slice k.A1 s.f1.length k.c1, .slice k.A2 s.f2.length k.c2, .slice k.A3 s.f3.length k.c3, .slice k.A4 s.f4.length k.c4] 41
    rwa [World.size_alloc] at this
  have HW := Lib.hid hW
  have P_0 := Lib.hid (kp)
  have S_0 := Lib.hid (ks)
  have RP_0 := Lib.hid (hP.below hbW hB)
  have RS_0 := Lib.hid (hS.below hbW hB)
  have BEL_0 := Lib.hid (hbW)
  have hsWa := Nat.le_of_eq hsW
  have hsWb := Nat.le_of_eq hsW.symm
  clear hW hsW hbW kp ks hP hS
  obtain ⟨b0, y0⟩ : ∃ b, progB L = b := ⟨_, rfl⟩
  have Y0 := Lib.hid y0
  clear y0
  rcases Bool.eq_false_or_eq_true b0 with e | e
  rotate_left
  · subst e
    have hfin : Hid (r = false) := Lib.hid (by rw [← hr.out]; unfold stB; simp [Y0.out])
    clear hr
    go_enter Try.func86, Try.ntmps86
    go_wp2_with fail
    rw [← HW.out]
    refine (iprog_any h.A L h.c W B (RP_0).out (by omega) hl false Y0).mono ?_
    rintro e u0 ⟨rfl, hb⟩
    have sz_1 := (hb).size
    have P_1 := Lib.hid ((P_0).out.below hb (P_0).out.lt)
    clear P_0
    have S_1 := Lib.hid ((S_0).out.below hb (S_0).out.lt)
    clear S_0
    have RP_1 := Lib.hid ((RP_0).out.below hb (by omega))
    clear RP_0
    have RS_1 := Lib.hid ((RS_0).out.below hb (by omega))
    clear RS_0
    have BEL_1 := Lib.hid (below_on (BEL_0).out hb)
    clear BEL_0
    clear hb
    go_wp2
    go_ret
    exact ⟨by rw [hfin.out]; rfl, (BEL_1).out⟩
  subst e
  have h3 := prog_len Y0.out
  have h31 : 1 ≤ L.length := h3.1
  have h32 : L.length ≤ 3 := h3.2
  clear h3
  obtain ⟨b1, y1⟩ : ∃ b, atZ L s.f0 = b := ⟨_, rfl⟩
  have Y1 := Lib.hid y1
  clear y1
  rcases Bool.eq_false_or_eq_true b1 with e | e
  rotate_left
  · subst e
    have hfin : Hid (r = false) := Lib.hid (by rw [← hr.out]; unfold stB; simp [Y0.out, Y1.out])
    clear hr
    go_enter Try.func86, Try.ntmps86
    go_wp2_with fail
    rw [← HW.out]
    refine (iprog_any h.A L h.c W B (RP_0).out (by omega) hl true Y0).mono ?_
    rintro e u0 ⟨rfl, hb⟩
    have sz_1 := (hb).size
    have P_1 := Lib.hid ((P_0).out.below hb (P_0).out.lt)
    clear P_0
    have S_1 := Lib.hid ((S_0).out.below hb (S_0).out.lt)
    clear S_0
    have RP_1 := Lib.hid ((RP_0).out.below hb (by omega))
    clear RP_0
    have RS_1 := Lib.hid ((RS_0).out.below hb (by omega))
    clear RS_0
    have BEL_1 := Lib.hid (below_on (BEL_0).out hb)
    clear BEL_0
    clear hb
    have c_P_0 : u0.cell? ⟨w.heap.size, 0, none⟩ = some (.slice h.A L.length h.c) := (P_1).out.cell 0
    have l_P : w.heap.size < u0.heap.size := (P_1).out.lt
    have c_S_0 : u0.cell? ⟨w.heap.size + 1, 0, none⟩ = some (.slice k.A0 s.f0.length k.c0) := (S_1).out.cell 0
    have c_S_1 : u0.cell? ⟨w.heap.size + 1, 1, none⟩ = some (.slice k.A1 s.f1.length k.c1) := (S_1).out.cell 1
    have c_S_2 : u0.cell? ⟨w.heap.size + 1, 2, none⟩ = some (.slice k.A2 s.f2.length k.c2) := (S_1).out.cell 2
    have c_S_3 : u0.cell? ⟨w.heap.size + 1, 3, none⟩ = some (.slice k.A3 s.f3.length k.c3) := (S_1).out.cell 3
    have c_S_4 : u0.cell? ⟨w.heap.size + 1, 4, none⟩ = some (.slice k.A4 s.f4.length k.c4) := (S_1).out.cell 4
    have l_S : w.heap.size + 1 < u0.heap.size := (S_1).out.lt
    go_wp2_with fail
    clear c_P_0 l_P c_S_0 c_S_1 c_S_2 c_S_3 c_S_4 l_S
    refine (atok_any h L k.A0 s.f0 k.c0 u0 B (RP_1).out (RS_1).out.r0 (by omega) hl l0 false Y1).mono ?_
    rintro e u1 ⟨rfl, hb⟩
    have sz_2 := (hb).size
    have P_2 := Lib.hid ((P_1).out.below hb (P_1).out.lt)
    clear P_1
    have S_2 := Lib.hid ((S_1).out.below hb (S_1).out.lt)
    clear S_1
    have RP_2 := Lib.hid ((RP_1).out.below hb (by omega))
    clear RP_1
    have RS_2 := Lib.hid ((RS_1).out.below hb (by omega))
    clear RS_1
    have BEL_2 := Lib.hid (below_on (BEL_1).out hb)
    clear BEL_1
    clear hb
    go_wp2
    go_ret
    exact ⟨by rw [hfin.out]; rfl, (BEL_2).out⟩
  subst e
  obtain ⟨b2, y2⟩ : ∃ b, numB s.f1 ((L.length : Int) * 3) 0 3 = b := ⟨_, rfl⟩
  have Y2 := Lib.hid y2
  clear y2
  rcases Bool.eq_false_or_eq_true b2 with e | e
  rotate_left
  · subst e
    have hfin : Hid (r = false) := Lib.hid (by rw [← hr.out]; unfold stB; simp [Y0.out, Y1.out, Y2.out])
    clear hr
    go_enter Try.func86, Try.ntmps86
    go_wp2_with fail
    rw [← HW.out]
    refine (iprog_any h.A L h.c W B (RP_0).out (by omega) hl true Y0).mono ?_
    rintro e u0 ⟨rfl, hb⟩
    have sz_1 := (hb).size
    have P_1 := Lib.hid ((P_0).out.below hb (P_0).out.lt)
    clear P_0
    have S_1 := Lib.hid ((S_0).out.below hb (S_0).out.lt)
    clear S_0
    have RP_1 := Lib.hid ((RP_0).out.below hb (by omega))
    clear RP_0
    have RS_1 := Lib.hid ((RS_0).out.below hb (by omega))
    clear RS_0
    have BEL_1 := Lib.hid (below_on (BEL_0).out hb)
    clear BEL_0
    clear hb
    have c_P_0 : u0.cell? ⟨w.heap.size, 0, none⟩ = some (.slice h.A L.length h.c) := (P_1).out.cell 0
    have l_P : w.heap.size < u0.heap.size := (P_1).out.lt
    have c_S_0 : u0.cell? ⟨w.heap.size + 1, 0, none⟩ = some (.slice k.A0 s.f0.length k.c0) := (S_1).out.cell 0
    have c_S_1 : u0.cell? ⟨w.heap.size + 1, 1, none⟩ = some (.slice k.A1 s.f1.length k.c1) := (S_1).out.cell 1
    have c_S_2 : u0.cell? ⟨w.heap.size + 1, 2, none⟩ = some (.slice k.A2 s.f2.length k.c2) := (S_1).out.cell 2
    have c_S_3 : u0.cell? ⟨w.heap.size + 1, 3, none⟩ = some (.slice k.A3 s.f3.length k.c3) := (S_1).out.cell 3
    have c_S_4 : u0.cell? ⟨w.heap.size + 1, 4, none⟩ = some (.slice k.A4 s.f4.length k.c4) := (S_1).out.cell 4
    have l_S : w.heap.size + 1 < u0.heap.size := (S_1).out.lt
    go_wp2_with fail
    clear c_P_0 l_P c_S_0 c_S_1 c_S_2 c_S_3 c_S_4 l_S
    refine (atok_any h L k.A0 s.f0 k.c0 u0 B (RP_1).out (RS_1).out.r0 (by omega) hl l0 true Y1).mono ?_
    rintro e u1 ⟨rfl, hb⟩
    have sz_2 := (hb).size
    have P_2 := Lib.hid ((P_1).out.below hb (P_1).out.lt)
    clear P_1
    have S_2 := Lib.hid ((S_1).out.below hb (S_1).out.lt)
    clear S_1
    have RP_2 := Lib.hid ((RP_1).out.below hb (by omega))
    clear RP_1
    have RS_2 := Lib.hid ((RS_1).out.below hb (by omega))
    clear RS_1
    have BEL_2 := Lib.hid (below_on (BEL_1).out hb)
    clear BEL_1
    clear hb
    have c_P_0 : u1.cell? ⟨w.heap.size, 0, none⟩ = some (.slice h.A L.length h.c) := (P_2).out.cell 0
    have l_P : w.heap.size < u1.heap.size := (P_2).out.lt
    have c_S_0 : u1.cell? ⟨w.heap.size + 1, 0, none⟩ = some (.slice k.A0 s.f0.length k.c0) := (S_2).out.cell 0
    have c_S_1 : u1.cell? ⟨w.heap.size + 1, 1, none⟩ = some (.slice k.A1 s.f1.length k.c1) := (S_2).out.cell 1
    have c_S_2 : u1.cell? ⟨w.heap.size + 1, 2, none⟩ = some (.slice k.A2 s.f2.length k.c2) := (S_2).out.cell 2
    have c_S_3 : u1.cell? ⟨w.heap.size + 1, 3, none⟩ = some (.slice k.A3 s.f3.length k.c3) := (S_2).out.cell 3
    have c_S_4 : u1.cell? ⟨w.heap.size + 1, 4, none⟩ = some (.slice k.A4 s.f4.length k.c4) := (S_2).out.cell 4
    have l_S : w.heap.size + 1 < u1.heap.size := (S_2).out.lt
    go_wp2_with fail
    clear c_P_0 l_P c_S_0 c_S_1 c_S_2 c_S_3 c_S_4 l_S
    refine (numok_any k.A1 s.f1 k.c1 _ _ _ u1 B (RS_2).out.r1 l1 false Y2).mono ?_
    rintro e w' ⟨rfl, rfl⟩
    go_wp2
    go_ret
    exact ⟨by rw [hfin.out]; rfl, (BEL_2).out⟩
  subst e
  obtain ⟨b3, y3⟩ : ∃ b, numB s.f2 3 0 3 = b := ⟨_, rfl⟩
  have Y3 := Lib.hid y3
  clear y3
  rcases Bool.eq_false_or_eq_true b3 with e | e
  rotate_left
  · subst e
    have hfin : Hid (r = false) := Lib.hid (by rw [← hr.out]; unfold stB; simp [Y0.out, Y1.out, Y2.out, Y3.out])
    clear hr
    go_enter Try.func86, Try.ntmps86
    go_wp2_with fail
    rw [← HW.out]
    refine (iprog_any h.A L h.c W B (RP_0).out (by omega) hl true Y0).mono ?_
    rintro e u0 ⟨rfl, hb⟩
    have sz_1 := (hb).size
    have P_1 := Lib.hid ((P_0).out.below hb (P_0).out.lt)
    clear P_0
    have S_1 := Lib.hid ((S_0).out.below hb (S_0).out.lt)
    clear S_0
    have RP_1 := Lib.hid ((RP_0).out.below hb (by omega))
    clear RP_0
    have RS_1 := Lib.hid ((RS_0).out.below hb (by omega))
    clear RS_0
    have BEL_1 := Lib.hid (below_on (BEL_0).out hb)
    clear BEL_0
    clear hb
    have c_P_0 : u0.cell? ⟨w.heap.size, 0, none⟩ = some (.slice h.A L.length h.c) := (P_1).out.cell 0
    have l_P : w.heap.size < u0.heap.size := (P_1).out.lt
    have c_S_0 : u0.cell? ⟨w.heap.size + 1, 0, none⟩ = some (.slice k.A0 s.f0.length k.c0) := (S_1).out.cell 0
    have c_S_1 : u0.cell? ⟨w.heap.size + 1, 1, none⟩ = some (.slice k.A1 s.f1.length k.c1) := (S_1).out.cell 1
    have c_S_2 : u0.cell? ⟨w.heap.size + 1, 2, none⟩ = some (.slice k.A2 s.f2.length k.c2) := (S_1).out.cell 2
    have c_S_3 : u0.cell? ⟨w.heap.size + 1, 3, none⟩ = some (.slice k.A3 s.f3.length k.c3) := (S_1).out.cell 3
    have c_S_4 : u0.cell? ⟨w.heap.size + 1, 4, none⟩ = some (.slice k.A4 s.f4.length k.c4) := (S_1).out.cell 4
    have l_S : w.heap.size + 1 < u0.heap.size := (S_1).out.lt
    go_wp2_with fail
    clear c_P_0 l_P c_S_0 c_S_1 c_S_2 c_S_3 c_S_4 l_S
    refine (atok_any h L k.A0 s.f0 k.c0 u0 B (RP_1).out (RS_1).out.r0 (by omega) hl l0 true Y1).mono ?_
    rintro e u1 ⟨rfl, hb⟩
    have sz_2 := (hb).size
    have P_2 := Lib.hid ((P_1).out.below hb (P_1).out.lt)
    clear P_1
    have S_2 := Lib.hid ((S_1).out.below hb (S_1).out.lt)
    clear S_1
    have RP_2 := Lib.hid ((RP_1).out.below hb (by omega))
    clear RP_1
    have RS_2 := Lib.hid ((RS_1).out.below hb (by omega))
    clear RS_1
    have BEL_2 := Lib.hid (below_on (BEL_1).out hb)
    clear BEL_1
    clear hb
    have c_P_0 : u1.cell? ⟨w.heap.size, 0, none⟩ = some (.slice h.A L.length h.c) := (P_2).out.cell 0
    have l_P : w.heap.size < u1.heap.size := (P_2).out.lt
    have c_S_0 : u1.cell? ⟨w.heap.size + 1, 0, none⟩ = some (.slice k.A0 s.f0.length k.c0) := (S_2).out.cell 0
    have c_S_1 : u1.cell? ⟨w.heap.size + 1, 1, none⟩ = some (.slice k.A1 s.f1.length k.c1) := (S_2).out.cell 1
    have c_S_2 : u1.cell? ⟨w.heap.size + 1, 2, none⟩ = some (.slice k.A2 s.f2.length k.c2) := (S_2).out.cell 2
    have c_S_3 : u1.cell? ⟨w.heap.size + 1, 3, none⟩ = some (.slice k.A3 s.f3.length k.c3) := (S_2).out.cell 3
    have c_S_4 : u1.cell? ⟨w.heap.size + 1, 4, none⟩ = some (.slice k.A4 s.f4.length k.c4) := (S_2).out.cell 4
    have l_S : w.heap.size + 1 < u1.heap.size := (S_2).out.lt
    go_wp2_with fail
    clear c_P_0 l_P c_S_0 c_S_1 c_S_2 c_S_3 c_S_4 l_S
    refine (numok_any k.A1 s.f1 k.c1 _ _ _ u1 B (RS_2).out.r1 l1 true Y2).mono ?_
    rintro e w' ⟨rfl, rfl⟩
    have c_P_0 : u1.cell? ⟨w.heap.size, 0, none⟩ = some (.slice h.A L.length h.c) := (P_2).out.cell 0
    have l_P : w.heap.size < u1.heap.size := (P_2).out.lt
    have c_S_0 : u1.cell? ⟨w.heap.size + 1, 0, none⟩ = some (.slice k.A0 s.f0.length k.c0) := (S_2).out.cell 0
    have c_S_1 : u1.cell? ⟨w.heap.size + 1, 1, none⟩ = some (.slice k.A1 s.f1.length k.c1) := (S_2).out.cell 1
    have c_S_2 : u1.cell? ⟨w.heap.size + 1, 2, none⟩ = some (.slice k.A2 s.f2.length k.c2) := (S_2).out.cell 2
    have c_S_3 : u1.cell? ⟨w.heap.size + 1, 3, none⟩ = some (.slice k.A3 s.f3.length k.c3) := (S_2).out.cell 3
    have c_S_4 : u1.cell? ⟨w.heap.size + 1, 4, none⟩ = some (.slice k.A4 s.f4.length k.c4) := (S_2).out.cell 4
    have l_S : w.heap.size + 1 < u1.heap.size := (S_2).out.lt
    go_wp2_with fail
    clear c_P_0 l_P c_S_0 c_S_1 c_S_2 c_S_3 c_S_4 l_S
    refine (numok_any k.A2 s.f2 k.c2 _ _ _ u1 B (RS_2).out.r2 l2 false Y3).mono ?_
    rintro e w' ⟨rfl, rfl⟩
    go_wp2
    go_ret
    exact ⟨by rw [hfin.out]; rfl, (BEL_2).out⟩
  subst e
  obtain ⟨b4, y4⟩ : ∃ b, numB s.f3 2 (-1) ((L.length : Int) - 1) = b := ⟨_, rfl⟩
  have Y4 := Lib.hid y4
  clear y4
  rcases Bool.eq_false_or_eq_true b4 with e | e
  rotate_left
  · subst e
    have hfin : Hid (r = false) := Lib.hid (by rw [← hr.out]; unfold stB; simp [Y0.out, Y1.out, Y2.out, Y3.out, Y4.out])
    clear hr
    go_enter Try.func86, Try.ntmps86
    go_wp2_with fail
    rw [← HW.out]
    refine (iprog_any h.A L h.c W B (RP_0).out (by omega) hl true Y0).mono ?_
    rintro e u0 ⟨rfl, hb⟩
    have sz_1 := (hb).size
    have P_1 := Lib.hid ((P_0).out.below hb (P_0).out.lt)
    clear P_0
    have S_1 := Lib.hid ((S_0).out.below hb (S_0).out.lt)
    clear S_0
    have RP_1 := Lib.hid ((RP_0).out.below hb (by omega))
    clear RP_0
    have RS_1 := Lib.hid ((RS_0).out.below hb (by omega))
    clear RS_0
    have BEL_1 := Lib.hid (below_on (BEL_0).out hb)
    clear BEL_0
    clear hb
    have c_P_0 : u0.cell? ⟨w.heap.size, 0, none⟩ = some (.slice h.A L.length h.c) := (P_1).out.cell 0
    have l_P : w.heap.size < u0.heap.size := (P_1).out.lt
    have c_S_0 : u0.cell? ⟨w.heap.size + 1, 0, none⟩ = some (.slice k.A0 s.f0.length k.c0) := (S_1).out.cell 0
    have c_S_1 : u0.cell? ⟨w.heap.size + 1, 1, none⟩ = some (.slice k.A1 s.f1.length k.c1) := (S_1).out.cell 1
    have c_S_2 : u0.cell? ⟨w.heap.size + 1, 2, none⟩ = some (.slice k.A2 s.f2.length k.c2) := (S_1).out.cell 2
    have c_S_3 : u0.cell? ⟨w.heap.size + 1, 3, none⟩ = some (.slice k.A3 s.f3.length k.c3) := (S_1).out.cell 3
    have c_S_4 : u0.cell? ⟨w.heap.size + 1, 4, none⟩ = some (.slice k.A4 s.f4.length k.c4) := (S_1).out.cell 4
    have l_S : w.heap.size + 1 < u0.heap.size := (S_1).out.lt
    go_wp2_with fail
    clear c_P_0 l_P c_S_0 c_S_1 c_S_2 c_S_3 c_S_4 l_S
    refine (atok_any h L k.A0 s.f0 k.c0 u0 B (RP_1).out (RS_1).out.r0 (by omega) hl l0 true Y1).mono ?_
    rintro e u1 ⟨rfl, hb⟩
    have sz_2 := (hb).size
    have P_2 := Lib.hid ((P_1).out.below hb (P_1).out.lt)
    clear P_1
    have S_2 := Lib.hid ((S_1).out.below hb (S_1).out.lt)
    clear S_1
    have RP_2 := Lib.hid ((RP_1).out.below hb (by omega))
    clear RP_1
    have RS_2 := Lib.hid ((RS_1).out.below hb (by omega))
    clear RS_1
    have BEL_2 := Lib.hid (below_on (BEL_1).out hb)
    clear BEL_1
    clear hb
    have c_P_0 : u1.cell? ⟨w.heap.size, 0, none⟩ = some (.slice h.A L.length h.c) := (P_2).out.cell 0
    have l_P : w.heap.size < u1.heap.size := (P_2).out.lt
    have c_S_0 : u1.cell? ⟨w.heap.size + 1, 0, none⟩ = some (.slice k.A0 s.f0.length k.c0) := (S_2).out.cell 0
    have c_S_1 : u1.cell? ⟨w.heap.size + 1, 1, none⟩ = some (.slice k.A1 s.f1.length k.c1) := (S_2).out.cell 1
    have c_S_2 : u1.cell? ⟨w.heap.size + 1, 2, none⟩ = some (.slice k.A2 s.f2.length k.c2) := (S_2).out.cell 2
    have c_S_3 : u1.cell? ⟨w.heap.size + 1, 3, none⟩ = some (.slice k.A3 s.f3.length k.c3) := (S_2).out.cell 3
    have c_S_4 : u1.cell? ⟨w.heap.size + 1, 4, none⟩ = some (.slice k.A4 s.f4.length k.c4) := (S_2).out.cell 4
    have l_S : w.heap.size + 1 < u1.heap.size := (S_2).out.lt
    go_wp2_with fail
    clear c_P_0 l_P c_S_0 c_S_1 c_S_2 c_S_3 c_S_4 l_S
    refine (numok_any k.A1 s.f1 k.c1 _ _ _ u1 B (RS_2).out.r1 l1 true Y2).mono ?_
    rintro e w' ⟨rfl, rfl⟩
    have c_P_0 : u1.cell? ⟨w.heap.size, 0, none⟩ = some (.slice h.A L.length h.c) := (P_2).out.cell 0
    have l_P : w.heap.size < u1.heap.size := (P_2).out.lt
    have c_S_0 : u1.cell? ⟨w.heap.size + 1, 0, none⟩ = some (.slice k.A0 s.f0.length k.c0) := (S_2).out.cell 0
    have c_S_1 : u1.cell? ⟨w.heap.size + 1, 1, none⟩ = some (.slice k.A1 s.f1.length k.c1) := (S_2).out.cell 1
    have c_S_2 : u1.cell? ⟨w.heap.size + 1, 2, none⟩ = some (.slice k.A2 s.f2.length k.c2) := (S_2).out.cell 2
    have c_S_3 : u1.cell? ⟨w.heap.size + 1, 3, none⟩ = some (.slice k.A3 s.f3.length k.c3) := (S_2).out.cell 3
    have c_S_4 : u1.cell? ⟨w.heap.size + 1, 4, none⟩ = some (.slice k.A4 s.f4.length k.c4) := (S_2).out.cell 4
    have l_S : w.heap.size + 1 < u1.heap.size := (S_2).out.lt
    go_wp2_with fail
    clear c_P_0 l_P c_S_0 c_S_1 c_S_2 c_S_3 c_S_4 l_S
    refine (numok_any k.A2 s.f2 k.c2 _ _ _ u1 B (RS_2).out.r2 l2 true Y3).mono ?_
    rintro e w' ⟨rfl, rfl⟩
    have c_P_0 : u1.cell? ⟨w.heap.size, 0, none⟩ = some (.slice h.A L.length h.c) := (P_2).out.cell 0
    have l_P : w.heap.size < u1.heap.size := (P_2).out.lt
    have c_S_0 : u1.cell? ⟨w.heap.size + 1, 0, none⟩ = some (.slice k.A0 s.f0.length k.c0) := (S_2).out.cell 0
    have c_S_1 : u1.cell? ⟨w.heap.size + 1, 1, none⟩ = some (.slice k.A1 s.f1.length k.c1) := (S_2).out.cell 1
    have c_S_2 : u1.cell? ⟨w.heap.size + 1, 2, none⟩ = some (.slice k.A2 s.f2.length k.c2) := (S_2).out.cell 2
    have c_S_3 : u1.cell? ⟨w.heap.size + 1, 3, none⟩ = some (.slice k.A3 s.f3.length k.c3) := (S_2).out.cell 3
    have c_S_4 : u1.cell? ⟨w.heap.size + 1, 4, none⟩ = some (.slice k.A4 s.f4.length k.c4) := (S_2).out.cell 4
    have l_S : w.heap.size + 1 < u1.heap.size := (S_2).out.lt
    go_wp2_with fail
    clear c_P_0 l_P c_S_0 c_S_1 c_S_2 c_S_3 c_S_4 l_S
    refine (numok_any k.A3 s.f3 k.c3 _ _ _ u1 B (RS_2).out.r3 l3 false Y4).mono ?_
    rintro e w' ⟨rfl, rfl⟩
    go_wp2
    go_ret
    exact ⟨by rw [hfin.out]; rfl, (BEL_2).out⟩
  subst e
  obtain ⟨b5, y5⟩ : ∃ b, numB s.f4 2 (-1) 3 = b := ⟨_, rfl⟩
  have Y5 := Lib.hid y5
  clear y5
  have hfin : Hid (r = b5) := Lib.hid (by rw [← hr.out]; unfold stB; simp [Y0.out, Y1.out, Y2.out, Y3.out, Y4.out, Y5.out])
  clear hr
  go_enter Try.func86, Try.ntmps86
  go_wp2_with fail
  rw [← HW.out]
  refine (iprog_any h.A L h.c W B (RP_0).out (by omega) hl true Y0).mono ?_
  rintro e u0 ⟨rfl, hb⟩
  have sz_1 := (hb).size
  have P_1 := Lib.hid ((P_0).out.below hb (P_0).out.lt)
  clear P_0
  have S_1 := Lib.hid ((S_0).out.below hb (S_0).out.lt)
  clear S_0
  have RP_1 := Lib.hid ((RP_0).out.below hb (by omega))
  clear RP_0
  have RS_1 := Lib.hid ((RS_0).out.below hb (by omega))
  clear RS_0
  have BEL_1 := Lib.hid (below_on (BEL_0).out hb)
  clear BEL_0
  clear hb
  have c_P_0 : u0.cell? ⟨w.heap.size, 0, none⟩ = some (.slice h.A L.length h.c) := (P_1).out.cell 0
  have l_P : w.heap.size < u0.heap.size := (P_1).out.lt
  have c_S_0 : u0.cell? ⟨w.heap.size + 1, 0, none⟩ = some (.slice k.A0 s.f0.length k.c0) := (S_1).out.cell 0
  have c_S_1 : u0.cell? ⟨w.heap.size + 1, 1, none⟩ = some (.slice k.A1 s.f1.length k.c1) := (S_1).out.cell 1
  have c_S_2 : u0.cell? ⟨w.heap.size + 1, 2, none⟩ = some (.slice k.A2 s.f2.length k.c2) := (S_1).out.cell 2
  have c_S_3 : u0.cell? ⟨w.heap.size + 1, 3, none⟩ = some (.slice k.A3 s.f3.length k.c3) := (S_1).out.cell 3
  have c_S_4 : u0.cell? ⟨w.heap.size + 1, 4, none⟩ = some (.slice k.A4 s.f4.length k.c4) := (S_1).out.cell 4
  have l_S : w.heap.size + 1 < u0.heap.size := (S_1).out.lt
  go_wp2_with fail
  clear c_P_0 l_P c_S_0 c_S_1 c_S_2 c_S_3 c_S_4 l_S
  refine (atok_any h L k.A0 s.f0 k.c0 u0 B (RP_1).out (RS_1).out.r0 (by omega) hl l0 true Y1).mono ?_
  rintro e u1 ⟨rfl, hb⟩
  have sz_2 := (hb).size
  have P_2 := Lib.hid ((P_1).out.below hb (P_1).out.lt)
  clear P_1
  have S_2 := Lib.hid ((S_1).out.below hb (S_1).out.lt)
  clear S_1
  have RP_2 := Lib.hid ((RP_1).out.below hb (by omega))
  clear RP_1
  have RS_2 := Lib.hid ((RS_1).out.below hb (by omega))
  clear RS_1
  have BEL_2 := Lib.hid (below_on (BEL_1).out hb)
  clear BEL_1
  clear hb
  have c_P_0 : u1.cell? ⟨w.heap.size, 0, none⟩ = some (.slice h.A L.length h.c) := (P_2).out.cell 0
  have l_P : w.heap.size < u1.heap.size := (P_2).out.lt
  have c_S_0 : u1.cell? ⟨w.heap.size + 1, 0, none⟩ = some (.slice k.A0 s.f0.length k.c0) := (S_2).out.cell 0
  have c_S_1 : u1.cell? ⟨w.heap.size + 1, 1, none⟩ = some (.slice k.A1 s.f1.length k.c1) := (S_2).out.cell 1
  have c_S_2 : u1.cell? ⟨w.heap.size + 1, 2, none⟩ = some (.slice k.A2 s.f2.length k.c2) := (S_2).out.cell 2
  have c_S_3 : u1.cell? ⟨w.heap.size + 1, 3, none⟩ = some (.slice k.A3 s.f3.length k.c3) := (S_2).out.cell 3
  have c_S_4 : u1.cell? ⟨w.heap.size + 1, 4, none⟩ = some (.slice k.A4 s.f4.length k.c4) := (S_2).out.cell 4
  have l_S : w.heap.size + 1 < u1.heap.size := (S_2).out.lt
  go_wp2_with fail
  clear c_P_0 l_P c_S_0 c_S_1 c_S_2 c_S_3 c_S_4 l_S
  refine (numok_any k.A1 s.f1 k.c1 _ _ _ u1 B (RS_2).out.r1 l1 true Y2).mono ?_
  rintro e w' ⟨rfl, rfl⟩
  have c_P_0 : u1.cell? ⟨w.heap.size, 0, none⟩ = some (.slice h.A L.length h.c) := (P_2).out.cell 0
  have l_P : w.heap.size < u1.heap.size := (P_2).out.lt
  have c_S_0 : u1.cell? ⟨w.heap.size + 1, 0, none⟩ = some (.slice k.A0 s.f0.length k.c0) := (S_2).out.cell 0
  have c_S_1 : u1.cell? ⟨w.heap.size + 1, 1, none⟩ = some (.slice k.A1 s.f1.length k.c1) := (S_2).out.cell 1
  have c_S_2 : u1.cell? ⟨w.heap.size + 1, 2, none⟩ = some (.slice k.A2 s.f2.length k.c2) := (S_2).out.cell 2
  have c_S_3 : u1.cell? ⟨w.heap.size + 1, 3, none⟩ = some (.slice k.A3 s.f3.length k.c3) := (S_2).out.cell 3
  have c_S_4 : u1.cell? ⟨w.heap.size + 1, 4, none⟩ = some (.slice k.A4 s.f4.length k.c4) := (S_2).out.cell 4
  have l_S : w.heap.size + 1 < u1.heap.size := (S_2).out.lt
  go_wp2_with fail
  clear c_P_0 l_P c_S_0 c_S_1 c_S_2 c_S_3 c_S_4 l_S
  refine (numok_any k.A2 s.f2 k.c2 _ _ _ u1 B (RS_2).out.r2 l2 true Y3).mono ?_
  rintro e w' ⟨rfl, rfl⟩
  have c_P_0 : u1.cell? ⟨w.heap.size, 0, none⟩ = some (.slice h.A L.length h.c) := (P_2).out.cell 0
  have l_P : w.heap.size < u1.heap.size := (P_2).out.lt
  have c_S_0 : u1.cell? ⟨w.heap.size + 1, 0, none⟩ = some (.slice k.A0 s.f0.length k.c0) := (S_2).out.cell 0
  have c_S_1 : u1.cell? ⟨w.heap.size + 1, 1, none⟩ = some (.slice k.A1 s.f1.length k.c1) := (S_2).out.cell 1
  have c_S_2 : u1.cell? ⟨w.heap.size + 1, 2, none⟩ = some (.slice k.A2 s.f2.length k.c2) := (S_2).out.cell 2
  have c_S_3 : u1.cell? ⟨w.heap.size + 1, 3, none⟩ = some (.slice k.A3 s.f3.length k.c3) := (S_2).out.cell 3
  have c_S_4 : u1.cell? ⟨w.heap.size + 1, 4, none⟩ = some (.slice k.A4 s.f4.length k.c4) := (S_2).out.cell 4
  have l_S : w.heap.size + 1 < u1.heap.size := (S_2).out.lt
  go_wp2_with fail
  clear c_P_0 l_P c_S_0 c_S_1 c_S_2 c_S_3 c_S_4 l_S
  refine (numok_any k.A3 s.f3 k.c3 _ _ _ u1 B (RS_2).out.r3 l3 true Y4).mono ?_
  rintro e w' ⟨rfl, rfl⟩
  have c_P_0 : u1.cell? ⟨w.heap.size, 0, none⟩ = some (.slice h.A L.length h.c) := (P_2).out.cell 0
  have l_P : w.heap.size < u1.heap.size := (P_2).out.lt
  have c_S_0 : u1.cell? ⟨w.heap.size + 1, 0, none⟩ = some (.slice k.A0 s.f0.length k.c0) := (S_2).out.cell 0
  have c_S_1 : u1.cell? ⟨w.heap.size + 1, 1, none⟩ = some (.slice k.A1 s.f1.length k.c1) := (S_2).out.cell 1
  have c_S_2 : u1.cell? ⟨w.heap.size + 1, 2, none⟩ = some (.slice k.A2 s.f2.length k.c2) := (S_2).out.cell 2
  have c_S_3 : u1.cell? ⟨w.heap.size + 1, 3, none⟩ = some (.slice k.A3 s.f3.length k.c3) := (S_2).out.cell 3
  have c_S_4 : u1.cell? ⟨w.heap.size + 1, 4, none⟩ = some (.slice k.A4 s.f4.length k.c4) := (S_2).out.cell 4
  have l_S : w.heap.size + 1 < u1.heap.size := (S_2).out.lt
  go_wp2_with fail
  clear c_P_0 l_P c_S_0 c_S_1 c_S_2 c_S_3 c_S_4 l_S
  refine (numok_any k.A4 s.f4 k.c4 _ _ _ u1 B (RS_2).out.r4 l4 b5 Y5).mono ?_
  rintro e w' ⟨rfl, rfl⟩
  go_wp2
  go_ret
  exact ⟨by rw [hfin.out]; rfl, (BEL_2).out⟩
theorem sstok_any (h : PgH) (L : Pg) (k : StaH) (s : Sta) (w : World) (B : Nat) (hP : PgR w B h L) (hS : StaR w B k s) (hB : B ≤ w.heap.size) (SP : PgS L) (LS : StaS s) (r : Bool) (hr : Hid (stB L s = r)) :
    Calls Try.prog 77 #[PgV h L, StaV k s] w fun e w' => e = .returned (.bool r) ∧ Below w.heap.size w w' := by
  have LP := PgS_L SP
  have LS := StaS_L LS
  obtain ⟨l0, l1, l2, l3, l4⟩ := LS
  have hl := LP.l
  obtain ⟨W, hW⟩ : ∃ W, W = (w.alloc (.cells #[.slice h.A L.length h.c] 30)).alloc (.cells #[.slice k.A0 s.f0.length k.c0, .slice k.A1 s.f1.length k.c1, .slice k.A2 s.f2.length k.c2, .slice k.A3 s.f3.length k.c3, .slice k.A4 s.f4.length k.c4] 41) := ⟨_, rfl⟩
  have hbW : Below w.heap.size w W := by rw [hW]; go_grown
  have hsW : W.heap.size = w.heap.size + 1 + 1 := by rw [hW]; simp
  have kp : Bk W w.heap.size 30 #[.slice h.A L.length h.c] := by rw [hW]; exact (Bk.new w _ _).alloc _
  have ks : Bk W (w.heap.size + 1) 41 #[.slice k.A0 s.f0.length k.c0, .slice k.A1 s.f1.length k.c1, .slice k.A2 s.f2.length k.c2, .slice k.A3 s.f3.length k.c3, .slice k.A4 s.f4.length k.c4] := by
    rw [hW]; have := Bk.new (w.alloc (.cells #[.slice h.A L.length h.c] 30)) #[.slice k.A0 s.f0.length k.c0, .slice k.A1 s.f1.length k.c1, .slice k.A2 s.f2.length k.c2, .slice k.A3 s.f3.length k.c3, .slice k.A4 s.f4.length k.c4] 41
    rwa [World.size_alloc] at this
  have HW := Lib.hid hW
  have P_0 := Lib.hid (kp)
  have S_0 := Lib.hid (ks)
  have RP_0 := Lib.hid (hP.below hbW hB)
  have RS_0 := Lib.hid (hS.below hbW hB)
  have BEL_0 := Lib.hid (hbW)
  have hsWa := Nat.le_of_eq hsW
  have hsWb := Nat.le_of_eq hsW.symm
  clear hW hsW hbW kp ks hP hS
  obtain ⟨b0, y0⟩ : ∃ b, progB L = b := ⟨_, rfl⟩
  have Y0 := Lib.hid y0
  clear y0
  rcases Bool.eq_false_or_eq_true b0 with e | e
  rotate_left
  · subst e
    have hfin : Hid (r = false) := Lib.hid (by rw [← hr.out]; unfold stB; simp [Y0.out])
    clear hr
    go_enter Try.func77, Try.ntmps77
    go_wp2_with fail
    rw [← HW.out]
    refine (sprog_any h.A L h.c W B (RP_0).out (by omega) SP.l (Lib.hid SP.e) false Y0).mono ?_
    rintro e u0 ⟨rfl, hb⟩
    have sz_1 := (hb).size
    have P_1 := Lib.hid ((P_0).out.below hb (P_0).out.lt)
    clear P_0
    have S_1 := Lib.hid ((S_0).out.below hb (S_0).out.lt)
    clear S_0
    have RP_1 := Lib.hid ((RP_0).out.below hb (by omega))
    clear RP_0
    have RS_1 := Lib.hid ((RS_0).out.below hb (by omega))
    clear RS_0
    have BEL_1 := Lib.hid (below_on (BEL_0).out hb)
    clear BEL_0
    clear hb
    go_wp2
    go_ret
    exact ⟨by rw [hfin.out]; rfl, (BEL_1).out⟩
  subst e
  have h3 := prog_len Y0.out
  have h31 : 1 ≤ L.length := h3.1
  have h32 : L.length ≤ 3 := h3.2
  clear h3
  obtain ⟨b1, y1⟩ : ∃ b, atZ L s.f0 = b := ⟨_, rfl⟩
  have Y1 := Lib.hid y1
  clear y1
  rcases Bool.eq_false_or_eq_true b1 with e | e
  rotate_left
  · subst e
    have hfin : Hid (r = false) := Lib.hid (by rw [← hr.out]; unfold stB; simp [Y0.out, Y1.out])
    clear hr
    go_enter Try.func77, Try.ntmps77
    go_wp2_with fail
    rw [← HW.out]
    refine (sprog_any h.A L h.c W B (RP_0).out (by omega) SP.l (Lib.hid SP.e) true Y0).mono ?_
    rintro e u0 ⟨rfl, hb⟩
    have sz_1 := (hb).size
    have P_1 := Lib.hid ((P_0).out.below hb (P_0).out.lt)
    clear P_0
    have S_1 := Lib.hid ((S_0).out.below hb (S_0).out.lt)
    clear S_0
    have RP_1 := Lib.hid ((RP_0).out.below hb (by omega))
    clear RP_0
    have RS_1 := Lib.hid ((RS_0).out.below hb (by omega))
    clear RS_0
    have BEL_1 := Lib.hid (below_on (BEL_0).out hb)
    clear BEL_0
    clear hb
    have c_P_0 : u0.cell? ⟨w.heap.size, 0, none⟩ = some (.slice h.A L.length h.c) := (P_1).out.cell 0
    have l_P : w.heap.size < u0.heap.size := (P_1).out.lt
    have c_S_0 : u0.cell? ⟨w.heap.size + 1, 0, none⟩ = some (.slice k.A0 s.f0.length k.c0) := (S_1).out.cell 0
    have c_S_1 : u0.cell? ⟨w.heap.size + 1, 1, none⟩ = some (.slice k.A1 s.f1.length k.c1) := (S_1).out.cell 1
    have c_S_2 : u0.cell? ⟨w.heap.size + 1, 2, none⟩ = some (.slice k.A2 s.f2.length k.c2) := (S_1).out.cell 2
    have c_S_3 : u0.cell? ⟨w.heap.size + 1, 3, none⟩ = some (.slice k.A3 s.f3.length k.c3) := (S_1).out.cell 3
    have c_S_4 : u0.cell? ⟨w.heap.size + 1, 4, none⟩ = some (.slice k.A4 s.f4.length k.c4) := (S_1).out.cell 4
    have l_S : w.heap.size + 1 < u0.heap.size := (S_1).out.lt
    by_cases hn : s.f0.length = L.length
    rotate_left
    · have hn' : ((s.f0.length : Int) != (L.length : Int)) = true := by simp; omega
      clear hn
      go_wp2
      go_ret
      exact ⟨by rw [hfin.out]; rfl, (BEL_1).out⟩
    have hn' : ((s.f0.length : Int) != (L.length : Int)) = false := by simp [hn]
    have hle : s.f0.length ≤ L.length := by omega
    have hge : L.length ≤ s.f0.length := by omega
    clear hn
    go_wp2_with fail
    have V0 := Lib.hid (RS_1).out.r0
    have V1 := RP_1
    obtain ⟨wo, rfl⟩ : ∃ V, V = u0 := ⟨_, rfl⟩
    go_loopw [6] (fun i wr => ∃ m : Nat, m ≤ L.length ∧ i = .int .i64 m ∧ Below wo.heap.size wo wr ∧ (∀ b o, wr.cell? ⟨b, o, none⟩ = wo.cell? ⟨b, o, none⟩) ∧ Hid (atZ (L.drop m) (s.f0.drop m) = false)) (fun i _ => L.length - (intOf i).toNat)
    case atStart => exact ⟨0, Nat.zero_le _, rfl, Below.refl _ _, fun _ _ => rfl, by simpa using Y1⟩
    case round =>
      obtain ⟨m, hm, rfl, hbel, hsame, hrest⟩ := hrel
      have hsz := hbel.size
      have d_P_0 := (hsame _ _).trans c_P_0
      have d_S_0 := (hsame _ _).trans c_S_0
      have d_S_1 := (hsame _ _).trans c_S_1
      have d_S_2 := (hsame _ _).trans c_S_2
      have d_S_3 := (hsame _ _).trans c_S_3
      have d_S_4 := (hsame _ _).trans c_S_4
      clear c_P_0 l_P c_S_0 c_S_1 c_S_2 c_S_3 c_S_4 l_S hn'
      by_cases hlt : m < L.length
      · obtain ⟨b, off, x, hA0, hb, hx, hd, hx0⟩ := (V0.out.keepV fun b o _ => hsame b o).int_ (show m < s.f0.length by omega)
        obtain ⟨b2, off2, ys, Ai, ci, hA, hb2, -, hd2, hc2, -, hmy, -⟩ := Rows2.at_ (Rows2.keep V1.out (Nat.le_refl _) fun b o _ => hsame b o) hlt
        have Hd := Lib.hid hd
        have Hd2 := Lib.hid hd2
        have hi2 : (m : Int) < (L.length : Int) := by omega
        have hi1 : (m : Int) < (s.f0.length : Int) := by omega
        unfold maxLen at hmy
        rw [hA0] at d_S_0
        rw [hA] at d_P_0
        have Hsame := Lib.hid hsame
        clear hd hx hd2 hA hA0 hsame
        rcases Bool.eq_false_or_eq_true (inB x 0 ys.length) with he | he
        all_goals
          have He := Lib.hid he
          clear he
          go_wp2
          go_quiet ((go_at_call 79; exact Calls.quiet_of_same ((l1In_b _ _ _ _ _ He).mono fun _ _ h => ⟨h.1, h.2.symm⟩)))
          go_wp2
        · go_roundw
          case rel => exact ⟨m + 1, by omega, by go_num, below_drewN hbel _, fun b o => Hsame.out b o, Lib.hid (by
            have := hrest.out
            rw [Hd.out, Hd2.out, atZ, He.out] at this
            simpa using this)⟩
          case measure => simp [intOf]; omega
        · go_ret
          exact ⟨by rw [hfin.out]; rfl, below_on (BEL_1).out (below_drewN hbel _)⟩
      · exfalso
        have := hrest.out
        rw [List.drop_eq_nil_of_le (by omega), List.drop_eq_nil_of_le (by omega)] at this
        simp [atZ] at this
  subst e
  obtain ⟨b2, y2⟩ : ∃ b, numB s.f1 ((L.length : Int) * 3) 0 3 = b := ⟨_, rfl⟩
  have Y2 := Lib.hid y2
  clear y2
  rcases Bool.eq_false_or_eq_true b2 with e | e
  rotate_left
  · subst e
    have hfin : Hid (r = false) := Lib.hid (by rw [← hr.out]; unfold stB; simp [Y0.out, Y1.out, Y2.out])
    clear hr
    go_enter Try.func77, Try.ntmps77
    go_wp2_with fail
    rw [← HW.out]
    refine (sprog_any h.A L h.c W B (RP_0).out (by omega) SP.l (Lib.hid SP.e) true Y0).mono ?_
    rintro e u0 ⟨rfl, hb⟩
    have sz_1 := (hb).size
    have P_1 := Lib.hid ((P_0).out.below hb (P_0).out.lt)
    clear P_0
    have S_1 := Lib.hid ((S_0).out.below hb (S_0).out.lt)
    clear S_0
    have RP_1 := Lib.hid ((RP_0).out.below hb (by omega))
    clear RP_0
    have RS_1 := Lib.hid ((RS_0).out.below hb (by omega))
    clear RS_0
    have BEL_1 := Lib.hid (below_on (BEL_0).out hb)
    clear BEL_0
    clear hb
    have c_P_0 : u0.cell? ⟨w.heap.size, 0, none⟩ = some (.slice h.A L.length h.c) := (P_1).out.cell 0
    have l_P : w.heap.size < u0.heap.size := (P_1).out.lt
    have c_S_0 : u0.cell? ⟨w.heap.size + 1, 0, none⟩ = some (.slice k.A0 s.f0.length k.c0) := (S_1).out.cell 0
    have c_S_1 : u0.cell? ⟨w.heap.size + 1, 1, none⟩ = some (.slice k.A1 s.f1.length k.c1) := (S_1).out.cell 1
    have c_S_2 : u0.cell? ⟨w.heap.size + 1, 2, none⟩ = some (.slice k.A2 s.f2.length k.c2) := (S_1).out.cell 2
    have c_S_3 : u0.cell? ⟨w.heap.size + 1, 3, none⟩ = some (.slice k.A3 s.f3.length k.c3) := (S_1).out.cell 3
    have c_S_4 : u0.cell? ⟨w.heap.size + 1, 4, none⟩ = some (.slice k.A4 s.f4.length k.c4) := (S_1).out.cell 4
    have l_S : w.heap.size + 1 < u0.heap.size := (S_1).out.lt
    have hn := atZ_len Y1.out
    have hn' : ((s.f0.length : Int) != (L.length : Int)) = false := by simp [hn]
    have hle : s.f0.length ≤ L.length := by omega
    have hge : L.length ≤ s.f0.length := by omega
    clear hn
    go_wp2_with fail
    have V0 := Lib.hid (RS_1).out.r0
    have V1 := RP_1
    obtain ⟨wo, rfl⟩ : ∃ V, V = u0 := ⟨_, rfl⟩
    go_loopw [6] (fun i wr => ∃ m : Nat, m ≤ L.length ∧ i = .int .i64 m ∧ Below wo.heap.size wo wr ∧ (∀ b o, wr.cell? ⟨b, o, none⟩ = wo.cell? ⟨b, o, none⟩) ∧ Hid (atZ (L.drop m) (s.f0.drop m) = true)) (fun i _ => L.length - (intOf i).toNat)
    case atStart => exact ⟨0, Nat.zero_le _, rfl, Below.refl _ _, fun _ _ => rfl, by simpa using Y1⟩
    case round =>
      obtain ⟨m, hm, rfl, hbel, hsame, hrest⟩ := hrel
      have hsz := hbel.size
      have d_P_0 := (hsame _ _).trans c_P_0
      have d_S_0 := (hsame _ _).trans c_S_0
      have d_S_1 := (hsame _ _).trans c_S_1
      have d_S_2 := (hsame _ _).trans c_S_2
      have d_S_3 := (hsame _ _).trans c_S_3
      have d_S_4 := (hsame _ _).trans c_S_4
      clear c_P_0 l_P c_S_0 c_S_1 c_S_2 c_S_3 c_S_4 l_S hn'
      by_cases hlt : m < L.length
      · obtain ⟨b, off, x, hA0, hb, hx, hd, hx0⟩ := (V0.out.keepV fun b o _ => hsame b o).int_ (show m < s.f0.length by omega)
        obtain ⟨b2, off2, ys, Ai, ci, hA, hb2, -, hd2, hc2, -, hmy, -⟩ := Rows2.at_ (Rows2.keep V1.out (Nat.le_refl _) fun b o _ => hsame b o) hlt
        have Hd := Lib.hid hd
        have Hd2 := Lib.hid hd2
        have hi2 : (m : Int) < (L.length : Int) := by omega
        have hi1 : (m : Int) < (s.f0.length : Int) := by omega
        unfold maxLen at hmy
        rw [hA0] at d_S_0
        rw [hA] at d_P_0
        have Hsame := Lib.hid hsame
        clear hd hx hd2 hA hA0 hsame
        rcases Bool.eq_false_or_eq_true (inB x 0 ys.length) with he | he
        all_goals
          have He := Lib.hid he
          clear he
          go_wp2
          go_quiet ((go_at_call 79; exact Calls.quiet_of_same ((l1In_b _ _ _ _ _ He).mono fun _ _ h => ⟨h.1, h.2.symm⟩)))
          go_wp2
        · go_roundw
          case rel => exact ⟨m + 1, by omega, by go_num, below_drewN hbel _, fun b o => Hsame.out b o, Lib.hid (by
            have := hrest.out
            rw [Hd.out, Hd2.out, atZ, He.out] at this
            simpa using this)⟩
          case measure => simp [intOf]; omega
        · exfalso
          have := hrest.out
          rw [Hd.out, Hd2.out, atZ, He.out] at this
          simp at this
      · skip
        have RS' := Lib.hid ((RS_1).out.keepV fun b o _ => hsame b o)
        have BEL' := Lib.hid (below_on (BEL_1).out hbel)
        clear hsame
        go_wp2_with fail
        refine (all_any k.A1 s.f1 k.c1 _ _ _ _ B RS'.out.r1 l1 false Y2).mono ?_
        rintro e w' ⟨rfl, rfl⟩
        go_wp2
        go_ret
        exact ⟨by rw [hfin.out]; rfl, BEL'.out⟩
  subst e
  obtain ⟨b3, y3⟩ : ∃ b, numB s.f2 3 0 3 = b := ⟨_, rfl⟩
  have Y3 := Lib.hid y3
  clear y3
  rcases Bool.eq_false_or_eq_true b3 with e | e
  rotate_left
  · subst e
    have hfin : Hid (r = false) := Lib.hid (by rw [← hr.out]; unfold stB; simp [Y0.out, Y1.out, Y2.out, Y3.out])
    clear hr
    go_enter Try.func77, Try.ntmps77
    go_wp2_with fail
    rw [← HW.out]
    refine (sprog_any h.A L h.c W B (RP_0).out (by omega) SP.l (Lib.hid SP.e) true Y0).mono ?_
    rintro e u0 ⟨rfl, hb⟩
    have sz_1 := (hb).size
    have P_1 := Lib.hid ((P_0).out.below hb (P_0).out.lt)
    clear P_0
    have S_1 := Lib.hid ((S_0).out.below hb (S_0).out.lt)
    clear S_0
    have RP_1 := Lib.hid ((RP_0).out.below hb (by omega))
    clear RP_0
    have RS_1 := Lib.hid ((RS_0).out.below hb (by omega))
    clear RS_0
    have BEL_1 := Lib.hid (below_on (BEL_0).out hb)
    clear BEL_0
    clear hb
    have c_P_0 : u0.cell? ⟨w.heap.size, 0, none⟩ = some (.slice h.A L.length h.c) := (P_1).out.cell 0
    have l_P : w.heap.size < u0.heap.size := (P_1).out.lt
    have c_S_0 : u0.cell? ⟨w.heap.size + 1, 0, none⟩ = some (.slice k.A0 s.f0.length k.c0) := (S_1).out.cell 0
    have c_S_1 : u0.cell? ⟨w.heap.size + 1, 1, none⟩ = some (.slice k.A1 s.f1.length k.c1) := (S_1).out.cell 1
    have c_S_2 : u0.cell? ⟨w.heap.size + 1, 2, none⟩ = some (.slice k.A2 s.f2.length k.c2) := (S_1).out.cell 2
    have c_S_3 : u0.cell? ⟨w.heap.size + 1, 3, none⟩ = some (.slice k.A3 s.f3.length k.c3) := (S_1).out.cell 3
    have c_S_4 : u0.cell? ⟨w.heap.size + 1, 4, none⟩ = some (.slice k.A4 s.f4.length k.c4) := (S_1).out.cell 4
    have l_S : w.heap.size + 1 < u0.heap.size := (S_1).out.lt
    have hn := atZ_len Y1.out
    have hn' : ((s.f0.length : Int) != (L.length : Int)) = false := by simp [hn]
    have hle : s.f0.length ≤ L.length := by omega
    have hge : L.length ≤ s.f0.length := by omega
    clear hn
    go_wp2_with fail
    have V0 := Lib.hid (RS_1).out.r0
    have V1 := RP_1
    obtain ⟨wo, rfl⟩ : ∃ V, V = u0 := ⟨_, rfl⟩
    go_loopw [6] (fun i wr => ∃ m : Nat, m ≤ L.length ∧ i = .int .i64 m ∧ Below wo.heap.size wo wr ∧ (∀ b o, wr.cell? ⟨b, o, none⟩ = wo.cell? ⟨b, o, none⟩) ∧ Hid (atZ (L.drop m) (s.f0.drop m) = true)) (fun i _ => L.length - (intOf i).toNat)
    case atStart => exact ⟨0, Nat.zero_le _, rfl, Below.refl _ _, fun _ _ => rfl, by simpa using Y1⟩
    case round =>
      obtain ⟨m, hm, rfl, hbel, hsame, hrest⟩ := hrel
      have hsz := hbel.size
      have d_P_0 := (hsame _ _).trans c_P_0
      have d_S_0 := (hsame _ _).trans c_S_0
      have d_S_1 := (hsame _ _).trans c_S_1
      have d_S_2 := (hsame _ _).trans c_S_2
      have d_S_3 := (hsame _ _).trans c_S_3
      have d_S_4 := (hsame _ _).trans c_S_4
      clear c_P_0 l_P c_S_0 c_S_1 c_S_2 c_S_3 c_S_4 l_S hn'
      by_cases hlt : m < L.length
      · obtain ⟨b, off, x, hA0, hb, hx, hd, hx0⟩ := (V0.out.keepV fun b o _ => hsame b o).int_ (show m < s.f0.length by omega)
        obtain ⟨b2, off2, ys, Ai, ci, hA, hb2, -, hd2, hc2, -, hmy, -⟩ := Rows2.at_ (Rows2.keep V1.out (Nat.le_refl _) fun b o _ => hsame b o) hlt
        have Hd := Lib.hid hd
        have Hd2 := Lib.hid hd2
        have hi2 : (m : Int) < (L.length : Int) := by omega
        have hi1 : (m : Int) < (s.f0.length : Int) := by omega
        unfold maxLen at hmy
        rw [hA0] at d_S_0
        rw [hA] at d_P_0
        have Hsame := Lib.hid hsame
        clear hd hx hd2 hA hA0 hsame
        rcases Bool.eq_false_or_eq_true (inB x 0 ys.length) with he | he
        all_goals
          have He := Lib.hid he
          clear he
          go_wp2
          go_quiet ((go_at_call 79; exact Calls.quiet_of_same ((l1In_b _ _ _ _ _ He).mono fun _ _ h => ⟨h.1, h.2.symm⟩)))
          go_wp2
        · go_roundw
          case rel => exact ⟨m + 1, by omega, by go_num, below_drewN hbel _, fun b o => Hsame.out b o, Lib.hid (by
            have := hrest.out
            rw [Hd.out, Hd2.out, atZ, He.out] at this
            simpa using this)⟩
          case measure => simp [intOf]; omega
        · exfalso
          have := hrest.out
          rw [Hd.out, Hd2.out, atZ, He.out] at this
          simp at this
      · skip
        have RS' := Lib.hid ((RS_1).out.keepV fun b o _ => hsame b o)
        have BEL' := Lib.hid (below_on (BEL_1).out hbel)
        clear hsame
        go_wp2_with fail
        refine (all_any k.A1 s.f1 k.c1 _ _ _ _ B RS'.out.r1 l1 true Y2).mono ?_
        rintro e w' ⟨rfl, rfl⟩
        go_wp2_with fail
        refine (all_any k.A2 s.f2 k.c2 _ _ _ _ B RS'.out.r2 l2 false Y3).mono ?_
        rintro e w' ⟨rfl, rfl⟩
        go_wp2
        go_ret
        exact ⟨by rw [hfin.out]; rfl, BEL'.out⟩
  subst e
  obtain ⟨b4, y4⟩ : ∃ b, numB s.f3 2 (-1) ((L.length : Int) - 1) = b := ⟨_, rfl⟩
  have Y4 := Lib.hid y4
  clear y4
  rcases Bool.eq_false_or_eq_true b4 with e | e
  rotate_left
  · subst e
    have hfin : Hid (r = false) := Lib.hid (by rw [← hr.out]; unfold stB; simp [Y0.out, Y1.out, Y2.out, Y3.out, Y4.out])
    clear hr
    go_enter Try.func77, Try.ntmps77
    go_wp2_with fail
    rw [← HW.out]
    refine (sprog_any h.A L h.c W B (RP_0).out (by omega) SP.l (Lib.hid SP.e) true Y0).mono ?_
    rintro e u0 ⟨rfl, hb⟩
    have sz_1 := (hb).size
    have P_1 := Lib.hid ((P_0).out.below hb (P_0).out.lt)
    clear P_0
    have S_1 := Lib.hid ((S_0).out.below hb (S_0).out.lt)
    clear S_0
    have RP_1 := Lib.hid ((RP_0).out.below hb (by omega))
    clear RP_0
    have RS_1 := Lib.hid ((RS_0).out.below hb (by omega))
    clear RS_0
    have BEL_1 := Lib.hid (below_on (BEL_0).out hb)
    clear BEL_0
    clear hb
    have c_P_0 : u0.cell? ⟨w.heap.size, 0, none⟩ = some (.slice h.A L.length h.c) := (P_1).out.cell 0
    have l_P : w.heap.size < u0.heap.size := (P_1).out.lt
    have c_S_0 : u0.cell? ⟨w.heap.size + 1, 0, none⟩ = some (.slice k.A0 s.f0.length k.c0) := (S_1).out.cell 0
    have c_S_1 : u0.cell? ⟨w.heap.size + 1, 1, none⟩ = some (.slice k.A1 s.f1.length k.c1) := (S_1).out.cell 1
    have c_S_2 : u0.cell? ⟨w.heap.size + 1, 2, none⟩ = some (.slice k.A2 s.f2.length k.c2) := (S_1).out.cell 2
    have c_S_3 : u0.cell? ⟨w.heap.size + 1, 3, none⟩ = some (.slice k.A3 s.f3.length k.c3) := (S_1).out.cell 3
    have c_S_4 : u0.cell? ⟨w.heap.size + 1, 4, none⟩ = some (.slice k.A4 s.f4.length k.c4) := (S_1).out.cell 4
    have l_S : w.heap.size + 1 < u0.heap.size := (S_1).out.lt
    have hn := atZ_len Y1.out
    have hn' : ((s.f0.length : Int) != (L.length : Int)) = false := by simp [hn]
    have hle : s.f0.length ≤ L.length := by omega
    have hge : L.length ≤ s.f0.length := by omega
    clear hn
    go_wp2_with fail
    have V0 := Lib.hid (RS_1).out.r0
    have V1 := RP_1
    obtain ⟨wo, rfl⟩ : ∃ V, V = u0 := ⟨_, rfl⟩
    go_loopw [6] (fun i wr => ∃ m : Nat, m ≤ L.length ∧ i = .int .i64 m ∧ Below wo.heap.size wo wr ∧ (∀ b o, wr.cell? ⟨b, o, none⟩ = wo.cell? ⟨b, o, none⟩) ∧ Hid (atZ (L.drop m) (s.f0.drop m) = true)) (fun i _ => L.length - (intOf i).toNat)
    case atStart => exact ⟨0, Nat.zero_le _, rfl, Below.refl _ _, fun _ _ => rfl, by simpa using Y1⟩
    case round =>
      obtain ⟨m, hm, rfl, hbel, hsame, hrest⟩ := hrel
      have hsz := hbel.size
      have d_P_0 := (hsame _ _).trans c_P_0
      have d_S_0 := (hsame _ _).trans c_S_0
      have d_S_1 := (hsame _ _).trans c_S_1
      have d_S_2 := (hsame _ _).trans c_S_2
      have d_S_3 := (hsame _ _).trans c_S_3
      have d_S_4 := (hsame _ _).trans c_S_4
      clear c_P_0 l_P c_S_0 c_S_1 c_S_2 c_S_3 c_S_4 l_S hn'
      by_cases hlt : m < L.length
      · obtain ⟨b, off, x, hA0, hb, hx, hd, hx0⟩ := (V0.out.keepV fun b o _ => hsame b o).int_ (show m < s.f0.length by omega)
        obtain ⟨b2, off2, ys, Ai, ci, hA, hb2, -, hd2, hc2, -, hmy, -⟩ := Rows2.at_ (Rows2.keep V1.out (Nat.le_refl _) fun b o _ => hsame b o) hlt
        have Hd := Lib.hid hd
        have Hd2 := Lib.hid hd2
        have hi2 : (m : Int) < (L.length : Int) := by omega
        have hi1 : (m : Int) < (s.f0.length : Int) := by omega
        unfold maxLen at hmy
        rw [hA0] at d_S_0
        rw [hA] at d_P_0
        have Hsame := Lib.hid hsame
        clear hd hx hd2 hA hA0 hsame
        rcases Bool.eq_false_or_eq_true (inB x 0 ys.length) with he | he
        all_goals
          have He := Lib.hid he
          clear he
          go_wp2
          go_quiet ((go_at_call 79; exact Calls.quiet_of_same ((l1In_b _ _ _ _ _ He).mono fun _ _ h => ⟨h.1, h.2.symm⟩)))
          go_wp2
        · go_roundw
          case rel => exact ⟨m + 1, by omega, by go_num, below_drewN hbel _, fun b o => Hsame.out b o, Lib.hid (by
            have := hrest.out
            rw [Hd.out, Hd2.out, atZ, He.out] at this
            simpa using this)⟩
          case measure => simp [intOf]; omega
        · exfalso
          have := hrest.out
          rw [Hd.out, Hd2.out, atZ, He.out] at this
          simp at this
      · skip
        have RS' := Lib.hid ((RS_1).out.keepV fun b o _ => hsame b o)
        have BEL' := Lib.hid (below_on (BEL_1).out hbel)
        clear hsame
        go_wp2_with fail
        refine (all_any k.A1 s.f1 k.c1 _ _ _ _ B RS'.out.r1 l1 true Y2).mono ?_
        rintro e w' ⟨rfl, rfl⟩
        go_wp2_with fail
        refine (all_any k.A2 s.f2 k.c2 _ _ _ _ B RS'.out.r2 l2 true Y3).mono ?_
        rintro e w' ⟨rfl, rfl⟩
        go_wp2_with fail
        refine (all_any k.A3 s.f3 k.c3 _ _ _ _ B RS'.out.r3 l3 false Y4).mono ?_
        rintro e w' ⟨rfl, rfl⟩
        go_wp2
        go_ret
        exact ⟨by rw [hfin.out]; rfl, BEL'.out⟩
  subst e
  obtain ⟨b5, y5⟩ : ∃ b, numB s.f4 2 (-1) 3 = b := ⟨_, rfl⟩
  have Y5 := Lib.hid y5
  clear y5
  have hfin : Hid (r = b5) := Lib.hid (by rw [← hr.out]; unfold stB; simp [Y0.out, Y1.out, Y2.out, Y3.out, Y4.out, Y5.out])
  clear hr
  go_enter Try.func77, Try.ntmps77
  go_wp2_with fail
  rw [← HW.out]
  refine (sprog_any h.A L h.c W B (RP_0).out (by omega) SP.l (Lib.hid SP.e) true Y0).mono ?_
  rintro e u0 ⟨rfl, hb⟩
  have sz_1 := (hb).size
  have P_1 := Lib.hid ((P_0).out.below hb (P_0).out.lt)
  clear P_0
  have S_1 := Lib.hid ((S_0).out.below hb (S_0).out.lt)
  clear S_0
  have RP_1 := Lib.hid ((RP_0).out.below hb (by omega))
  clear RP_0
  have RS_1 := Lib.hid ((RS_0).out.below hb (by omega))
  clear RS_0
  have BEL_1 := Lib.hid (below_on (BEL_0).out hb)
  clear BEL_0
  clear hb
  have c_P_0 : u0.cell? ⟨w.heap.size, 0, none⟩ = some (.slice h.A L.length h.c) := (P_1).out.cell 0
  have l_P : w.heap.size < u0.heap.size := (P_1).out.lt
  have c_S_0 : u0.cell? ⟨w.heap.size + 1, 0, none⟩ = some (.slice k.A0 s.f0.length k.c0) := (S_1).out.cell 0
  have c_S_1 : u0.cell? ⟨w.heap.size + 1, 1, none⟩ = some (.slice k.A1 s.f1.length k.c1) := (S_1).out.cell 1
  have c_S_2 : u0.cell? ⟨w.heap.size + 1, 2, none⟩ = some (.slice k.A2 s.f2.length k.c2) := (S_1).out.cell 2
  have c_S_3 : u0.cell? ⟨w.heap.size + 1, 3, none⟩ = some (.slice k.A3 s.f3.length k.c3) := (S_1).out.cell 3
  have c_S_4 : u0.cell? ⟨w.heap.size + 1, 4, none⟩ = some (.slice k.A4 s.f4.length k.c4) := (S_1).out.cell 4
  have l_S : w.heap.size + 1 < u0.heap.size := (S_1).out.lt
  have hn := atZ_len Y1.out
  have hn' : ((s.f0.length : Int) != (L.length : Int)) = false := by simp [hn]
  have hle : s.f0.length ≤ L.length := by omega
  have hge : L.length ≤ s.f0.length := by omega
  clear hn
  go_wp2_with fail
  have V0 := Lib.hid (RS_1).out.r0
  have V1 := RP_1
  obtain ⟨wo, rfl⟩ : ∃ V, V = u0 := ⟨_, rfl⟩
  go_loopw [6] (fun i wr => ∃ m : Nat, m ≤ L.length ∧ i = .int .i64 m ∧ Below wo.heap.size wo wr ∧ (∀ b o, wr.cell? ⟨b, o, none⟩ = wo.cell? ⟨b, o, none⟩) ∧ Hid (atZ (L.drop m) (s.f0.drop m) = true)) (fun i _ => L.length - (intOf i).toNat)
  case atStart => exact ⟨0, Nat.zero_le _, rfl, Below.refl _ _, fun _ _ => rfl, by simpa using Y1⟩
  case round =>
    obtain ⟨m, hm, rfl, hbel, hsame, hrest⟩ := hrel
    have hsz := hbel.size
    have d_P_0 := (hsame _ _).trans c_P_0
    have d_S_0 := (hsame _ _).trans c_S_0
    have d_S_1 := (hsame _ _).trans c_S_1
    have d_S_2 := (hsame _ _).trans c_S_2
    have d_S_3 := (hsame _ _).trans c_S_3
    have d_S_4 := (hsame _ _).trans c_S_4
    clear c_P_0 l_P c_S_0 c_S_1 c_S_2 c_S_3 c_S_4 l_S hn'
    by_cases hlt : m < L.length
    · obtain ⟨b, off, x, hA0, hb, hx, hd, hx0⟩ := (V0.out.keepV fun b o _ => hsame b o).int_ (show m < s.f0.length by omega)
      obtain ⟨b2, off2, ys, Ai, ci, hA, hb2, -, hd2, hc2, -, hmy, -⟩ := Rows2.at_ (Rows2.keep V1.out (Nat.le_refl _) fun b o _ => hsame b o) hlt
      have Hd := Lib.hid hd
      have Hd2 := Lib.hid hd2
      have hi2 : (m : Int) < (L.length : Int) := by omega
      have hi1 : (m : Int) < (s.f0.length : Int) := by omega
      unfold maxLen at hmy
      rw [hA0] at d_S_0
      rw [hA] at d_P_0
      have Hsame := Lib.hid hsame
      clear hd hx hd2 hA hA0 hsame
      rcases Bool.eq_false_or_eq_true (inB x 0 ys.length) with he | he
      all_goals
        have He := Lib.hid he
        clear he
        go_wp2
        go_quiet ((go_at_call 79; exact Calls.quiet_of_same ((l1In_b _ _ _ _ _ He).mono fun _ _ h => ⟨h.1, h.2.symm⟩)))
        go_wp2
      · go_roundw
        case rel => exact ⟨m + 1, by omega, by go_num, below_drewN hbel _, fun b o => Hsame.out b o, Lib.hid (by
          have := hrest.out
          rw [Hd.out, Hd2.out, atZ, He.out] at this
          simpa using this)⟩
        case measure => simp [intOf]; omega
      · exfalso
        have := hrest.out
        rw [Hd.out, Hd2.out, atZ, He.out] at this
        simp at this
    · skip
      have RS' := Lib.hid ((RS_1).out.keepV fun b o _ => hsame b o)
      have BEL' := Lib.hid (below_on (BEL_1).out hbel)
      clear hsame
      go_wp2_with fail
      refine (all_any k.A1 s.f1 k.c1 _ _ _ _ B RS'.out.r1 l1 true Y2).mono ?_
      rintro e w' ⟨rfl, rfl⟩
      go_wp2_with fail
      refine (all_any k.A2 s.f2 k.c2 _ _ _ _ B RS'.out.r2 l2 true Y3).mono ?_
      rintro e w' ⟨rfl, rfl⟩
      go_wp2_with fail
      refine (all_any k.A3 s.f3 k.c3 _ _ _ _ B RS'.out.r3 l3 true Y4).mono ?_
      rintro e w' ⟨rfl, rfl⟩
      go_wp2_with fail
      refine (all_any k.A4 s.f4 k.c4 _ _ _ _ B RS'.out.r4 l4 b5 Y5).mono ?_
      rintro e w' ⟨rfl, rfl⟩
      go_wp2
      go_ret
      exact ⟨by rw [hfin.out]; rfl, BEL'.out⟩
end Go.Proofs.Ytiljakbjbiinkaa
