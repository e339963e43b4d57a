/-
  The record Spread in memory: the same cells as Buffered; what the laws' helpers on it come to.
-/
import Derived.Test.YtnadihepgmbhaaaVs
import Derived.Test.YtnadihepgmbhaaaRec0
import Derived.Test.YtnadihepgmbhaaaEq
import Derived.Test.YtnadihepgmbhaaaOpenV
import Derived.Laws.MakeOwn
import Derived.Lib.SmallJoins
import Derived.LoopTactic
import Derived.Outline
import Derived.Test.YtnadihepgmbhaaaSt
namespace Go.Proofs.Ytnadihepgmbhaaa
open Go.RowKit Pl
set_option linter.unusedVariables false

/-- A slice's address leads to these rows, below block B. -/
def Vss (w : World) (B : Nat) (A : Option Addr) (V : List (List Value)) : Prop :=
  0 < V.length → ∃ b off, A = some ⟨b, off, none⟩ ∧ b < B ∧ ∀ (i : Nat) (vs : List Value), V[i]? = some vs → ∃ Ai ci, w.cell? ⟨b, off + i, none⟩ = some (.slice Ai vs.length ci) ∧ Vs w B Ai vs
theorem Vss.keep {w w' : World} {B B' : Nat} {A : Option Addr} {V : List (List Value)} (h : Vss w B A V) (hB : B ≤ B') (hk : ∀ b o, b < B → w'.cell? ⟨b, o, none⟩ = w.cell? ⟨b, o, none⟩) : Vss w' B' A V := fun hn => by
  obtain ⟨b, off, hA, hb, hx⟩ := h hn
  refine ⟨b, off, hA, by omega, fun i vs hi => ?_⟩
  obtain ⟨Ai, ci, hc, hr⟩ := hx i vs hi
  exact ⟨Ai, ci, (hk b _ hb).trans hc, hr.keep hB hk⟩
theorem Vss.below {w w' : World} {B B' : Nat} {A : Option Addr} {V : List (List Value)} (h : Vss w B A V) (hb : Below B' w w') (hB : B ≤ B') : Vss w' B A V :=
  h.keep (Nat.le_refl _) fun b o hlt => hb.cell (p := ⟨b, o, none⟩) (by show b < B'; omega)
theorem Vss.up {w w' : World} {B B' B'' : Nat} {A : Option Addr} {V : List (List Value)} (h : Vss w B A V) (hb : Below B' w w') (hB : B ≤ B') (hB2 : B ≤ B'') : Vss w' B'' A V :=
  h.keep hB2 fun b o hlt => hb.cell (p := ⟨b, o, none⟩) (by show b < B'; omega)
theorem Vss.at_ {w : World} {B : Nat} {A : Option Addr} {V : List (List Value)} (h : Vss w B A V) {i : Nat} {vs : List Value} (hi : V[i]? = some vs) :
    ∃ b off Ai ci, A = some ⟨b, off, none⟩ ∧ b < B ∧ w.cell? ⟨b, off + i, none⟩ = some (.slice Ai vs.length ci) ∧ Vs w B Ai vs := by
  have hl := (List.getElem?_eq_some_iff.1 hi).1
  obtain ⟨b, off, hA, hb, hx⟩ := h (by omega)
  obtain ⟨Ai, ci, hc, hr⟩ := hx i vs hi
  exact ⟨b, off, Ai, ci, hA, hb, hc, hr⟩

/-- Rows of the call's own: each in a block that no other one has. -/
def OwnVss (w : World) (lo hi : Nat) (t te : TypeId) (A : Option Addr) (V : List (List Value)) : Prop :=
  0 < V.length → ∃ (g : Nat) (cs : Array Value) (D : Nat → Option Addr) (C : Nat → Nat), A = some ⟨g, 0, none⟩ ∧ lo ≤ g ∧ g < hi ∧ Bk w g t cs ∧
    (∀ (i : Nat) (vs : List Value), V[i]? = some vs → cs[i]? = some (.slice (D i) vs.length (C i)) ∧ OwnVs w lo hi te (D i) vs) ∧
    ∀ i j vs us, i < j → V[i]? = some vs → V[j]? = some us → 0 < vs.length → 0 < us.length → D i ≠ D j
theorem OwnVss.vss {w : World} {lo hi : Nat} {t te : TypeId} {A : Option Addr} {V : List (List Value)} (h : OwnVss w lo hi t te A V) : Vss w hi A V := fun hn => by
  obtain ⟨g, cs, D, C, hA, _, hg, hb, hx, _⟩ := h hn
  exact ⟨g, 0, hA, hg, fun i vs hi => ⟨D i, C i, by rw [Nat.zero_add]; exact (hb.cell i).trans (hx i vs hi).1, (hx i vs hi).2.vs⟩⟩
theorem OwnVss.keep {w w' : World} {lo hi lo' hi' : Nat} {t te : TypeId} {A : Option Addr} {V : List (List Value)} (h : OwnVss w lo hi t te A V) (hl : lo' ≤ lo) (hh : hi ≤ hi') (hk : ∀ i, lo ≤ i → i < hi → w'.heap[i]? = w.heap[i]?) : OwnVss w' lo' hi' t te A V := fun hn => by
  obtain ⟨g, cs, D, C, hA, h0, hg, hb, hx, hd⟩ := h hn
  exact ⟨g, cs, D, C, hA, by omega, by omega, (hk g h0 hg).trans hb, fun i vs hi => ⟨(hx i vs hi).1, (hx i vs hi).2.keep hl hh hk⟩, hd⟩
theorem OwnVss.below {w w' : World} {lo hi B : Nat} {t te : TypeId} {A : Option Addr} {V : List (List Value)} (h : OwnVss w lo hi t te A V) (hb : Below B w w') (hB : hi ≤ B) : OwnVss w' lo hi t te A V :=
  h.keep (Nat.le_refl _) (Nat.le_refl _) fun i _ hi => hb.block i (by omega)
theorem OwnVss.nil (w : World) (lo hi : Nat) (t te : TypeId) (A : Option Addr) : OwnVss w lo hi t te A [] := fun h => absurd h (by simp)

/-- How many values there are in all rows. -/
def tot {α : Type} (L : List (List α)) : Nat := (L.map List.length).sum
theorem tot_cons {α : Type} (x : List α) (r : List (List α)) : tot (x :: r) = x.length + tot r := by simp [tot]
theorem tot_take_succ {α : Type} {L : List (List α)} {k : Nat} {xs : List α} (h : L[k]? = some xs) : tot (L.take (k + 1)) = tot (L.take k) + xs.length := by
  rw [List.take_add_one, h]
  simp [tot]
theorem tot_take_le {α : Type} (L : List (List α)) (k : Nat) : tot (L.take k) ≤ tot L := by
  have : tot L = tot (L.take k) + tot (L.drop k) := by
    simp only [tot, List.map_take, List.map_drop]
    rw [← List.sum_append, List.take_append_drop]
  omega
theorem tot_mem {α : Type} {L : List (List α)} {k : Nat} {xs : List α} (h : L[k]? = some xs) : xs.length ≤ tot L := by
  have := tot_take_succ h
  have := tot_take_le L (k + 1)
  omega
end Go.Proofs.Ytnadihepgmbhaaa
namespace Go.Proofs.Ytnadihepgmbhaaa
open Go.RowKit Pl Go.BigFrame
set_option maxHeartbeats 4000000
set_option maxRecDepth 100000
set_option linter.unusedVariables false

abbrev Iss := List (List Int)
def vsIss (L : Iss) : List (List Value) := L.map ints
@[simp] theorem vsIss_length (L : Iss) : (vsIss L).length = L.length := by simp [vsIss]
theorem vsIss_at {L : Iss} {i : Nat} {xs : List Int} (h : L[i]? = some xs) : (vsIss L)[i]? = some (ints xs) := by simp [vsIss, h]
theorem vsIss_inv {L : Iss} {i : Nat} {vs : List Value} (h : (vsIss L)[i]? = some vs) : ∃ xs, L[i]? = some xs ∧ vs = ints xs := by
  simp only [vsIss, List.getElem?_map, Option.map_eq_some_iff] at h
  obtain ⟨xs, h1, h2⟩ := h
  exact ⟨xs, h1, h2.symm⟩
structure IssH where
  A : Option Addr
  c : Nat
abbrev IssV (h : IssH) (o : Iss) : Value := .slice h.A o.length h.c
structure IssR (w : World) (B : Nat) (h : IssH) (o : Iss) : Prop where
  v : Vss w B h.A (vsIss o)
structure IssL (o : Iss) (m : Nat) : Prop where
  l0 : o.length ≤ m
  l1 : tot o ≤ m
abbrev IssS (o : Iss) : Prop := IssL o 1048576
theorem IssS_L {o : Iss} (s : IssS o) : IssL o maxLen := ⟨Nat.le_trans s.l0 (by unfold maxLen; omega), Nat.le_trans s.l1 (by unfold maxLen; omega)⟩
structure IssO (w : World) (lo hi : Nat) (h : IssH) (o : Iss) : Prop where
  o0 : OwnVss w lo hi 26 3 h.A (vsIss o)
theorem IssR.below {w w' : World} {B B' : Nat} {h : IssH} {o : Iss} (r : IssR w B h o) (hb : Below B' w w') (hB : B ≤ B') : IssR w' B h o := ⟨r.v.below hb hB⟩
theorem IssR.up {w w' : World} {B B' B'' : Nat} {h : IssH} {o : Iss} (r : IssR w B h o) (hb : Below B' w w') (hB : B ≤ B') (hB2 : B ≤ B'') : IssR w' B'' h o := ⟨r.v.up hb hB hB2⟩
theorem IssO.rd {w : World} {lo hi : Nat} {h : IssH} {o : Iss} (r : IssO w lo hi h o) : IssR w hi h o := ⟨r.o0.vss⟩
theorem IssO.below {w w' : World} {lo hi B : Nat} {h : IssH} {o : Iss} (r : IssO w lo hi h o) (hb : Below B w w') (hB : hi ≤ B) : IssO w' lo hi h o := ⟨r.o0.below hb hB⟩
theorem IssO.keep {w w' : World} {lo hi lo' hi' : Nat} {h : IssH} {o : Iss} (r : IssO w lo hi h o) (hl : lo' ≤ lo) (hh : hi ≤ hi') (hk : ∀ i, lo ≤ i → i < hi → w'.heap[i]? = w.heap[i]?) : IssO w' lo' hi' h o := ⟨r.o0.keep hl hh hk⟩

/-- Lengths alone: of the list, and of each row. -/
structure IssM (o : Iss) (m : Nat) : Prop where
  l0 : o.length ≤ m
  l1 : ∀ xs ∈ o, xs.length ≤ m
theorem IssL.m {o : Iss} {m : Nat} (h : IssL o m) : IssM o m := ⟨h.l0, fun xs hx => by obtain ⟨i, hi⟩ := List.getElem?_of_mem hx; exact Nat.le_trans (tot_mem hi) h.l1⟩
theorem eqIss_m (k1 k2 : IssH) (L1 L2 : Iss) (w : World) (B : Nat) (r1 : IssR w B k1 L1) (r2 : IssR w B k2 L2) (hB : B ≤ w.heap.size) (S1 : IssM L1 maxLen) (S2 : IssM L2 maxLen) (r : Bool) (hr : Hid (decide (L1 = L2) = r)) :
    Calls Try.prog 58 #[IssV k1 L1, IssV k2 L2] w fun e w' => e = .returned (.bool r) ∧ Below w.heap.size w w' := by
  obtain ⟨A1, c1⟩ := k1
  obtain ⟨A2, c2⟩ := k2
  obtain ⟨hm1, ht1⟩ := S1
  obtain ⟨hm2, ht2⟩ := S2
  obtain ⟨h1⟩ := r1
  obtain ⟨h2⟩ := r2
  unfold maxLen at hm1 hm2 ht1 ht2
  have h1 : Vss w B A1 (vsIss L1) := h1
  have h2 : Vss w B A2 (vsIss L2) := h2
  show Calls Try.prog 58 #[.slice A1 L1.length c1, .slice A2 L2.length c2] w _
  by_cases hne : L1.length = L2.length
  · have heq : ((L1.length : Int) != (L2.length : Int)) = false := by simp [hne]
    have hle : L1.length ≤ L2.length := by omega
    have hge : L2.length ≤ L1.length := by omega
    clear hne
    go_enter Try.func58, Try.ntmps58
    go_wp2
    go_loopw [5] (fun i wr => ∃ k : Nat, k ≤ L1.length ∧ i = .int .i64 k ∧ Below w.heap.size w wr ∧ Hid (decide (L1.drop k = L2.drop k) = r)) (fun i _ => L1.length - (intOf i).toNat)
    case atStart => exact ⟨0, Nat.zero_le _, rfl, Below.refl _ _, by simpa using hr⟩
    case round =>
      obtain ⟨k, hk, rfl, hbel, hrest⟩ := hrel
      clear hr heq
      by_cases hlt : k < L1.length
      · obtain ⟨xs, hxs, hd1⟩ := drop_at hlt
        obtain ⟨ys, hys, hd2⟩ := drop_at (show k < L2.length by omega)
        obtain ⟨b1, off1, Ai, ci, rfl, hb1, hx0, hrx⟩ := (h1.below hbel hB).at_ (vsIss_at hxs)
        obtain ⟨b2, off2, Aj, cj, rfl, hb2, hy0, hry⟩ := (h2.below hbel hB).at_ (vsIss_at hys)
        rw [ints_length] at hx0 hy0
        have hlx : xs.length ≤ 9223372036854775807 := ht1 xs (List.mem_of_getElem? hxs)
        have hly : ys.length ≤ 9223372036854775807 := ht2 ys (List.mem_of_getElem? hys)
        have hz := hbel.size
        have hi1 : (k : Int) < (L1.length : Int) := by omega
        have hi2 : (k : Int) < (L2.length : Int) := by omega
        have Hd1 := Lib.hid hd1
        have Hd2 := Lib.hid hd2
        have Gx := Lib.hid (fun x : Ws (Fr wr []) => hrx.below x.ok.below (by omega))
        have Gy := Lib.hid (fun x : Ws (Fr wr []) => hry.below x.ok.below (by omega))
        have hS := fr_none wr
        have gx0 := Ws.same (bs := []) (by omega) hx0
        have gy0 := Ws.same (bs := []) (by omega) hy0
        haveI hne := Nonempty.intro (Ws.mk _ hS)
        have HS := Lib.hid hS
        clear hS hd1 hd2 hx0 hy0 h1 h2 hrx hry hxs hys
        rcases Bool.eq_false_or_eq_true (decide (xs = ys)) with he | he
        all_goals
          have He := Lib.hid he
          clear he
          go_wp2_with fail
          refine region_in (by kernel_rfl) HS.out.drew ?_
          repeat (go_big_quiet_step ((go_at_call 33; exact call_in (eqInt_any Ai Aj xs ys ci cj _ B (Gx.out _) (Gy.out _) (by unfold maxLen; omega) (by unfold maxLen; omega) _ He))))
          refine wpQuiet_nil ?_
          rintro w2 ⟨⟨_, hw2⟩, rfl⟩
          have hB2 : Below w.heap.size w w2 := below_on hbel hw2.below
          clear gx0 gy0
          go_wp2
        · go_roundw
          case rel => exact ⟨k + 1, by omega, by go_num, hB2, by
            have hxy : xs = ys := of_decide_eq_true He.out
            have := hrest.out
            rw [Hd1.out, Hd2.out, hxy] at this
            exact Lib.hid (by rw [← this]; simp)⟩
          case measure => simp [intOf]; omega
        · go_ret
          refine ⟨?_, hB2⟩
          have hxy : xs ≠ ys := of_decide_eq_false He.out
          have := hrest.out
          rw [Hd1.out, Hd2.out] at this
          rw [← this]
          simp [hxy]
      · have hlast : Hid (r = true) := Lib.hid (by
          have := hrest.out
          rw [List.drop_eq_nil_of_le (by omega), List.drop_eq_nil_of_le (by omega)] at this
          rw [← this]; rfl)
        go_wp2
        go_ret
        exact ⟨by rw [hlast.out]; rfl, hbel⟩
  · have hlast : Hid (r = false) := Lib.hid (by rw [← hr.out]; exact decide_eq_false (fun e => hne (by rw [e])))
    have heq : ((L1.length : Int) != (L2.length : Int)) = true := by simp; omega
    clear hr
    go_enter Try.func58, Try.ntmps58
    go_wp2
    go_ret
    exact ⟨by rw [hlast.out]; rfl, Below.refl _ _⟩

/-! ### marks -/
/-- The rows behind marks. -/
def upIss : Int → Iss → Iss
  | _, [] => []
  | K, x :: r => upI K x.length :: upIss (K + (x.length : Int)) r
theorem upIss_length : ∀ (L : Iss) (K : Int), (upIss K L).length = L.length := by
  intro L
  induction L with
  | nil => intro K; rfl
  | cons x r ih => intro K; simp [upIss, ih]
theorem upIss_at : ∀ {L : Iss} {K : Int} {i : Nat} {xs : List Int}, L[i]? = some xs → (upIss K L)[i]? = some (upI (K + (tot (L.take i) : Int)) xs.length) := by
  intro L
  induction L with
  | nil => intro K i xs h; simp at h
  | cons y r ih =>
    intro K i xs h
    cases i with
    | zero => simp at h; subst h; simp [upIss, tot]
    | succ i =>
      simp at h
      rw [upIss, List.getElem?_cons_succ, ih h, List.take_succ_cons, tot_cons]
      congr 2
      rw [Int.natCast_add]; omega
theorem upIss_inv {L : Iss} {K : Int} {i : Nat} {xs : List Int} (h : (upIss K L)[i]? = some xs) : ∃ ys, L[i]? = some ys ∧ xs = upI (K + (tot (L.take i) : Int)) ys.length := by
  have hl := (List.getElem?_eq_some_iff.1 h).1
  rw [upIss_length] at hl
  refine ⟨L[i], List.getElem?_eq_getElem hl, ?_⟩
  rw [upIss_at (List.getElem?_eq_getElem hl)] at h
  injection h with h
  exact h.symm
def allIss (L : Iss) : Int := (tot L : Int)
def MkIss (w wr : World) (lo hi g : Nat) (cs : Array Value) (D : Nat → Option Addr) (L : Iss) (K : Int) (k : Nat) : Prop :=
  Only lo hi w wr ∧ Bk wr g 26 cs ∧ ∀ (i : Nat) (xs : List Int), L[i]? = some xs → OwnVs wr lo hi 3 (D i) (ints (if i < k then upI (K + (tot (L.take i) : Int)) xs.length else xs))
theorem MkIss.next {w wr w1 : World} {lo hi g : Nat} {cs : Array Value} {D : Nat → Option Addr} {L : Iss} {K : Int} {k gk : Nat} {xs : List Int} (h : MkIss w wr lo hi g cs D L K k)
    (hd : ∀ i j xs ys, i < j → L[i]? = some xs → L[j]? = some ys → 0 < xs.length → 0 < ys.length → D i ≠ D j) (hx : L[k]? = some xs) (h0 : 0 < xs.length) (hDk : D k = some ⟨gk, 0, none⟩) (hlo : lo ≤ gk) (hhi : gk < hi) (hb : ∃ c0, Bk wr gk 3 c0)
    (hm : MarkV wr w1 gk 3 (ints (upI (K + (tot (L.take k) : Int)) xs.length)) (ints (upI (K + (tot (L.take k) : Int)) xs.length)).length) : MkIss w w1 lo hi g cs D L K (k + 1) := by
  obtain ⟨o, b, r⟩ := h
  obtain ⟨c0, hb⟩ := hb
  have hne : g ≠ gk := by
    intro e; subst e
    unfold Bk at b hb; rw [b] at hb
    injection hb with hb; injection hb with _ hb; cases hb
  have hkeep : ∀ q, q ≠ gk → q < wr.heap.size → w1.heap[q]? = wr.heap[q]? := fun q hq hql => hm.1.block q hql (by omega)
  refine ⟨o.trans (hm.1.mono hlo (by omega)), (hkeep g hne b.lt).trans b, fun i ys hi => ?_⟩
  by_cases e : i = k
  · subst e
    obtain rfl : xs = ys := by rw [hx] at hi; injection hi
    rw [if_pos (by omega), hDk]
    exact hm.done.keep hlo (by omega) fun _ _ _ => rfl
  · have hr := r i ys hi
    have e2 : (if i < k + 1 then upI (K + (tot (L.take i) : Int)) ys.length else ys) = if i < k then upI (K + (tot (L.take i) : Int)) ys.length else ys := by
      by_cases h1 : i < k
      · rw [if_pos h1, if_pos (by omega)]
      · rw [if_neg h1, if_neg (by omega)]
    rw [e2]
    intro hn
    obtain ⟨q, cq, hA, h1, h2, h3, h4⟩ := hr hn
    have hyl : 0 < ys.length := by
      rw [ints_length] at hn
      by_cases h5 : i < k
      · rw [if_pos h5, upI_length] at hn; exact hn
      · rw [if_neg h5] at hn; exact hn
    refine ⟨q, cq, hA, h1, h2, (hkeep q (fun e3 => ?_) h3.lt).trans h3, h4⟩
    subst e3
    rcases Nat.lt_or_ge i k with h6 | h6
    · exact hd i k ys xs h6 hi hx hyl h0 (by rw [hA, hDk])
    · exact hd k i xs ys (by omega) hx hi h0 hyl (by rw [hA, hDk])
theorem MkIss.skip {w wr : World} {lo hi g : Nat} {cs : Array Value} {D : Nat → Option Addr} {L : Iss} {K : Int} {k : Nat} {xs : List Int} (h : MkIss w wr lo hi g cs D L K k) (hx : L[k]? = some xs) (h0 : xs.length = 0) : MkIss w wr lo hi g cs D L K (k + 1) := by
  obtain ⟨o, b, r⟩ := h
  refine ⟨o, b, fun i ys hi => ?_⟩
  by_cases e : i = k
  · subst e
    obtain rfl : xs = ys := by rw [hx] at hi; injection hi
    intro hn
    rw [if_pos (by omega), ints_length, upI_length] at hn
    omega
  · have e2 : (if i < k + 1 then upI (K + (tot (L.take i) : Int)) ys.length else ys) = if i < k then upI (K + (tot (L.take i) : Int)) ys.length else ys := by
      by_cases h1 : i < k
      · rw [if_pos h1, if_pos (by omega)]
      · rw [if_neg h1, if_neg (by omega)]
    rw [e2]; exact r i ys hi
theorem markIss_any (h : IssH) (L : Iss) (K : Int) (w : World) (lo hi : Nat) (hO : IssO w lo hi h L) (hhi : hi ≤ w.heap.size) (hL : IssL L 1048576) (hK : 0 ≤ K) (hK2 : K ≤ 100000000) :
    Calls Try.prog 62 #[IssV h L, .int .i64 K] w fun e w' => e = .returned (.int .i64 (K + allIss L)) ∧ Only lo hi w w' ∧ IssO w' lo hi h (upIss K L) := by
  obtain ⟨hl, ht⟩ := hL
  obtain ⟨A, c⟩ := h
  unfold allIss
  by_cases hn : 0 < L.length
  · obtain ⟨g, cs, D, C, hA, hg1, hg2, hbk, hx, hd⟩ := hO.o0 (by rw [vsIss_length]; exact hn)
    obtain rfl : A = some ⟨g, 0, none⟩ := hA
    have start : Hid (MkIss w w lo hi g cs D L K 0) := Lib.hid ⟨Only.refl _ _ _, hbk, fun i xs hi => by rw [if_neg (by omega)]; exact (hx i _ (vsIss_at hi)).2⟩
    have Hx := Lib.hid (fun i xs hi => (hx i _ (vsIss_at (i := i) (xs := xs) hi)).1)
    have Hd := Lib.hid (fun i j (xs ys : List Int) hij hi hj (h1 : 0 < xs.length) (h2 : 0 < ys.length) => hd i j _ _ hij (vsIss_at hi) (vsIss_at hj) (by rw [ints_length]; exact h1) (by rw [ints_length]; exact h2))
    have Hg1 := Lib.hid hg1
    have Hg2 := Lib.hid hg2
    clear hbk hO hx hd hg1 hg2
    show Calls Try.prog 62 #[.slice (some ⟨g, 0, none⟩) L.length c, .int .i64 K] w _
    go_enter Try.func62, Try.ntmps62
    go_wp2
    go_loopw [1, 5] (fun q i wr => ∃ k : Nat, k ≤ L.length ∧ i = .int .i64 k ∧ q = .int .i64 (K + (tot (L.take k) : Int)) ∧ MkIss w wr lo hi g cs D L K k) (fun _ i _ => L.length - (intOf i).toNat)
    case atStart => exact ⟨0, Nat.zero_le _, rfl, by simp [tot], start.out⟩
    case round =>
      obtain ⟨k, hk, rfl, rfl, hmk⟩ := hrel
      clear start
      have htk := tot_take_le L k
      by_cases hlt : k < L.length
      · have hxk : L[k]? = some L[k] := List.getElem?_eq_getElem hlt
        obtain ⟨xs, hxs⟩ : ∃ xs, L[k]? = some xs := ⟨_, hxk⟩
        have h1 := Hx.out k xs hxs
        rw [ints_length] at h1
        have hcell := (hmk.2.1.cell k).trans h1
        have htot := tot_take_succ hxs
        have hxl : xs.length ≤ 1048576 := by have := tot_take_le L (k + 1); omega
        have Hxs := Lib.hid hxs
        have Htot := Lib.hid htot
        have Hmk := Lib.hid hmk
        clear hxk h1 hxs htot hmk
        by_cases h0 : xs.length = 0
        · rw [h0] at hcell
          go_wp2_with (go_at_call 34; refine (markInt_none _ _ _ _ (by omega) (by omega)).mono ?_; rintro e w' ⟨rfl, rfl⟩)
          go_roundw
          case rel => exact ⟨k + 1, by omega, by go_num, by rw [Htot.out, h0]; go_num, Hmk.out.skip Hxs.out h0⟩
          case measure => simp [intOf]; omega
        · have hrow := Hmk.out.2.2 k xs Hxs.out
          rw [if_neg (by omega)] at hrow
          obtain ⟨gk, c0, hDk, hlo, hhi', hbk, hcs⟩ := hrow (by rw [ints_length]; omega)
          have hsz : xs.length ≤ c0.size := by
            obtain ⟨v, hv⟩ : ∃ v, (ints xs)[xs.length - 1]? = some v := ⟨_, List.getElem?_eq_getElem (by rw [ints_length]; omega)⟩
            have := (Array.getElem?_eq_some_iff.1 (hcs _ v hv)).1
            omega
          rw [hDk] at hcell
          have HDk := Lib.hid hDk
          have Hbk := Lib.hid hbk
          have Hlo := Lib.hid hlo
          have Hhi := Lib.hid hhi'
          have h00 : 0 < xs.length := by omega
          clear hDk hbk hcs hlo hhi' h0
          go_wp2_with (go_at_call 34; refine (markInt_any xs.length gk _ c0 _ _ Hbk.out hsz hxl (by omega) (by omega)).mono ?_; rintro e w1 ⟨rfl, hm1⟩; have Next := Lib.hid (Hmk.out.next Hd.out Hxs.out h00 HDk.out Hlo.out Hhi.out ⟨_, Hbk.out⟩ hm1); clear hm1)
          go_roundw
          case rel => exact ⟨k + 1, by omega, by go_num, by rw [Htot.out]; go_num, Next.out⟩
          case measure => simp [intOf]; omega
      · have hkl : k = L.length := by omega
        subst hkl
        have Hmk := Lib.hid hmk
        rw [List.take_length] at *
        clear hmk
        go_wp2
        go_ret
        refine ⟨rfl, Hmk.out.1, ⟨fun _ => ?_⟩⟩
        refine ⟨g, cs, D, C, rfl, Hg1.out, Hg2.out, Hmk.out.2.1, fun i vs hi => ?_, fun i j vs us hij hi hj h5 h6 => ?_⟩
        · obtain ⟨ys, hy, rfl⟩ := vsIss_inv hi
          obtain ⟨xs, hL, rfl⟩ := upIss_inv hy
          have hil := (List.getElem?_eq_some_iff.1 hL).1
          have a1 := Hx.out i xs hL
          have a2 := Hmk.out.2.2 i xs hL
          rw [if_pos hil] at a2
          rw [ints_length] at a1
          rw [ints_length, upI_length]
          exact ⟨a1, a2⟩
        · obtain ⟨ys, hy, rfl⟩ := vsIss_inv hi
          obtain ⟨xs, hL, rfl⟩ := upIss_inv hy
          obtain ⟨ys', hy', rfl⟩ := vsIss_inv hj
          obtain ⟨xs', hL', rfl⟩ := upIss_inv hy'
          rw [ints_length, upI_length] at h5 h6
          exact Hd.out i j _ _ hij hL hL' h5 h6
  · have hL : L = [] := List.eq_nil_of_length_eq_zero (by omega)
    subst hL
    show Calls Try.prog 62 #[.slice A 0 c, .int .i64 K] w _
    go_enter Try.func62, Try.ntmps62
    go_wp2
    refine wp_loop_rounds 1 ?_
    rw [rounds_succ]
    go_wp2
    go_ret
    exact ⟨by simp [tot], Only.refl _ _ _, ⟨OwnVss.nil _ _ _ _ _ _⟩⟩
theorem heldIss_any (h : IssH) (L : Iss) (K : Int) (w : World) (B : Nat) (hR : IssR w B h (upIss K L)) (hB : B ≤ w.heap.size) (hL : IssL L 1048576) (hK : 0 ≤ K) (hK2 : K ≤ 100000000) :
    Calls Try.prog 64 #[IssV h L, .int .i64 K] w fun e w' => e = .returned (.int .i64 (K + allIss L)) ∧ Below w.heap.size w w' := by
  obtain ⟨hl, ht⟩ := hL
  obtain ⟨hr⟩ := hR
  obtain ⟨A, c⟩ := h
  have hr : Vss w B A (vsIss (upIss K L)) := hr
  unfold allIss
  show Calls Try.prog 64 #[.slice A L.length c, .int .i64 K] w _
  go_enter Try.func64, Try.ntmps64
  go_wp2
  go_loop [1, 5] (fun q i => ∃ k : Nat, k ≤ L.length ∧ i = .int .i64 k ∧ q = .int .i64 (K + (tot (L.take k) : Int))) (fun _ i => L.length - (intOf i).toNat)
  case atStart => exact ⟨0, Nat.zero_le _, rfl, by simp [tot]⟩
  case round =>
    obtain ⟨k, hk, rfl, rfl⟩ := hrel
    have htk := tot_take_le L k
    by_cases hlt : k < L.length
    · have hLk : L[k]? = some L[k] := List.getElem?_eq_getElem hlt
      obtain ⟨xs, hxs⟩ : ∃ xs, L[k]? = some xs := ⟨_, hLk⟩
      obtain ⟨b, off, Ai, ci, rfl, hb, hx0, hrow⟩ := hr.at_ (vsIss_at (upIss_at hxs))
      rw [ints_length, upI_length] at hx0
      have htot := tot_take_succ hxs
      have hxl : xs.length ≤ 1048576 := by have := tot_take_le L (k + 1); omega
      have Htot := Lib.hid htot
      clear hLk hxs htot hr
      go_wp2_with (go_at_call 107; refine (heldInt_any Ai xs.length ci _ _ _ hrow hxl (by omega) (by omega)).mono ?_; rintro e w' ⟨rfl, rfl⟩)
      go_round
      case rel => exact ⟨k + 1, by omega, by go_num, by rw [Htot.out]; go_num⟩
      case measure => simp [intOf]; omega
    · have hkl : k = L.length := by omega
      subst hkl
      have e : L.take L.length = L := List.take_length
      rw [e]
      clear hr hlt htk e
      go_wp2
      go_ret
      exact ⟨rfl, Below.refl _ _⟩
end Go.Proofs.Ytnadihepgmbhaaa
namespace Go.Proofs.Ytnadihepgmbhaaa
open Go.ChangeShapes Go.WideShapes Go.ChangeAt Go.RowKit Go.Deep Pl
set_option maxHeartbeats 400000
set_option maxRecDepth 100000
set_option linter.unusedVariables false

/-! ### sizes -/
def szIn : Int → Iss → Int
  | left, [] => left
  | left, x :: r => if sz1 left x.length < 0 then -1 else szIn (sz1 left x.length) r
def szIss (left : Int) (L : Iss) : Int := if left - L.length < 0 then -1 else szIn (left - L.length) L
theorem szIn_stop {left : Int} {L : Iss} {x : List Int} {r : Iss} (h : L = x :: r) (hs : sz1 left x.length < 0) : szIn left L = -1 := by rw [h, szIn, if_pos hs]
theorem szIn_on {left : Int} {L : Iss} {x : List Int} {r : Iss} (h : L = x :: r) (hs : ¬ sz1 left x.length < 0) : szIn left L = szIn (sz1 left x.length) r := by rw [h, szIn, if_neg hs]
theorem szIn_tot (L : Iss) : ∀ left : Int, 0 ≤ szIn left L → 0 ≤ left → (tot L : Int) ≤ left := by
  induction L with
  | nil => intro left _ h; simpa [tot] using h
  | cons x r ih =>
    intro left h hl
    unfold szIn at h
    by_cases h1 : sz1 left x.length < 0
    · rw [if_pos h1] at h; omega
    · rw [if_neg h1] at h
      have := ih _ h (by omega)
      unfold sz1 at this h1
      split at this
      · simp at h1; omega
      · simp only [tot, List.map_cons, List.sum_cons] at this ⊢; omega
theorem szIn_ge (L : Iss) : ∀ left : Int, 0 ≤ left → -1 ≤ szIn left L ∧ szIn left L ≤ left := by
  induction L with
  | nil => intro left h; simp [szIn]; omega
  | cons x r ih =>
    intro left h
    unfold szIn
    split
    · omega
    · have := ih (sz1 left x.length) (by omega)
      have : sz1 left x.length ≤ left := by unfold sz1; split <;> omega
      omega
theorem szIss_ge (left : Int) (L : Iss) (h : 0 ≤ left) : -1 ≤ szIss left L ∧ szIss left L ≤ left := by
  unfold szIss
  split
  · omega
  · have := szIn_ge L (left - L.length) (by omega); omega
theorem szIss_tot {L : Iss} {left : Int} (h : 0 ≤ szIss left L) : (tot L : Int) + L.length ≤ left := by
  unfold szIss at h
  split at h
  · omega
  · have := szIn_tot L _ h (by omega); omega

theorem szIss_any (k : IssH) (L : Iss) (left : Int) (w : World) (B : Nat) (hR : IssR w B k L) (hL : IssM L maxLen) (h0 : 0 ≤ left) (h1 : left ≤ 1048576) (r : Int) (hr : Hid (szIss left L = r)) :
    Calls Try.prog 66 #[IssV k L, .int .i64 left] w fun e w' => e = .returned (.int .i64 r) ∧ w = w' := by
  obtain ⟨A, c⟩ := k
  obtain ⟨hn, ht⟩ := hL
  obtain ⟨hv⟩ := hR
  unfold maxLen at hn ht
  have hv : Vss w B A (vsIss L) := hv
  show Calls Try.prog 66 #[.slice A L.length c, .int .i64 left] w _
  by_cases h : left - L.length < 0
  · have hfin : Hid (r = -1) := Lib.hid (by rw [← hr.out, szIss, if_pos h])
    clear hr
    go_enter Try.func66, Try.ntmps66
    go_wp2
    go_ret
    exact ⟨by rw [hfin.out]; rfl, rfl⟩
  · have hfin : Hid (szIn (left - L.length) L = r) := Lib.hid (by rw [← hr.out, szIss, if_neg h])
    clear hr
    go_enter Try.func66, Try.ntmps66
    go_wp2
    go_loop [1, 5] (fun l i => ∃ (k : Nat) (lf : Int), k ≤ L.length ∧ i = .int .i64 k ∧ l = .int .i64 lf ∧ 0 ≤ lf ∧ lf ≤ 1048576 ∧ Hid (szIn lf (L.drop k) = r)) (fun _ i => L.length - (intOf i).toNat)
    case atStart => exact ⟨0, _, Nat.zero_le _, rfl, rfl, by omega, by omega, by simpa using hfin⟩
    case round =>
      obtain ⟨k, lf, hk, rfl, rfl, hl0, hl1, hrest⟩ := hrel
      clear hfin
      by_cases hlt : k < L.length
      · obtain ⟨xs, hxs, hd⟩ := drop_at hlt
        obtain ⟨b, off, Ai, ci, rfl, hb, hx, hrow⟩ := hv.at_ (vsIss_at hxs)
        rw [ints_length] at hx
        have hm : xs.length ≤ 9223372036854775807 := ht xs (List.mem_of_getElem? hxs)
        have Hd := Lib.hid hd
        clear hd hxs hv hrow
        by_cases h2 : sz1 lf xs.length < 0
        · have hlast : Hid (r = -1) := Lib.hid (by rw [← hrest.out]; exact szIn_stop Hd.out h2)
          go_wp2_with (go_at_call 108; refine (szInt_any _ _ _ _ _ (by unfold maxLen; omega) hl0 hl1).mono ?_; rintro e w' ⟨rfl, rfl⟩)
          go_ret
          exact ⟨by rw [hlast.out]; rfl, rfl⟩
        · have hnext : Hid (szIn (sz1 lf xs.length) (L.drop (k + 1)) = r) := Lib.hid (by rw [← hrest.out]; exact (szIn_on Hd.out h2).symm)
          have hup : sz1 lf xs.length ≤ 1048576 := by unfold sz1; split <;> omega
          go_wp2_with (go_at_call 108; refine (szInt_any _ _ _ _ _ (by unfold maxLen; omega) hl0 hl1).mono ?_; rintro e w' ⟨rfl, rfl⟩)
          go_round
          case rel => exact ⟨k + 1, _, by omega, by go_num, rfl, by omega, hup, hnext⟩
          case measure => simp [intOf]; omega
      · have hlast : Hid (r = lf) := Lib.hid (by rw [← hrest.out, List.drop_eq_nil_of_le (by omega)]; rfl)
        go_wp2
        go_ret
        exact ⟨by rw [hlast.out]; rfl, rfl⟩

/-! ### copies -/
/-- What a copy of rows has come to behind k rounds. -/
def CopyII (w wr : World) (L : Iss) (k : Nat) : Prop :=
  Below w.heap.size w wr ∧ ∃ (cs : Array Value) (D : Nat → Nat), Bk wr w.heap.size 26 cs ∧ cs.size = L.length ∧
    (∀ (i : Nat) (xs : List Int), i < k → L[i]? = some xs → cs[i]? = some (.slice (some ⟨D i, 0, none⟩) xs.length xs.length) ∧ D i < wr.heap.size ∧ OwnVs wr (w.heap.size + 1) wr.heap.size 3 (some ⟨D i, 0, none⟩) (ints xs)) ∧
    ∀ i j, i < j → j < k → D i < D j
theorem CopyII.next {w wr w1 : World} {L : Iss} {k : Nat} {xs : List Int} (h : CopyII w wr L k) (hc : CopyV wr w1 3 (ints xs) (ints xs).length) (hx : L[k]? = some xs) :
    CopyII w (w1.setCell ⟨w.heap.size, k, none⟩ (.slice (some ⟨wr.heap.size, 0, none⟩) xs.length xs.length)) L (k + 1) := by
  obtain ⟨h0, cs, D, hbk, hsz, hc0, hd⟩ := h
  have hk : k < L.length := (List.getElem?_eq_some_iff.1 hx).1
  have hlt := hbk.lt
  have hb1 := hc.1
  have hz := hb1.size
  have hdone := hc.done
  have hnew : wr.heap.size < w1.heap.size := hc.lt
  have hset : ∀ i, i ≠ w.heap.size → (w1.setCell ⟨w.heap.size, k, none⟩ (.slice (some ⟨wr.heap.size, 0, none⟩) xs.length xs.length)).heap[i]? = w1.heap[i]? := fun i hi => Below.heap_setCell w1 ⟨w.heap.size, k, none⟩ _ i hi
  have hs2 : (w1.setCell ⟨w.heap.size, k, none⟩ (.slice (some ⟨wr.heap.size, 0, none⟩) xs.length xs.length)).heap.size = w1.heap.size := World.size_setCell ..
  refine ⟨(below_on h0 hb1).setCell (Nat.le_refl _) _, _, fun i => if i = k then wr.heap.size else D i, (hbk.below hb1 hlt).set _ _, by simpa using hsz, ?_, ?_⟩
  · intro i ys hi hy
    by_cases e : i = k
    · subst e
      obtain rfl : xs = ys := by rw [hx] at hy; injection hy
      refine ⟨by simp [hsz, hk], by simp [hs2, hnew], ?_⟩
      simp only [if_true]
      exact hdone.keep (by omega) (by omega) fun j hj _ => hset j (by omega)
    · obtain ⟨g0, g1, g2⟩ := hc0 i ys (by omega) hy
      refine ⟨?_, ?_, ?_⟩
      · simp only [if_neg e]; rw [Array.getElem?_setIfInBounds_ne (by omega)]; exact g0
      · simp only [if_neg e]; omega
      · simp only [if_neg e]
        exact g2.keep (by omega) (by omega) fun j hj hj2 => (hset j (by omega)).trans (hb1.block j hj2)
  · intro i j hij hj
    have hDi : D i < wr.heap.size := by
      have : i < L.length := by omega
      exact (hc0 i _ (by omega) (List.getElem?_eq_getElem this)).2.1
    by_cases e : j = k
    · have e' : i ≠ k := by omega
      simp only [if_pos e, if_neg e']
      exact hDi
    · have e' : i ≠ k := by omega
      simp only [if_neg e, if_neg e']
      exact hd i j hij (by omega)
theorem CopyII.done {w wr : World} {L : Iss} (h : CopyII w wr L L.length) : OwnVss wr w.heap.size wr.heap.size 26 3 (some ⟨w.heap.size, 0, none⟩) (vsIss L) := fun _ => by
  obtain ⟨_, cs, D, hbk, _, hc, hd⟩ := h
  refine ⟨_, cs, fun i => some ⟨D i, 0, none⟩, fun i => (L.getD i []).length, rfl, Nat.le_refl _, hbk.lt, hbk, ?_, ?_⟩
  · intro i vs hi
    obtain ⟨xs, hx, rfl⟩ := vsIss_inv hi
    have hlt := (List.getElem?_eq_some_iff.1 hx).1
    obtain ⟨g0, _, g2⟩ := hc i xs hlt hx
    have e : L.getD i [] = xs := by simp [List.getD, hx]
    simp only [e, ints_length]
    exact ⟨g0, g2.keep (by omega) (Nat.le_refl _) fun _ _ _ => rfl⟩
  · intro i j vs us hij hi hj _ _ e
    have := hd i j hij (by obtain ⟨ys, hy, _⟩ := vsIss_inv hj; exact (List.getElem?_eq_some_iff.1 hy).1)
    injection e with e
    injection e with e
    omega

theorem info_il : (Try.prog.info? 26).map (fun i => (i.zero, i.size, i.bytes)) = some (some (.slice none 0 0), 1, 24) := by kernel_rfl
/-- What a copy comes to. -/
def ToIss (w : World) (L : Iss) (e : Ending) (w' : World) : Prop := ∃ h, e = .returned (IssV h L) ∧ Below w.heap.size w w' ∧ w.heap.size < w'.heap.size ∧ IssO w' w.heap.size w'.heap.size h L
theorem toIss_any (k : IssH) (L : Iss) (w : World) (B : Nat) (hR : IssR w B k L) (hB : B ≤ w.heap.size) (hL : IssL L 1048576) :
    Calls Try.prog 70 #[IssV k L] w (ToIss w L) := by
  obtain ⟨A, c⟩ := k
  obtain ⟨hm, hm2⟩ := hL
  obtain ⟨h⟩ := hR
  have h : Vss w B A (vsIss L) := h
  show Calls Try.prog 70 #[.slice A L.length c] w _
  obtain ⟨i0, hi, hz0, hz1, hz2⟩ := info_parts info_il
  have hmk := make_any Try.underlying29 hi hz0 L.length (by rw [hz2]; omega) (by omega)
  rw [hz1, Nat.mul_one] at hmk
  have start := Lib.hid (show CopyII w (w.alloc (.cells (madeCells #[.slice none 0 0] L.length) 26)) L 0 from
    ⟨(Below.refl _ _).alloc (Nat.le_refl _) _, _, fun _ => 0, Bk.new _ _ _, by simp [size_madeCells], fun j x hj => absurd hj (by omega), fun i j _ hj => absurd hj (by omega)⟩)
  clear hz0 hz1 hz2 hi
  go_enter Try.func70, Try.ntmps70
  go_wp2
  go_loopw [4] (fun i wr => ∃ k : Nat, k ≤ L.length ∧ i = .int .i64 k ∧ CopyII w wr L k) (fun i _ => L.length - (intOf i).toNat)
  case atStart => exact ⟨0, Nat.zero_le _, rfl, start.out⟩
  case round =>
    obtain ⟨k, hk, rfl, hcp⟩ := hrel
    clear start hmk
    by_cases hlt : k < L.length
    · obtain ⟨hbel, cs, D, hbk, hsz, -, -⟩ := id hcp
      obtain ⟨xs, hxs, -⟩ := drop_at hlt
      obtain ⟨b, off, Ai, ci, rfl, hb, hx0, hr⟩ := (h.below hbel hB).at_ (vsIss_at hxs)
      rw [ints_length] at hx0
      have Hx := Lib.hid hxs
      have hg := hbk.lt
      have hz := hbel.size
      have hbw : b < wr.heap.size := by omega
      obtain ⟨v0, e0⟩ := hbk.some_ (i := k) (by omega)
      have q0 := hbk.free k
      have hl : xs.length ≤ 1048576 := by have := tot_mem hxs; omega
      clear hbk hsz h hxs hbel
      have Hcp := Lib.hid hcp
      clear hcp
      go_wp2_with (go_at_call 31; refine (toInt_any _ _ _ _ B hr (by omega) hl).mono ?_; rintro e w1 ⟨rfl, hb1⟩; obtain ⟨hc1, hf1⟩ := bcell hb1.1; have hz1 := Nat.lt_of_lt_of_le hg hb1.1.size)
      go_roundw
      case rel => exact ⟨k + 1, by omega, by go_num, Hcp.out.next hb1 Hx.out⟩
      case measure => simp [intOf]; omega
    · have : k = L.length := by omega
      subst this
      go_wp2
      go_ret
      exact ⟨⟨_, _⟩, rfl, hcp.1, (by obtain ⟨_, cs, D, hbk, _⟩ := hcp; exact hbk.lt), ⟨hcp.done⟩⟩

/-! ### as they came in -/
section
variable {H : Type} {enc : TypeId × Value → H} {w : World} {base : Nat} {spare : Nat → Bool} {held : Bool}
theorem iss_of {fuel : Nat} {v : Value} {y : DataW H × List MemPlace} (h : DataW.trod enc Try.prog w base spare held fuel 29 [v] = some y) :
    ∃ (k : IssH) (L : Iss), v = IssV k L ∧ IssM L maxLen ∧ IssR w w.heap.size k L := by
  rcases open_slice1 Try.underlying29 (by kernel_rfl) h with ⟨h0, _⟩ | ⟨a, len, cap, m, n, V, D, Pl, hcs, hb, hl, hm, hmm, _, hi⟩
  · simp at h0
    exact ⟨⟨none, 0⟩, [], h0, ⟨Nat.zero_le _, fun x hx => by simp at hx⟩, ⟨fun hn => absurd hn (by simp [vsIss])⟩⟩
  · simp at hcs
    have hlm : len ≤ m := by rw [hmm]; split <;> omega
    have key : ∀ i, i < len → ∃ xs : List Int, ∃ Ai ci, w.cell? (a.add i) = some (.slice Ai xs.length ci) ∧ xs.length ≤ maxLen ∧ Vs w w.heap.size Ai (ints xs) := by
      intro i hlt
      obtain ⟨hc, htr⟩ := hi i (by omega)
      obtain ⟨Ai, xs, ci, hv, h1, h2, h20, h3⟩ := ints_of Try.underlying26 htr
      exact ⟨xs, Ai, ci, by rw [hc, hv], Nat.le_trans h1 h2, h3⟩
    obtain ⟨f, hf⟩ := choose_lt key
    refine ⟨⟨some a, cap⟩, (List.range len).map f, by rw [hcs]; simp, ⟨by simp; omega, ?_⟩, ⟨fun hn => ?_⟩⟩
    · intro xs hx
      obtain ⟨i, hi', rfl⟩ := List.mem_map.1 hx
      obtain ⟨_, _, _, h1, _⟩ := hf i (List.mem_range.1 hi')
      exact h1
    have hn' : 0 < len := by simpa [vsIss] using hn
    obtain ⟨_, _, h0, _⟩ := hf 0 hn'
    obtain ⟨b, off, spot⟩ := a
    have hspot : spot = none := by simpa [Addr.add] using World.cell?_spot h0
    subst hspot
    refine ⟨b, off, rfl, by have := World.block_lt_of_cell? w _ h0; simpa [Addr.add] using this, fun j vs hj => ?_⟩
    obtain ⟨xs, hxs, rfl⟩ := vsIss_inv hj
    have hjl : j < len := by
      have := (List.getElem?_eq_some_iff.1 hxs).1
      simpa using this
    have hx : xs = f j := by
      rw [List.getElem?_map, List.getElem?_range hjl] at hxs
      simpa using hxs.symm
    subst hx
    obtain ⟨Ai, ci, g0, g1, g2⟩ := hf j hjl
    rw [addr_add] at g0
    exact ⟨Ai, ci, by rw [ints_length]; exact g0, g2⟩
end
end Go.Proofs.Ytnadihepgmbhaaa
namespace Go.Proofs.Ytnadihepgmbhaaa
open Go.RowKit Pl
set_option maxHeartbeats 1000000
set_option maxRecDepth 100000
set_option linter.unusedVariables false

structure Buf where
  st : Sta
  bs : Iss
deriving DecidableEq, Inhabited
structure BufH where
  h : StaH
  k : IssH
abbrev BufV (h : BufH) (o : Buf) : Value := .agg #[.slice h.h.A0 o.st.f0.length h.h.c0, .slice h.h.A1 o.st.f1.length h.h.c1, .slice h.h.A2 o.st.f2.length h.h.c2, .slice h.h.A3 o.st.f3.length h.h.c3, .slice h.h.A4 o.st.f4.length h.h.c4, .slice h.k.A o.bs.length h.k.c]
def BufN : BufH := ⟨StaN, ⟨none, 0⟩⟩
def BufE : Buf := ⟨StaE, []⟩
structure BufR (w : World) (B : Nat) (h : BufH) (o : Buf) : Prop where
  s : StaR w B h.h o.st
  b : IssR w B h.k o.bs
structure BufL (o : Buf) (m : Nat) : Prop where
  s : StaL o.st m
  b : IssM o.bs m
structure BufS (o : Buf) : Prop where
  s : StaS o.st
  b : IssS o.bs
theorem BufS_L {o : Buf} (s : BufS o) : BufL o maxLen := ⟨StaS_L s.s, (IssS_L s.b).m⟩
/-- Rows that lie in these blocks. -/
structure IssI (w : World) (lo hi : Nat) (h : IssH) (o : Iss) : Prop where
  v : 0 < o.length → ∃ b off, h.A = some ⟨b, off, none⟩ ∧ lo ≤ b ∧ b < hi ∧ ∀ (i : Nat) (xs : List Int), o[i]? = some xs → ∃ Ai ci, w.cell? ⟨b, off + i, none⟩ = some (.slice Ai xs.length ci) ∧ InVs w lo hi Ai (ints xs)
theorem IssI.keep {w w' : World} {lo hi lo' hi' : Nat} {h : IssH} {o : Iss} (r : IssI w lo hi h o) (hl : lo' ≤ lo) (hh : hi ≤ hi') (hk : ∀ i, lo ≤ i → i < hi → w'.heap[i]? = w.heap[i]?) : IssI w' lo' hi' h o := ⟨fun hn => by
  obtain ⟨b, off, hA, h1, h2, hx⟩ := r.v hn
  refine ⟨b, off, hA, by omega, by omega, fun i xs hi => ?_⟩
  obtain ⟨Ai, ci, hc, hr⟩ := hx i xs hi
  exact ⟨Ai, ci, (World.cell?_of_block (a := ⟨b, off + i, none⟩) (hk b h1 h2)).trans hc, hr.keep hl hh hk⟩⟩
theorem IssI.below {w w' : World} {lo hi B : Nat} {h : IssH} {o : Iss} (r : IssI w lo hi h o) (hb : Below B w w') (hB : hi ≤ B) : IssI w' lo hi h o := r.keep (Nat.le_refl _) (Nat.le_refl _) fun i _ hi => hb.block i (by omega)
theorem IssI.rd {w : World} {lo hi : Nat} {h : IssH} {o : Iss} (r : IssI w lo hi h o) : IssR w hi h o := ⟨fun hn => by
  obtain ⟨b, off, hA, h1, h2, hx⟩ := r.v (by simpa [vsIss] using hn)
  refine ⟨b, off, hA, h2, fun i vs hi => ?_⟩
  obtain ⟨xs, hxs, rfl⟩ := vsIss_inv hi
  obtain ⟨Ai, ci, hc, hr⟩ := hx i xs hxs
  exact ⟨Ai, ci, by rw [ints_length]; exact hc, hr.vs⟩⟩
theorem IssO.in_ {w : World} {lo hi : Nat} {h : IssH} {o : Iss} (r : IssO w lo hi h o) : IssI w lo hi h o := ⟨fun hn => by
  obtain ⟨g, cs, D, C, hA, h1, h2, hb, hx, _⟩ := r.o0 (by simpa [vsIss] using hn)
  refine ⟨g, 0, hA, h1, h2, fun i xs hi => ?_⟩
  obtain ⟨hc, ho⟩ := hx i (ints xs) (vsIss_at hi)
  rw [ints_length] at hc
  exact ⟨D i, C i, by rw [Nat.zero_add]; exact (hb.cell i).trans hc, ho.in_⟩⟩
structure BufI (w : World) (lo hi : Nat) (h : BufH) (o : Buf) : Prop where
  s : StaI w lo hi h.h o.st
  b : IssI w lo hi h.k o.bs
/-- A record of the call's own: its state lies apart from its rows. -/
def BufO (w : World) (lo hi : Nat) (h : BufH) (o : Buf) : Prop :=
  ∃ a b c d, lo ≤ a ∧ b ≤ hi ∧ lo ≤ c ∧ d ≤ hi ∧ (b ≤ c ∨ d ≤ a) ∧ StaO w a b h.h o.st ∧ IssO w c d h.k o.bs
section
variable {w w' : World} {B B' B'' lo hi lo' hi' : Nat} {h : BufH} {o : Buf}
theorem BufR.below (r : BufR w B h o) (hb : Below B' w w') (hB : B ≤ B') : BufR w' B h o := ⟨r.s.below hb hB, r.b.below hb hB⟩
theorem BufR.up (r : BufR w B h o) (hb : Below B' w w') (hB : B ≤ B') (hB2 : B ≤ B'') : BufR w' B'' h o := ⟨r.s.up hb hB hB2, r.b.up hb hB hB2⟩
theorem BufI.keep (r : BufI w lo hi h o) (hl : lo' ≤ lo) (hh : hi ≤ hi') (hk : ∀ i, lo ≤ i → i < hi → w'.heap[i]? = w.heap[i]?) : BufI w' lo' hi' h o := ⟨r.s.keep hl hh hk, r.b.keep hl hh hk⟩
theorem BufI.below (r : BufI w lo hi h o) (hb : Below B w w') (hB : hi ≤ B) : BufI w' lo hi h o := ⟨r.s.below hb hB, r.b.below hb hB⟩
theorem BufI.rd (r : BufI w lo hi h o) : BufR w hi h o := ⟨r.s.rd, r.b.rd⟩
theorem BufO.keep (r : BufO w lo hi h o) (hl : lo' ≤ lo) (hh : hi ≤ hi') (hk : ∀ i, lo ≤ i → i < hi → w'.heap[i]? = w.heap[i]?) : BufO w' lo' hi' h o := by
  obtain ⟨a, b, c, d, h1, h2, h3, h4, h5, h6, h7⟩ := r
  exact ⟨a, b, c, d, by omega, by omega, by omega, by omega, h5, h6.keep (Nat.le_refl _) (Nat.le_refl _) fun i p q => hk i (by omega) (by omega), h7.keep (Nat.le_refl _) (Nat.le_refl _) fun i p q => hk i (by omega) (by omega)⟩
theorem BufO.below (r : BufO w lo hi h o) (hb : Below B w w') (hB : hi ≤ B) : BufO w' lo hi h o := r.keep (Nat.le_refl _) (Nat.le_refl _) fun i _ hi => hb.block i (by omega)
theorem BufO.in_ (r : BufO w lo hi h o) : BufI w lo hi h o := by
  obtain ⟨a, b, c, d, h1, h2, h3, h4, h5, h6, h7⟩ := r
  exact ⟨(h6.keep h1 h2 fun _ _ _ => rfl).in_, (h7.keep h3 h4 fun _ _ _ => rfl).in_⟩
theorem BufO.rd (r : BufO w lo hi h o) : BufR w hi h o := r.in_.rd
theorem IssO.nil_ (w : World) (lo hi : Nat) (k : IssH) : IssO w lo hi k [] := ⟨OwnVss.nil _ _ _ _ _ _⟩
theorem BufO.none_ (w : World) (lo hi : Nat) (h : BufH) (hl : lo ≤ hi) : BufO w lo hi h BufE := ⟨lo, lo, lo, lo, Nat.le_refl _, hl, Nat.le_refl _, hl, Or.inl (Nat.le_refl _), StaO.none_ _ _ _ _, IssO.nil_ _ _ _ _⟩
theorem BufI.none_ (w : World) (lo hi : Nat) (h : BufH) : BufI w lo hi h BufE := ⟨StaI.none_ _ _ _ _, (IssO.nil_ _ _ _ _).in_⟩
end
/-! ### sizes -/
def szBuf (a : Int) (o : Buf) : Int := if szSta a o.st < 0 then -1 else szIss (szSta a o.st) o.bs
theorem szBuf_ge (a : Int) (o : Buf) (ha : 0 ≤ a) : -1 ≤ szBuf a o ∧ szBuf a o ≤ a := by
  have h := szSta_ge a o.st ha
  unfold szBuf
  split
  · omega
  · have := szIss_ge (szSta a o.st) o.bs (by omega)
    omega
theorem szBuf_small {a : Int} {o : Buf} (h : 0 ≤ szBuf a o) (ha : 0 ≤ a) (ha2 : a ≤ 1048576) : BufS o := by
  unfold szBuf at h
  split at h
  · omega
  · rename_i h1
    have h2 := szSta_ge a o.st ha
    have h3 := szIss_tot h
    exact ⟨szSta_small (a := a) (by omega) ha ha2, ⟨by omega, by omega⟩⟩
theorem szBuf_any (h : BufH) (o : Buf) (left : Int) (w : World) (B : Nat) (hR : BufR w B h o) (hB : B ≤ w.heap.size) (hL : BufL o maxLen) (h0 : 0 ≤ left) (h1 : left ≤ 1048576) (r : Int) (hr : Hid (szBuf left o = r)) :
    Calls Try.prog 40 #[BufV h o, .int .i64 left] w fun e w' => e = .returned (.int .i64 r) ∧ Below w.heap.size w w' := by
  obtain ⟨Ls, Lb⟩ := hL
  obtain ⟨q, hq⟩ : ∃ q, szSta left o.st = q := ⟨_, rfl⟩
  have uq : -1 ≤ q ∧ q ≤ left := by rw [← hq]; exact szSta_ge _ _ h0
  have Q := Lib.hid hq
  obtain ⟨W, hW⟩ : ∃ W, W = w.alloc (.cells #[.slice h.h.A0 o.st.f0.length h.h.c0, .slice h.h.A1 o.st.f1.length h.h.c1, .slice h.h.A2 o.st.f2.length h.h.c2, .slice h.h.A3 o.st.f3.length h.h.c3, .slice h.h.A4 o.st.f4.length h.h.c4, .slice h.k.A o.bs.length h.k.c] 64) := ⟨_, rfl⟩
  have bW : Below w.heap.size w W := by rw [hW]; go_grown
  have k0 : Bk W w.heap.size 64 #[.slice h.h.A0 o.st.f0.length h.h.c0, .slice h.h.A1 o.st.f1.length h.h.c1, .slice h.h.A2 o.st.f2.length h.h.c2, .slice h.h.A3 o.st.f3.length h.h.c3, .slice h.h.A4 o.st.f4.length h.h.c4, .slice h.k.A o.bs.length h.k.c] := by rw [hW]; exact Bk.new w _ _
  have zW := bW.size
  have HR := Lib.hid (hR.below bW hB)
  have K0 := Lib.hid k0
  have BW := Lib.hid bW
  have HW := Lib.hid hW
  clear hW bW k0 hR hq
  by_cases n0 : q < 0
  · have hfin : Hid (r = -1) := Lib.hid (by rw [← hr.out, szBuf, Q.out, if_pos n0])
    clear hr
    go_enter Try.func40, Try.ntmps40
    go_wp2_with fail
    rw [← HW.out]
    refine (szSta_any h.h o.st left W B HR.out.s (by omega) Ls h0 h1 q Q).mono ?_
    rintro e w1 ⟨rfl, hb1⟩
    have B1 := Lib.hid (below_on BW.out hb1)
    clear hb1
    go_wp2
    go_ret
    exact ⟨by rw [hfin.out]; rfl, B1.out⟩
  · have hfin : Hid (szIss q o.bs = r) := Lib.hid (by rw [← hr.out, szBuf, Q.out, if_neg n0])
    clear hr
    have ur : -1 ≤ r ∧ r ≤ q := by rw [← hfin.out]; exact szIss_ge _ _ (by omega)
    by_cases n1 : r < 0
    all_goals
      have hend : Hid (r < 0 → r = -1) := Lib.hid (by omega)
      go_enter Try.func40, Try.ntmps40
      go_wp2_with fail
      rw [← HW.out]
      refine (szSta_any h.h o.st left W B HR.out.s (by omega) Ls h0 h1 q Q).mono ?_
      rintro e w1 ⟨rfl, hb1⟩
      have B1 := Lib.hid (below_on BW.out hb1)
      have K1 := Lib.hid (K0.out.below hb1 K0.out.lt)
      have R1 := Lib.hid (HR.out.below hb1 (by omega))
      clear hb1
      have c5 : w1.cell? ⟨w.heap.size, 5, none⟩ = some (.slice h.k.A o.bs.length h.k.c) := K1.out.cell 5
      go_wp2_with fail
      refine (szIss_any h.k o.bs q w1 B R1.out.b Lb (by omega) (by omega) r hfin).mono ?_
      rintro e w2 ⟨rfl, rfl⟩
      clear c5
      go_wp2
      go_ret
      first | exact ⟨rfl, B1.out⟩ | exact ⟨by rw [hend.out n1]; rfl, B1.out⟩
/-! ### copies -/
def ToBuf (w : World) (o : Buf) (e : Ending) (w' : World) : Prop := ∃ h, e = .returned (BufV h o) ∧ Below w.heap.size w w' ∧ w.heap.size < w'.heap.size ∧ BufO w' w.heap.size w'.heap.size h o
theorem toBuf_any (h : BufH) (o : Buf) (w : World) (B : Nat) (hR : BufR w B h o) (hB : B ≤ w.heap.size) (hL : BufS o) :
    Calls Try.prog 42 #[BufV h o] w (ToBuf w o) := by
  obtain ⟨Ls, Lb⟩ := hL
  obtain ⟨W, hW⟩ : ∃ W, W = ((w.alloc (.cells #[.slice h.h.A0 o.st.f0.length h.h.c0, .slice h.h.A1 o.st.f1.length h.h.c1, .slice h.h.A2 o.st.f2.length h.h.c2, .slice h.h.A3 o.st.f3.length h.h.c3, .slice h.h.A4 o.st.f4.length h.h.c4, .slice h.k.A o.bs.length h.k.c] 64)).alloc (.cells #[.slice none 0 0, .slice none 0 0, .slice none 0 0, .slice none 0 0, .slice none 0 0, .slice none 0 0] 59)).alloc (.cells #[.slice none 0 0, .slice none 0 0, .slice none 0 0, .slice none 0 0, .slice none 0 0, .slice none 0 0] 59) := ⟨_, rfl⟩
  have bW : Below w.heap.size w W := by rw [hW]; go_grown
  have sW : W.heap.size = w.heap.size + 1 + 1 + 1 := by rw [hW]; simp
  have k0 : Bk W w.heap.size 64 #[.slice h.h.A0 o.st.f0.length h.h.c0, .slice h.h.A1 o.st.f1.length h.h.c1, .slice h.h.A2 o.st.f2.length h.h.c2, .slice h.h.A3 o.st.f3.length h.h.c3, .slice h.h.A4 o.st.f4.length h.h.c4, .slice h.k.A o.bs.length h.k.c] := by rw [hW]; exact ((Bk.new w _ _).alloc _).alloc _
  have k1 : Bk W (w.heap.size + 1) 59 #[.slice none 0 0, .slice none 0 0, .slice none 0 0, .slice none 0 0, .slice none 0 0, .slice none 0 0] := by
    rw [hW]; have := (Bk.new (w.alloc (.cells #[.slice h.h.A0 o.st.f0.length h.h.c0, .slice h.h.A1 o.st.f1.length h.h.c1, .slice h.h.A2 o.st.f2.length h.h.c2, .slice h.h.A3 o.st.f3.length h.h.c3, .slice h.h.A4 o.st.f4.length h.h.c4, .slice h.k.A o.bs.length h.k.c] 64)) #[.slice none 0 0, .slice none 0 0, .slice none 0 0, .slice none 0 0, .slice none 0 0, .slice none 0 0] 59).alloc (.cells #[.slice none 0 0, .slice none 0 0, .slice none 0 0, .slice none 0 0, .slice none 0 0, .slice none 0 0] 59)
    rwa [World.size_alloc] at this
  have k2 : Bk W (w.heap.size + 1 + 1) 59 #[.slice none 0 0, .slice none 0 0, .slice none 0 0, .slice none 0 0, .slice none 0 0, .slice none 0 0] := by
    rw [hW]; have := Bk.new ((w.alloc (.cells #[.slice h.h.A0 o.st.f0.length h.h.c0, .slice h.h.A1 o.st.f1.length h.h.c1, .slice h.h.A2 o.st.f2.length h.h.c2, .slice h.h.A3 o.st.f3.length h.h.c3, .slice h.h.A4 o.st.f4.length h.h.c4, .slice h.k.A o.bs.length h.k.c] 64)).alloc (.cells #[.slice none 0 0, .slice none 0 0, .slice none 0 0, .slice none 0 0, .slice none 0 0, .slice none 0 0] 59)) #[.slice none 0 0, .slice none 0 0, .slice none 0 0, .slice none 0 0, .slice none 0 0, .slice none 0 0] 59
    rwa [World.size_alloc, World.size_alloc] at this
  have HR := Lib.hid (hR.below bW hB)
  have K0 := Lib.hid k0
  have K1 := Lib.hid k1
  have K2 := Lib.hid k2
  have BW := Lib.hid bW
  have sWl : w.heap.size + 3 ≤ W.heap.size := by omega
  have HW := Lib.hid hW
  clear hW bW sW k0 k1 k2 hR
  go_enter Try.func42, Try.ntmps42
  go_wp2_with fail
  rw [← HW.out]
  refine (toSta_any h.h o.st W B HR.out.s (by omega) Ls).mono ?_
  rintro e w1 ⟨hs, rfl, hb1, hl1, own⟩
  have Own1 := Lib.hid own
  have B1 := Lib.hid (below_on BW.out hb1)
  have Hb1 := Lib.hid hb1
  have R1 := Lib.hid (HR.out.below hb1 (by omega))
  have K01 := Lib.hid (K0.out.below hb1 K0.out.lt)
  have K11 := Lib.hid (K1.out.below hb1 K1.out.lt)
  have K21 := Lib.hid (K2.out.below hb1 K2.out.lt)
  clear HR K0 K1 K2 own hb1
  have y0 := K21.out.free 0
  have x0 : w1.cell? ⟨w.heap.size + 1 + 1, 0, none⟩ = some (.slice none 0 0) := K21.out.cell 0
  have y1 := K21.out.free 1
  have x1 : w1.cell? ⟨w.heap.size + 1 + 1, 1, none⟩ = some (.slice none 0 0) := K21.out.cell 1
  have y2 := K21.out.free 2
  have x2 : w1.cell? ⟨w.heap.size + 1 + 1, 2, none⟩ = some (.slice none 0 0) := K21.out.cell 2
  have y3 := K21.out.free 3
  have x3 : w1.cell? ⟨w.heap.size + 1 + 1, 3, none⟩ = some (.slice none 0 0) := K21.out.cell 3
  have y4 := K21.out.free 4
  have x4 : w1.cell? ⟨w.heap.size + 1 + 1, 4, none⟩ = some (.slice none 0 0) := K21.out.cell 4
  have v5 : w1.cell? ⟨w.heap.size, 5, none⟩ = some (.slice h.k.A o.bs.length h.k.c) := K01.out.cell 5
  go_wp2_with fail
  obtain ⟨X1, hX⟩ : ∃ V, V = (((((w1.setCell ⟨w.heap.size + 1 + 1, 0, none⟩ (.slice hs.A0 o.st.f0.length hs.c0)).setCell ⟨w.heap.size + 1 + 1, 1, none⟩ (.slice hs.A1 o.st.f1.length hs.c1)).setCell ⟨w.heap.size + 1 + 1, 2, none⟩ (.slice hs.A2 o.st.f2.length hs.c2)).setCell ⟨w.heap.size + 1 + 1, 3, none⟩ (.slice hs.A3 o.st.f3.length hs.c3)).setCell ⟨w.heap.size + 1 + 1, 4, none⟩ (.slice hs.A4 o.st.f4.length hs.c4)) := ⟨_, rfl⟩
  rw [← hX]
  have bX : Below w.heap.size w1 X1 := by rw [hX]; exact ((((((Below.refl _ _).setCell (by show _ ≤ w.heap.size + 1 + 1; omega) _).setCell (by show _ ≤ w.heap.size + 1 + 1; omega) _).setCell (by show _ ≤ w.heap.size + 1 + 1; omega) _).setCell (by show _ ≤ w.heap.size + 1 + 1; omega) _).setCell (by show _ ≤ w.heap.size + 1 + 1; omega) _)
  have sX : X1.heap.size = w1.heap.size := by rw [hX]; simp
  have nX : ∀ q, q ≠ w.heap.size + 1 + 1 → X1.heap[q]? = w1.heap[q]? := fun q hq => by rw [hX]; exact (Below.heap_setCell _ _ _ q hq).trans ((Below.heap_setCell _ _ _ q hq).trans ((Below.heap_setCell _ _ _ q hq).trans ((Below.heap_setCell _ _ _ q hq).trans (Below.heap_setCell _ _ _ q hq))))
  have K12 := Lib.hid (show Bk X1 (w.heap.size + 1) _ _ from (nX _ (by omega)).trans K11.out)
  have K22 : Hid (Bk X1 (w.heap.size + 1 + 1) 59 #[.slice hs.A0 o.st.f0.length hs.c0, .slice hs.A1 o.st.f1.length hs.c1, .slice hs.A2 o.st.f2.length hs.c2, .slice hs.A3 o.st.f3.length hs.c3, .slice hs.A4 o.st.f4.length hs.c4, .slice none 0 0]) := Lib.hid (by rw [hX]; have := (((((K21.out.set 0 (.slice hs.A0 o.st.f0.length hs.c0)).set 1 (.slice hs.A1 o.st.f1.length hs.c1)).set 2 (.slice hs.A2 o.st.f2.length hs.c2)).set 3 (.slice hs.A3 o.st.f3.length hs.c3)).set 4 (.slice hs.A4 o.st.f4.length hs.c4)); simpa using this)
  have R2 := Lib.hid (show BufR X1 B h o from R1.out.below bX (by omega))
  have Own2 := Lib.hid (Own1.out.keep (Nat.le_refl _) (Nat.le_refl _) fun q h1 h2 => nX q (by omega))
  have B2 := Lib.hid (B1.out.trans bX)
  have sXl := Nat.le_of_eq sX
  have sXr := Nat.le_of_eq sX.symm
  clear v5 R1 K01 K11 K21 Own1 hX sX nX bX Hb1 x0 y0 x1 y1 x2 y2 x3 y3 x4 y4
  refine (toIss_any h.k o.bs X1 B R2.out.b (by omega) Lb).mono ?_
  rintro e w2 ⟨hk, rfl, hb2, hl2, own⟩
  have Own3 := Lib.hid own
  have Own4 := Lib.hid (Own2.out.below hb2 (by omega))
  have B3 := Lib.hid (B2.out.trans (hb2.mono (by omega)))
  have K13 := Lib.hid (K12.out.below hb2 K12.out.lt)
  have K23 := Lib.hid (K22.out.below hb2 K22.out.lt)
  clear own Own2 B2 K12 K22 R2 hb2
  have fr0 := K13.out.free 0
  have xr0 : w2.cell? ⟨w.heap.size + 1, 0, none⟩ = some (.slice none 0 0) := K13.out.cell 0
  have fr1 := K13.out.free 1
  have xr1 : w2.cell? ⟨w.heap.size + 1, 1, none⟩ = some (.slice none 0 0) := K13.out.cell 1
  have fr2 := K13.out.free 2
  have xr2 : w2.cell? ⟨w.heap.size + 1, 2, none⟩ = some (.slice none 0 0) := K13.out.cell 2
  have fr3 := K13.out.free 3
  have xr3 : w2.cell? ⟨w.heap.size + 1, 3, none⟩ = some (.slice none 0 0) := K13.out.cell 3
  have fr4 := K13.out.free 4
  have xr4 : w2.cell? ⟨w.heap.size + 1, 4, none⟩ = some (.slice none 0 0) := K13.out.cell 4
  have fr5 := K13.out.free 5
  have xr5 : w2.cell? ⟨w.heap.size + 1, 5, none⟩ = some (.slice none 0 0) := K13.out.cell 5
  have xo0 : w2.cell? ⟨w.heap.size + 1 + 1, 0, none⟩ = some (.slice hs.A0 o.st.f0.length hs.c0) := K23.out.cell 0
  have xo1 : w2.cell? ⟨w.heap.size + 1 + 1, 1, none⟩ = some (.slice hs.A1 o.st.f1.length hs.c1) := K23.out.cell 1
  have xo2 : w2.cell? ⟨w.heap.size + 1 + 1, 2, none⟩ = some (.slice hs.A2 o.st.f2.length hs.c2) := K23.out.cell 2
  have xo3 : w2.cell? ⟨w.heap.size + 1 + 1, 3, none⟩ = some (.slice hs.A3 o.st.f3.length hs.c3) := K23.out.cell 3
  have xo4 : w2.cell? ⟨w.heap.size + 1 + 1, 4, none⟩ = some (.slice hs.A4 o.st.f4.length hs.c4) := K23.out.cell 4
  have y5 := K23.out.free 5
  have x5 : w2.cell? ⟨w.heap.size + 1 + 1, 5, none⟩ = some (.slice none 0 0) := K23.out.cell 5
  obtain ⟨F, hF⟩ : ∃ F, F = (((((((w2.setCell ⟨w.heap.size + 1 + 1, 5, none⟩ (.slice hk.A o.bs.length hk.c)).setCell ⟨w.heap.size + 1, 0, none⟩ (.slice hs.A0 o.st.f0.length hs.c0)).setCell ⟨w.heap.size + 1, 1, none⟩ (.slice hs.A1 o.st.f1.length hs.c1)).setCell ⟨w.heap.size + 1, 2, none⟩ (.slice hs.A2 o.st.f2.length hs.c2)).setCell ⟨w.heap.size + 1, 3, none⟩ (.slice hs.A3 o.st.f3.length hs.c3)).setCell ⟨w.heap.size + 1, 4, none⟩ (.slice hs.A4 o.st.f4.length hs.c4)).setCell ⟨w.heap.size + 1, 5, none⟩ (.slice hk.A o.bs.length hk.c)) := ⟨_, rfl⟩
  have kF : Bk F (w.heap.size + 1) 59 #[.slice hs.A0 o.st.f0.length hs.c0, .slice hs.A1 o.st.f1.length hs.c1, .slice hs.A2 o.st.f2.length hs.c2, .slice hs.A3 o.st.f3.length hs.c3, .slice hs.A4 o.st.f4.length hs.c4, .slice hk.A o.bs.length hk.c] := by
    rw [hF]; have a0 := K13.out.far (p := ⟨w.heap.size + 1 + 1, 5, none⟩) (by show w.heap.size + 1 ≠ w.heap.size + 1 + 1; omega) (.slice hk.A o.bs.length hk.c)
    have a1 := a0.set 0 (.slice hs.A0 o.st.f0.length hs.c0)
    have a2 := a1.set 1 (.slice hs.A1 o.st.f1.length hs.c1)
    have a3 := a2.set 2 (.slice hs.A2 o.st.f2.length hs.c2)
    have a4 := a3.set 3 (.slice hs.A3 o.st.f3.length hs.c3)
    have a5 := a4.set 4 (.slice hs.A4 o.st.f4.length hs.c4)
    have a6 := a5.set 5 (.slice hk.A o.bs.length hk.c)
    simpa using a6
  have bF : Below w.heap.size w2 F := by rw [hF]; exact ((((((((Below.refl _ _).setCell (by show _ ≤ w.heap.size + 1 + 1; omega) _).setCell (by show _ ≤ w.heap.size + 1; omega) _).setCell (by show _ ≤ w.heap.size + 1; omega) _).setCell (by show _ ≤ w.heap.size + 1; omega) _).setCell (by show _ ≤ w.heap.size + 1; omega) _).setCell (by show _ ≤ w.heap.size + 1; omega) _).setCell (by show _ ≤ w.heap.size + 1; omega) _)
  have nF : ∀ q, w.heap.size + 1 + 1 < q → F.heap[q]? = w2.heap[q]? := fun q hq => by rw [hF]; exact (Below.heap_setCell _ _ _ q (by show q ≠ w.heap.size + 1; omega)).trans ((Below.heap_setCell _ _ _ q (by show q ≠ w.heap.size + 1; omega)).trans ((Below.heap_setCell _ _ _ q (by show q ≠ w.heap.size + 1; omega)).trans ((Below.heap_setCell _ _ _ q (by show q ≠ w.heap.size + 1; omega)).trans ((Below.heap_setCell _ _ _ q (by show q ≠ w.heap.size + 1; omega)).trans ((Below.heap_setCell _ _ _ q (by show q ≠ w.heap.size + 1; omega)).trans (Below.heap_setCell _ _ _ q (by show q ≠ w.heap.size + 1 + 1; omega)))))))
  have sF : w2.heap.size ≤ F.heap.size := by rw [hF]; simp
  have cF0 := kF.cell 0
  have cF1 := kF.cell 1
  have cF2 := kF.cell 2
  have cF3 := kF.cell 3
  have cF4 := kF.cell 4
  have cF5 := kF.cell 5
  simp only [List.getElem?_toArray, List.getElem?_cons_zero, List.getElem?_cons_succ] at cF0 cF1 cF2 cF3 cF4 cF5
  have HF := Lib.hid hF
  clear hF kF
  have CF0 := Lib.hid cF0
  clear cF0
  have CF1 := Lib.hid cF1
  clear cF1
  have CF2 := Lib.hid cF2
  clear cF2
  have CF3 := Lib.hid cF3
  clear cF3
  have CF4 := Lib.hid cF4
  clear cF4
  have CF5 := Lib.hid cF5
  clear cF5
  have NF := Lib.hid nF
  have BF := Lib.hid bF
  clear nF bF
  go_wp2
  rw [← HF.out]
  have cF0 := CF0.out
  have cF1 := CF1.out
  have cF2 := CF2.out
  have cF3 := CF3.out
  have cF4 := CF4.out
  have cF5 := CF5.out
  refine bodyPost_ret (v := .agg #[.slice hs.A0 o.st.f0.length hs.c0, .slice hs.A1 o.st.f1.length hs.c1, .slice hs.A2 o.st.f2.length hs.c2, .slice hs.A3 o.st.f3.length hs.c3, .slice hs.A4 o.st.f4.length hs.c4, .slice hk.A o.bs.length hk.c]) (by simp [results, Try.results42, cF0, cF1, cF2, cF3, cF4, cF5, go_sem]) rfl ?_
  exact ⟨⟨hs, hk⟩, rfl, B3.out.trans BF.out, by omega, W.heap.size, w1.heap.size, X1.heap.size, w2.heap.size, by omega, by omega, by omega, by omega, Or.inl (by omega), Own4.out.keep (Nat.le_refl _) (Nat.le_refl _) fun q h1 h2 => NF.out q (by omega), Own3.out.keep (Nat.le_refl _) (Nat.le_refl _) fun q h1 h2 => NF.out q (by omega)⟩
/-- An answer of a record and a truth: the record is the call's own. -/
def AnsBuf (w : World) (o : Buf) (r : Bool) (e : Ending) (w' : World) : Prop := ∃ h, e = .returned (.tuple #[BufV h o, .bool r]) ∧ Below w.heap.size w w' ∧ w.heap.size ≤ w'.heap.size ∧ BufO w' w.heap.size w'.heap.size h o
def AnsIBuf (w : World) (o : Buf) (r : Bool) (e : Ending) (w' : World) : Prop := ∃ h, e = .returned (.tuple #[BufV h o, .bool r]) ∧ Below w.heap.size w w' ∧ w.heap.size ≤ w'.heap.size ∧ BufI w' w.heap.size w'.heap.size h o
theorem AnsBuf.in_ {w w' : World} {o : Buf} {r : Bool} {e : Ending} (h : AnsBuf w o r e w') : AnsIBuf w o r e w' := by
  obtain ⟨k, h1, h2, h3, h4⟩ := h
  exact ⟨k, h1, h2, h3, h4.in_⟩
/-! ### equality -/
theorem eqBuf_any (h1 h2 : BufH) (o1 o2 : Buf) (w : World) (B : Nat) (r1 : BufR w B h1 o1) (r2 : BufR w B h2 o2) (hB : B ≤ w.heap.size) (L1 : BufL o1 maxLen) (L2 : BufL o2 maxLen) (r : Bool) (hr : Hid (decide (o1 = o2) = r)) :
    Calls Try.prog 37 #[BufV h1 o1, BufV h2 o2] w fun e w' => e = .returned (.bool r) ∧ Below w.heap.size w w' := by
  obtain ⟨l0, l1⟩ := L1
  obtain ⟨m0, m1⟩ := L2
  obtain ⟨W, hW⟩ : ∃ W, W = (w.alloc (.cells #[.slice h1.h.A0 o1.st.f0.length h1.h.c0, .slice h1.h.A1 o1.st.f1.length h1.h.c1, .slice h1.h.A2 o1.st.f2.length h1.h.c2, .slice h1.h.A3 o1.st.f3.length h1.h.c3, .slice h1.h.A4 o1.st.f4.length h1.h.c4, .slice h1.k.A o1.bs.length h1.k.c] 59)).alloc (.cells #[.slice h2.h.A0 o2.st.f0.length h2.h.c0, .slice h2.h.A1 o2.st.f1.length h2.h.c1, .slice h2.h.A2 o2.st.f2.length h2.h.c2, .slice h2.h.A3 o2.st.f3.length h2.h.c3, .slice h2.h.A4 o2.st.f4.length h2.h.c4, .slice h2.k.A o2.bs.length h2.k.c] 59) := ⟨_, rfl⟩
  have bW : Below w.heap.size w W := by rw [hW]; go_grown
  have k0 : Bk W w.heap.size 59 #[.slice h1.h.A0 o1.st.f0.length h1.h.c0, .slice h1.h.A1 o1.st.f1.length h1.h.c1, .slice h1.h.A2 o1.st.f2.length h1.h.c2, .slice h1.h.A3 o1.st.f3.length h1.h.c3, .slice h1.h.A4 o1.st.f4.length h1.h.c4, .slice h1.k.A o1.bs.length h1.k.c] := by rw [hW]; exact (Bk.new w _ _).alloc _
  have k1 : Bk W (w.heap.size + 1) 59 #[.slice h2.h.A0 o2.st.f0.length h2.h.c0, .slice h2.h.A1 o2.st.f1.length h2.h.c1, .slice h2.h.A2 o2.st.f2.length h2.h.c2, .slice h2.h.A3 o2.st.f3.length h2.h.c3, .slice h2.h.A4 o2.st.f4.length h2.h.c4, .slice h2.k.A o2.bs.length h2.k.c] := by
    rw [hW]; have := Bk.new (w.alloc (.cells #[.slice h1.h.A0 o1.st.f0.length h1.h.c0, .slice h1.h.A1 o1.st.f1.length h1.h.c1, .slice h1.h.A2 o1.st.f2.length h1.h.c2, .slice h1.h.A3 o1.st.f3.length h1.h.c3, .slice h1.h.A4 o1.st.f4.length h1.h.c4, .slice h1.k.A o1.bs.length h1.k.c] 59)) #[.slice h2.h.A0 o2.st.f0.length h2.h.c0, .slice h2.h.A1 o2.st.f1.length h2.h.c1, .slice h2.h.A2 o2.st.f2.length h2.h.c2, .slice h2.h.A3 o2.st.f3.length h2.h.c3, .slice h2.h.A4 o2.st.f4.length h2.h.c4, .slice h2.k.A o2.bs.length h2.k.c] 59
    rwa [World.size_alloc] at this
  have P0 := Lib.hid (r1.below bW hB)
  have Q0 := Lib.hid (r2.below bW hB)
  have K00 := Lib.hid k0
  have K10 := Lib.hid k1
  have B0 := Lib.hid bW
  have z0 := bW.size
  have HW := Lib.hid hW
  clear hW bW k0 k1 r1 r2
  by_cases q0 : o1.st = o2.st
  rotate_left
  · have Y0 := Lib.hid q0
    have hfin : Hid (r = false) := Lib.hid (by rw [← hr.out]; exact decide_eq_false (fun e => Y0.out (by rw [e])))
    clear hr q0
    go_enter Try.func37, Try.ntmps37
    go_wp2_with fail
    rw [← HW.out]
    refine (eqSta_any h1.h h2.h o1.st o2.st W B P0.out.s Q0.out.s (by omega) l0 m0 false (Lib.hid (by simpa using Y0.out))).mono ?_
    rintro e u1 ⟨rfl, hb⟩
    have B1 := Lib.hid (below_on B0.out hb)
    clear hb
    go_wp2
    go_ret
    exact ⟨by rw [hfin.out]; rfl, B1.out⟩
  have Y0 := Lib.hid q0
  clear q0
  obtain ⟨r1, hr1⟩ : ∃ r1, decide (o1.bs = o2.bs) = r1 := ⟨_, rfl⟩
  have R1 := Lib.hid hr1
  have hfin : Hid (r = r1) := Lib.hid (by
    rw [← hr.out, ← hr1]
    cases o1; cases o2
    have := Y0.out
    simp only at this
    subst this
    simp)
  clear hr hr1
  rcases Bool.eq_false_or_eq_true r1 with h | h
  all_goals
    subst h
    go_enter Try.func37, Try.ntmps37
    go_wp2_with fail
    rw [← HW.out]
    refine (eqSta_any h1.h h2.h o1.st o2.st W B P0.out.s Q0.out.s (by omega) l0 m0 true (Lib.hid (by simpa using Y0.out))).mono ?_
    rintro e u1 ⟨rfl, hb⟩
    have B1 := Lib.hid (below_on B0.out hb)
    have P1 := Lib.hid (P0.out.below hb (by omega))
    have Q1 := Lib.hid (Q0.out.below hb (by omega))
    have K01 := Lib.hid (K00.out.below hb K00.out.lt)
    have K11 := Lib.hid (K10.out.below hb K10.out.lt)
    have z1 := hb.size
    clear hb
    have ca : u1.cell? ⟨w.heap.size, 5, none⟩ = some (.slice h1.k.A o1.bs.length h1.k.c) := K01.out.cell 5
    have cb : u1.cell? ⟨w.heap.size + 1, 5, none⟩ = some (.slice h2.k.A o2.bs.length h2.k.c) := K11.out.cell 5
    go_wp2_with fail
    refine (eqIss_m h1.k h2.k o1.bs o2.bs u1 B P1.out.b Q1.out.b (by omega) l1 m1 _ R1).mono ?_
    rintro e u2 ⟨rfl, hb⟩
    have B2 := Lib.hid (below_on B1.out hb)
    clear hb ca cb
    go_wp2
    go_ret
    exact ⟨by rw [hfin.out]; rfl, B2.out⟩
/-! ### marks -/
def upBuf (K : Int) (o : Buf) : Buf := ⟨upSta K o.st, upIss (K + allSta o.st) o.bs⟩
def allBuf (o : Buf) : Int := allSta o.st + allIss o.bs
theorem allSta_le {o : Sta} (h : StaL o 1048576) : 0 ≤ allSta o ∧ allSta o ≤ 5242880 := by
  obtain ⟨l0, l1, l2, l3, l4⟩ := h
  unfold allSta
  omega
theorem markBuf_any (h : BufH) (o : Buf) (K : Int) (w : World) (lo hi : Nat) (hO : BufO w lo hi h o) (hhi : hi ≤ w.heap.size) (hL : BufS o) (hK : 0 ≤ K) (hK2 : K ≤ 90000000) :
    Calls Try.prog 38 #[BufV h o, .int .i64 K] w fun e w' => e = .returned (.int .i64 (K + allBuf o)) ∧ Only lo hi w w' ∧ BufO w' lo hi h (upBuf K o) := by
  obtain ⟨l0, l1⟩ := hL
  obtain ⟨a, b, c, d, e1, e2, e3, e4, e5, oS, oB⟩ := hO
  have ual := allSta_le l0
  obtain ⟨W, hW⟩ : ∃ W, W = w.alloc (.cells #[.slice h.h.A0 o.st.f0.length h.h.c0, .slice h.h.A1 o.st.f1.length h.h.c1, .slice h.h.A2 o.st.f2.length h.h.c2, .slice h.h.A3 o.st.f3.length h.h.c3, .slice h.h.A4 o.st.f4.length h.h.c4, .slice h.k.A o.bs.length h.k.c] 59) := ⟨_, rfl⟩
  have bW : Below w.heap.size w W := by rw [hW]; go_grown
  have k0 : Bk W w.heap.size 59 #[.slice h.h.A0 o.st.f0.length h.h.c0, .slice h.h.A1 o.st.f1.length h.h.c1, .slice h.h.A2 o.st.f2.length h.h.c2, .slice h.h.A3 o.st.f3.length h.h.c3, .slice h.h.A4 o.st.f4.length h.h.c4, .slice h.k.A o.bs.length h.k.c] := by rw [hW]; exact Bk.new w _ _
  have zW := bW.size
  have JS := Lib.hid (oS.below bW (by omega))
  have JB := Lib.hid (oB.below bW (by omega))
  have On0 := Lib.hid (Only.of_below (lo := lo) (hi := hi) bW)
  have K0 := Lib.hid k0
  have HW := Lib.hid hW
  clear hW bW k0 oS oB
  go_enter Try.func38, Try.ntmps38
  go_wp2_with fail
  rw [← HW.out]
  refine (markSta_any h.h o.st K W a b JS.out (by omega) l0 hK (by omega)).mono ?_
  rintro e u1 ⟨rfl, on, own⟩
  have On1 := Lib.hid (On0.out.trans (on.mono e1 e2))
  have z1 := on.size
  have K1 := Lib.hid (only_bk K0.out on (by omega))
  have J1 := Lib.hid (JB.out.keep (Nat.le_refl _) (Nat.le_refl _) fun i p q => on.block i (by omega) (by omega))
  have S1 := Lib.hid own
  clear on own
  have c5 : u1.cell? ⟨w.heap.size, 5, none⟩ = some (.slice h.k.A o.bs.length h.k.c) := K1.out.cell 5
  go_wp2_with fail
  clear c5
  refine (markIss_any h.k o.bs (K + allSta o.st) u1 c d J1.out (by omega) l1 (by omega) (by omega)).mono ?_
  rintro e u2 ⟨rfl, on, own⟩
  have On2 := Lib.hid (On1.out.trans (on.mono e3 e4))
  have S2 := Lib.hid (S1.out.keep (Nat.le_refl _) (Nat.le_refl _) fun i p q => on.block i (by omega) (by omega))
  have J2 := Lib.hid own
  clear on own
  go_wp2
  go_ret
  exact ⟨by rw [allBuf, Int.add_assoc]; rfl, On2.out, a, b, c, d, e1, e2, e3, e4, e5, S2.out, J2.out⟩
theorem heldBuf_any (h : BufH) (o : Buf) (K : Int) (w : World) (B : Nat) (hR : BufR w B h (upBuf K o)) (hB : B ≤ w.heap.size) (hL : BufS o) (hK : 0 ≤ K) (hK2 : K ≤ 90000000) :
    Calls Try.prog 39 #[BufV h o, .int .i64 K] w fun e w' => e = .returned (.int .i64 (K + allBuf o)) ∧ Below w.heap.size w w' := by
  obtain ⟨l0, l1⟩ := hL
  have ual := allSta_le l0
  have uil : 0 ≤ allIss o.bs := by unfold allIss; omega
  obtain ⟨W, hW⟩ : ∃ W, W = w.alloc (.cells #[.slice h.h.A0 o.st.f0.length h.h.c0, .slice h.h.A1 o.st.f1.length h.h.c1, .slice h.h.A2 o.st.f2.length h.h.c2, .slice h.h.A3 o.st.f3.length h.h.c3, .slice h.h.A4 o.st.f4.length h.h.c4, .slice h.k.A o.bs.length h.k.c] 59) := ⟨_, rfl⟩
  have bW : Below w.heap.size w W := by rw [hW]; go_grown
  have k0 : Bk W w.heap.size 59 #[.slice h.h.A0 o.st.f0.length h.h.c0, .slice h.h.A1 o.st.f1.length h.h.c1, .slice h.h.A2 o.st.f2.length h.h.c2, .slice h.h.A3 o.st.f3.length h.h.c3, .slice h.h.A4 o.st.f4.length h.h.c4, .slice h.k.A o.bs.length h.k.c] := by rw [hW]; exact Bk.new w _ _
  have zW := bW.size
  have R0 := Lib.hid (hR.below bW hB)
  have K0 := Lib.hid k0
  have B0 := Lib.hid bW
  have HW := Lib.hid hW
  clear hW bW k0 hR
  go_enter Try.func39, Try.ntmps39
  go_wp2_with fail
  rw [← HW.out]
  refine (heldSta_any h.h o.st K W B R0.out.s (by omega) l0 hK (by omega)).mono ?_
  rintro e u1 ⟨rfl, hb⟩
  have B1 := Lib.hid (below_on B0.out hb)
  have R1 := Lib.hid (R0.out.below hb (by omega))
  have K1 := Lib.hid (K0.out.below hb K0.out.lt)
  have z1 := hb.size
  clear hb
  have c5 : u1.cell? ⟨w.heap.size, 5, none⟩ = some (.slice h.k.A o.bs.length h.k.c) := K1.out.cell 5
  go_wp2_with fail
  clear c5
  refine (heldIss_any h.k o.bs (K + allSta o.st) u1 B R1.out.b (by omega) l1 (by omega) (by omega)).mono ?_
  rintro e u2 ⟨rfl, hb⟩
  have B2 := Lib.hid (below_on B1.out hb)
  clear hb
  go_wp2
  go_ret
  exact ⟨by rw [allBuf, Int.add_assoc]; rfl, B2.out⟩
end Go.Proofs.Ytnadihepgmbhaaa
namespace Go.Proofs.Ytnadihepgmbhaaa
open Go.RowKit Pl
set_option maxHeartbeats 1000000
set_option maxRecDepth 100000
set_option linter.unusedVariables false

abbrev Spr := Buf
abbrev SprH := BufH
abbrev SprV := BufV
abbrev SprN := BufN
abbrev SprE := BufE
abbrev SprR := BufR
abbrev SprL := BufL
abbrev SprS := BufS
abbrev SprI := BufI
abbrev SprO := BufO
abbrev szSpr := szBuf
abbrev upSpr := upBuf
abbrev allSpr := allBuf
abbrev AnsSpr := AnsBuf
abbrev AnsISpr := AnsIBuf
end Go.Proofs.Ytnadihepgmbhaaa
