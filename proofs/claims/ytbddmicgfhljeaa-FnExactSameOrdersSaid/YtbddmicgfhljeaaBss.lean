/-
  Lists of lists of truths: in memory, compared, marked, held.
-/
import Derived.Test.YtbddmicgfhljeaaVs
import Derived.Test.YtbddmicgfhljeaaVec
import Derived.Test.YtbddmicgfhljeaaEq
namespace Go.Proofs.Ytbddmicgfhljeaa
open Go.RowKit Pl
set_option linter.unusedVariables false

/-- A slice's address leads to these rows, below block B. -/
def Vss (w : World) (B : Nat) (A : Option Addr) (V : List (List Value)) : Prop :=
  0 < V.length → ∃ b off, A = some ⟨b, off, none⟩ ∧ b < B ∧ ∀ (i : Nat) (vs : List Value), V[i]? = some vs → ∃ Ai ci, w.cell? ⟨b, off + i, none⟩ = some (.slice Ai vs.length ci) ∧ Vs w B Ai vs
theorem Vss.keep {w w' : World} {B B' : Nat} {A : Option Addr} {V : List (List Value)} (h : Vss w B A V) (hB : B ≤ B') (hk : ∀ b o, b < B → w'.cell? ⟨b, o, none⟩ = w.cell? ⟨b, o, none⟩) : Vss w' B' A V := fun hn => by
  obtain ⟨b, off, hA, hb, hx⟩ := h hn
  refine ⟨b, off, hA, by omega, fun i vs hi => ?_⟩
  obtain ⟨Ai, ci, hc, hr⟩ := hx i vs hi
  exact ⟨Ai, ci, (hk b _ hb).trans hc, hr.keep hB hk⟩
theorem Vss.below {w w' : World} {B B' : Nat} {A : Option Addr} {V : List (List Value)} (h : Vss w B A V) (hb : Below B' w w') (hB : B ≤ B') : Vss w' B A V :=
  h.keep (Nat.le_refl _) fun b o hlt => hb.cell (p := ⟨b, o, none⟩) (by show b < B'; omega)
theorem Vss.up {w w' : World} {B B' B'' : Nat} {A : Option Addr} {V : List (List Value)} (h : Vss w B A V) (hb : Below B' w w') (hB : B ≤ B') (hB2 : B ≤ B'') : Vss w' B'' A V :=
  h.keep hB2 fun b o hlt => hb.cell (p := ⟨b, o, none⟩) (by show b < B'; omega)
theorem Vss.at_ {w : World} {B : Nat} {A : Option Addr} {V : List (List Value)} (h : Vss w B A V) {i : Nat} {vs : List Value} (hi : V[i]? = some vs) :
    ∃ b off Ai ci, A = some ⟨b, off, none⟩ ∧ b < B ∧ w.cell? ⟨b, off + i, none⟩ = some (.slice Ai vs.length ci) ∧ Vs w B Ai vs := by
  have hl := (List.getElem?_eq_some_iff.1 hi).1
  obtain ⟨b, off, hA, hb, hx⟩ := h (by omega)
  obtain ⟨Ai, ci, hc, hr⟩ := hx i vs hi
  exact ⟨b, off, Ai, ci, hA, hb, hc, hr⟩

/-- Rows of the call's own: each in a block that no other one has. -/
def OwnVss (w : World) (lo hi : Nat) (t te : TypeId) (A : Option Addr) (V : List (List Value)) : Prop :=
  0 < V.length → ∃ (g : Nat) (cs : Array Value) (D : Nat → Option Addr) (C : Nat → Nat), A = some ⟨g, 0, none⟩ ∧ lo ≤ g ∧ g < hi ∧ Bk w g t cs ∧
    (∀ (i : Nat) (vs : List Value), V[i]? = some vs → cs[i]? = some (.slice (D i) vs.length (C i)) ∧ OwnVs w lo hi te (D i) vs) ∧
    ∀ i j vs us, i < j → V[i]? = some vs → V[j]? = some us → 0 < vs.length → 0 < us.length → D i ≠ D j
theorem OwnVss.vss {w : World} {lo hi : Nat} {t te : TypeId} {A : Option Addr} {V : List (List Value)} (h : OwnVss w lo hi t te A V) : Vss w hi A V := fun hn => by
  obtain ⟨g, cs, D, C, hA, _, hg, hb, hx, _⟩ := h hn
  exact ⟨g, 0, hA, hg, fun i vs hi => ⟨D i, C i, by rw [Nat.zero_add]; exact (hb.cell i).trans (hx i vs hi).1, (hx i vs hi).2.vs⟩⟩
theorem OwnVss.keep {w w' : World} {lo hi lo' hi' : Nat} {t te : TypeId} {A : Option Addr} {V : List (List Value)} (h : OwnVss w lo hi t te A V) (hl : lo' ≤ lo) (hh : hi ≤ hi') (hk : ∀ i, lo ≤ i → i < hi → w'.heap[i]? = w.heap[i]?) : OwnVss w' lo' hi' t te A V := fun hn => by
  obtain ⟨g, cs, D, C, hA, h0, hg, hb, hx, hd⟩ := h hn
  exact ⟨g, cs, D, C, hA, by omega, by omega, (hk g h0 hg).trans hb, fun i vs hi => ⟨(hx i vs hi).1, (hx i vs hi).2.keep hl hh hk⟩, hd⟩
theorem OwnVss.below {w w' : World} {lo hi B : Nat} {t te : TypeId} {A : Option Addr} {V : List (List Value)} (h : OwnVss w lo hi t te A V) (hb : Below B w w') (hB : hi ≤ B) : OwnVss w' lo hi t te A V :=
  h.keep (Nat.le_refl _) (Nat.le_refl _) fun i _ hi => hb.block i (by omega)
theorem OwnVss.nil (w : World) (lo hi : Nat) (t te : TypeId) (A : Option Addr) : OwnVss w lo hi t te A [] := fun h => absurd h (by simp)

/-- How many values there are in all rows. -/
def tot {α : Type} (L : List (List α)) : Nat := (L.map List.length).sum
theorem tot_cons {α : Type} (x : List α) (r : List (List α)) : tot (x :: r) = x.length + tot r := by simp [tot]
theorem tot_take_succ {α : Type} {L : List (List α)} {k : Nat} {xs : List α} (h : L[k]? = some xs) : tot (L.take (k + 1)) = tot (L.take k) + xs.length := by
  rw [List.take_add_one, h]
  simp [tot]
theorem tot_take_le {α : Type} (L : List (List α)) (k : Nat) : tot (L.take k) ≤ tot L := by
  have : tot L = tot (L.take k) + tot (L.drop k) := by
    simp only [tot, List.map_take, List.map_drop]
    rw [← List.sum_append, List.take_append_drop]
  omega
theorem tot_mem {α : Type} {L : List (List α)} {k : Nat} {xs : List α} (h : L[k]? = some xs) : xs.length ≤ tot L := by
  have := tot_take_succ h
  have := tot_take_le L (k + 1)
  omega
end Go.Proofs.Ytbddmicgfhljeaa
namespace Go.Proofs.Ytbddmicgfhljeaa
open Go.RowKit Pl Go.BigFrame
set_option maxHeartbeats 4000000
set_option maxRecDepth 100000
set_option linter.unusedVariables false

abbrev Bss := List (List Bool)
def vsBss (L : Bss) : List (List Value) := L.map bools
@[simp] theorem vsBss_length (L : Bss) : (vsBss L).length = L.length := by simp [vsBss]
theorem vsBss_at {L : Bss} {i : Nat} {xs : List Bool} (h : L[i]? = some xs) : (vsBss L)[i]? = some (bools xs) := by simp [vsBss, h]
theorem vsBss_inv {L : Bss} {i : Nat} {vs : List Value} (h : (vsBss L)[i]? = some vs) : ∃ xs, L[i]? = some xs ∧ vs = bools xs := by
  simp only [vsBss, List.getElem?_map, Option.map_eq_some_iff] at h
  obtain ⟨xs, h1, h2⟩ := h
  exact ⟨xs, h1, h2.symm⟩
structure BssH where
  A : Option Addr
  c : Nat
abbrev BssV (h : BssH) (o : Bss) : Value := .slice h.A o.length h.c
structure BssR (w : World) (B : Nat) (h : BssH) (o : Bss) : Prop where
  v : Vss w B h.A (vsBss o)
structure BssL (o : Bss) (m : Nat) : Prop where
  l0 : o.length ≤ m
  l1 : tot o ≤ m
abbrev BssS (o : Bss) : Prop := BssL o 1048576
theorem BssS_L {o : Bss} (s : BssS o) : BssL o maxLen := ⟨Nat.le_trans s.l0 (by unfold maxLen; omega), Nat.le_trans s.l1 (by unfold maxLen; omega)⟩
structure BssO (w : World) (lo hi : Nat) (h : BssH) (o : Bss) : Prop where
  o0 : OwnVss w lo hi 88 4 h.A (vsBss o)
theorem BssR.below {w w' : World} {B B' : Nat} {h : BssH} {o : Bss} (r : BssR w B h o) (hb : Below B' w w') (hB : B ≤ B') : BssR w' B h o := ⟨r.v.below hb hB⟩
theorem BssR.up {w w' : World} {B B' B'' : Nat} {h : BssH} {o : Bss} (r : BssR w B h o) (hb : Below B' w w') (hB : B ≤ B') (hB2 : B ≤ B'') : BssR w' B'' h o := ⟨r.v.up hb hB hB2⟩
theorem BssO.rd {w : World} {lo hi : Nat} {h : BssH} {o : Bss} (r : BssO w lo hi h o) : BssR w hi h o := ⟨r.o0.vss⟩
theorem BssO.below {w w' : World} {lo hi B : Nat} {h : BssH} {o : Bss} (r : BssO w lo hi h o) (hb : Below B w w') (hB : hi ≤ B) : BssO w' lo hi h o := ⟨r.o0.below hb hB⟩
theorem BssO.keep {w w' : World} {lo hi lo' hi' : Nat} {h : BssH} {o : Bss} (r : BssO w lo hi h o) (hl : lo' ≤ lo) (hh : hi ≤ hi') (hk : ∀ i, lo ≤ i → i < hi → w'.heap[i]? = w.heap[i]?) : BssO w' lo' hi' h o := ⟨r.o0.keep hl hh hk⟩

theorem eqBss_any (k1 k2 : BssH) (L1 L2 : Bss) (w : World) (B : Nat) (r1 : BssR w B k1 L1) (r2 : BssR w B k2 L2) (hB : B ≤ w.heap.size) (S1 : BssL L1 maxLen) (S2 : BssL L2 maxLen) (r : Bool) (hr : Hid (decide (L1 = L2) = r)) :
    Calls Try.prog 52 #[BssV k1 L1, BssV k2 L2] w fun e w' => e = .returned (.bool r) ∧ Below w.heap.size w w' := by
  obtain ⟨A1, c1⟩ := k1
  obtain ⟨A2, c2⟩ := k2
  obtain ⟨hm1, ht1⟩ := S1
  obtain ⟨hm2, ht2⟩ := S2
  obtain ⟨h1⟩ := r1
  obtain ⟨h2⟩ := r2
  unfold maxLen at hm1 hm2 ht1 ht2
  have h1 : Vss w B A1 (vsBss L1) := h1
  have h2 : Vss w B A2 (vsBss L2) := h2
  show Calls Try.prog 52 #[.slice A1 L1.length c1, .slice A2 L2.length c2] w _
  by_cases hne : L1.length = L2.length
  · have heq : ((L1.length : Int) != (L2.length : Int)) = false := by simp [hne]
    have hle : L1.length ≤ L2.length := by omega
    have hge : L2.length ≤ L1.length := by omega
    clear hne
    go_enter Try.func52, Try.ntmps52
    go_wp2
    go_loopw [5] (fun i wr => ∃ k : Nat, k ≤ L1.length ∧ i = .int .i64 k ∧ Below w.heap.size w wr ∧ Hid (decide (L1.drop k = L2.drop k) = r)) (fun i _ => L1.length - (intOf i).toNat)
    case atStart => exact ⟨0, Nat.zero_le _, rfl, Below.refl _ _, by simpa using hr⟩
    case round =>
      obtain ⟨k, hk, rfl, hbel, hrest⟩ := hrel
      clear hr heq
      by_cases hlt : k < L1.length
      · obtain ⟨xs, hxs, hd1⟩ := drop_at hlt
        obtain ⟨ys, hys, hd2⟩ := drop_at (show k < L2.length by omega)
        obtain ⟨b1, off1, Ai, ci, rfl, hb1, hx0, hrx⟩ := (h1.below hbel hB).at_ (vsBss_at hxs)
        obtain ⟨b2, off2, Aj, cj, rfl, hb2, hy0, hry⟩ := (h2.below hbel hB).at_ (vsBss_at hys)
        rw [bools_length] at hx0 hy0
        have hlx : xs.length ≤ 9223372036854775807 := by have := tot_mem hxs; omega
        have hly : ys.length ≤ 9223372036854775807 := by have := tot_mem hys; omega
        have hz := hbel.size
        have hi1 : (k : Int) < (L1.length : Int) := by omega
        have hi2 : (k : Int) < (L2.length : Int) := by omega
        have Hd1 := Lib.hid hd1
        have Hd2 := Lib.hid hd2
        have Gx := Lib.hid (fun x : Ws (Fr wr []) => hrx.below x.ok.below (by omega))
        have Gy := Lib.hid (fun x : Ws (Fr wr []) => hry.below x.ok.below (by omega))
        have hS := fr_none wr
        have gx0 := Ws.same (bs := []) (by omega) hx0
        have gy0 := Ws.same (bs := []) (by omega) hy0
        haveI hne := Nonempty.intro (Ws.mk _ hS)
        have HS := Lib.hid hS
        clear hS hd1 hd2 hx0 hy0 h1 h2 hrx hry hxs hys
        rcases Bool.eq_false_or_eq_true (decide (xs = ys)) with he | he
        all_goals
          have He := Lib.hid he
          clear he
          go_wp2_with fail
          refine region_in (by kernel_rfl) HS.out.drew ?_
          repeat (go_big_quiet_step ((go_at_call 96; exact call_in (eqBool_any Ai Aj xs ys ci cj _ B (Gx.out _) (Gy.out _) (by unfold maxLen; omega) (by unfold maxLen; omega) _ He))))
          refine wpQuiet_nil ?_
          rintro w2 ⟨⟨_, hw2⟩, rfl⟩
          have hB2 : Below w.heap.size w w2 := below_on hbel hw2.below
          clear gx0 gy0
          go_wp2
        · go_roundw
          case rel => exact ⟨k + 1, by omega, by go_num, hB2, by
            have hxy : xs = ys := of_decide_eq_true He.out
            have := hrest.out
            rw [Hd1.out, Hd2.out, hxy] at this
            exact Lib.hid (by rw [← this]; simp)⟩
          case measure => simp [intOf]; omega
        · go_ret
          refine ⟨?_, hB2⟩
          have hxy : xs ≠ ys := of_decide_eq_false He.out
          have := hrest.out
          rw [Hd1.out, Hd2.out] at this
          rw [← this]
          simp [hxy]
      · have hlast : Hid (r = true) := Lib.hid (by
          have := hrest.out
          rw [List.drop_eq_nil_of_le (by omega), List.drop_eq_nil_of_le (by omega)] at this
          rw [← this]; rfl)
        go_wp2
        go_ret
        exact ⟨by rw [hlast.out]; rfl, hbel⟩
  · have hlast : Hid (r = false) := Lib.hid (by rw [← hr.out]; exact decide_eq_false (fun e => hne (by rw [e])))
    have heq : ((L1.length : Int) != (L2.length : Int)) = true := by simp; omega
    clear hr
    go_enter Try.func52, Try.ntmps52
    go_wp2
    go_ret
    exact ⟨by rw [hlast.out]; rfl, Below.refl _ _⟩

/-! ### marks -/
/-- The rows behind marks. -/
def upBss : Int → Bss → Bss
  | _, [] => []
  | K, x :: r => upB K x.length :: upBss (K + (x.length : Int)) r
theorem upBss_length : ∀ (L : Bss) (K : Int), (upBss K L).length = L.length := by
  intro L
  induction L with
  | nil => intro K; rfl
  | cons x r ih => intro K; simp [upBss, ih]
theorem upBss_at : ∀ {L : Bss} {K : Int} {i : Nat} {xs : List Bool}, L[i]? = some xs → (upBss K L)[i]? = some (upB (K + (tot (L.take i) : Int)) xs.length) := by
  intro L
  induction L with
  | nil => intro K i xs h; simp at h
  | cons y r ih =>
    intro K i xs h
    cases i with
    | zero => simp at h; subst h; simp [upBss, tot]
    | succ i =>
      simp at h
      rw [upBss, List.getElem?_cons_succ, ih h, List.take_succ_cons, tot_cons]
      congr 2
      rw [Int.natCast_add]; omega
theorem upBss_inv {L : Bss} {K : Int} {i : Nat} {xs : List Bool} (h : (upBss K L)[i]? = some xs) : ∃ ys, L[i]? = some ys ∧ xs = upB (K + (tot (L.take i) : Int)) ys.length := by
  have hl := (List.getElem?_eq_some_iff.1 h).1
  rw [upBss_length] at hl
  refine ⟨L[i], List.getElem?_eq_getElem hl, ?_⟩
  rw [upBss_at (List.getElem?_eq_getElem hl)] at h
  injection h with h
  exact h.symm
def allBss (L : Bss) : Int := (tot L : Int)
def MkBss (w wr : World) (lo hi g : Nat) (cs : Array Value) (D : Nat → Option Addr) (L : Bss) (K : Int) (k : Nat) : Prop :=
  Only lo hi w wr ∧ Bk wr g 88 cs ∧ ∀ (i : Nat) (xs : List Bool), L[i]? = some xs → OwnVs wr lo hi 4 (D i) (bools (if i < k then upB (K + (tot (L.take i) : Int)) xs.length else xs))
theorem MkBss.next {w wr w1 : World} {lo hi g : Nat} {cs : Array Value} {D : Nat → Option Addr} {L : Bss} {K : Int} {k gk : Nat} {xs : List Bool} (h : MkBss w wr lo hi g cs D L K k)
    (hd : ∀ i j xs ys, i < j → L[i]? = some xs → L[j]? = some ys → 0 < xs.length → 0 < ys.length → D i ≠ D j) (hx : L[k]? = some xs) (h0 : 0 < xs.length) (hDk : D k = some ⟨gk, 0, none⟩) (hlo : lo ≤ gk) (hhi : gk < hi) (hb : ∃ c0, Bk wr gk 4 c0)
    (hm : MarkV wr w1 gk 4 (bools (upB (K + (tot (L.take k) : Int)) xs.length)) (bools (upB (K + (tot (L.take k) : Int)) xs.length)).length) : MkBss w w1 lo hi g cs D L K (k + 1) := by
  obtain ⟨o, b, r⟩ := h
  obtain ⟨c0, hb⟩ := hb
  have hne : g ≠ gk := by
    intro e; subst e
    unfold Bk at b hb; rw [b] at hb
    injection hb with hb; injection hb with _ hb; cases hb
  have hkeep : ∀ q, q ≠ gk → q < wr.heap.size → w1.heap[q]? = wr.heap[q]? := fun q hq hql => hm.1.block q hql (by omega)
  refine ⟨o.trans (hm.1.mono hlo (by omega)), (hkeep g hne b.lt).trans b, fun i ys hi => ?_⟩
  by_cases e : i = k
  · subst e
    obtain rfl : xs = ys := by rw [hx] at hi; injection hi
    rw [if_pos (by omega), hDk]
    exact hm.done.keep hlo (by omega) fun _ _ _ => rfl
  · have hr := r i ys hi
    have e2 : (if i < k + 1 then upB (K + (tot (L.take i) : Int)) ys.length else ys) = if i < k then upB (K + (tot (L.take i) : Int)) ys.length else ys := by
      by_cases h1 : i < k
      · rw [if_pos h1, if_pos (by omega)]
      · rw [if_neg h1, if_neg (by omega)]
    rw [e2]
    intro hn
    obtain ⟨q, cq, hA, h1, h2, h3, h4⟩ := hr hn
    have hyl : 0 < ys.length := by
      rw [bools_length] at hn
      by_cases h5 : i < k
      · rw [if_pos h5, upB_length] at hn; exact hn
      · rw [if_neg h5] at hn; exact hn
    refine ⟨q, cq, hA, h1, h2, (hkeep q (fun e3 => ?_) h3.lt).trans h3, h4⟩
    subst e3
    rcases Nat.lt_or_ge i k with h6 | h6
    · exact hd i k ys xs h6 hi hx hyl h0 (by rw [hA, hDk])
    · exact hd k i xs ys (by omega) hx hi h0 hyl (by rw [hA, hDk])
theorem MkBss.skip {w wr : World} {lo hi g : Nat} {cs : Array Value} {D : Nat → Option Addr} {L : Bss} {K : Int} {k : Nat} {xs : List Bool} (h : MkBss w wr lo hi g cs D L K k) (hx : L[k]? = some xs) (h0 : xs.length = 0) : MkBss w wr lo hi g cs D L K (k + 1) := by
  obtain ⟨o, b, r⟩ := h
  refine ⟨o, b, fun i ys hi => ?_⟩
  by_cases e : i = k
  · subst e
    obtain rfl : xs = ys := by rw [hx] at hi; injection hi
    intro hn
    rw [if_pos (by omega), bools_length, upB_length] at hn
    omega
  · have e2 : (if i < k + 1 then upB (K + (tot (L.take i) : Int)) ys.length else ys) = if i < k then upB (K + (tot (L.take i) : Int)) ys.length else ys := by
      by_cases h1 : i < k
      · rw [if_pos h1, if_pos (by omega)]
      · rw [if_neg h1, if_neg (by omega)]
    rw [e2]; exact r i ys hi
theorem markBss_any (h : BssH) (L : Bss) (K : Int) (w : World) (lo hi : Nat) (hO : BssO w lo hi h L) (hhi : hi ≤ w.heap.size) (hL : BssL L 1048576) (hK : 0 ≤ K) (hK2 : K ≤ 100000000) :
    Calls Try.prog 53 #[BssV h L, .int .i64 K] w fun e w' => e = .returned (.int .i64 (K + allBss L)) ∧ Only lo hi w w' ∧ BssO w' lo hi h (upBss K L) := by
  obtain ⟨hl, ht⟩ := hL
  obtain ⟨A, c⟩ := h
  unfold allBss
  by_cases hn : 0 < L.length
  · obtain ⟨g, cs, D, C, hA, hg1, hg2, hbk, hx, hd⟩ := hO.o0 (by rw [vsBss_length]; exact hn)
    obtain rfl : A = some ⟨g, 0, none⟩ := hA
    have start : Hid (MkBss w w lo hi g cs D L K 0) := Lib.hid ⟨Only.refl _ _ _, hbk, fun i xs hi => by rw [if_neg (by omega)]; exact (hx i _ (vsBss_at hi)).2⟩
    have Hx := Lib.hid (fun i xs hi => (hx i _ (vsBss_at (i := i) (xs := xs) hi)).1)
    have Hd := Lib.hid (fun i j (xs ys : List Bool) hij hi hj (h1 : 0 < xs.length) (h2 : 0 < ys.length) => hd i j _ _ hij (vsBss_at hi) (vsBss_at hj) (by rw [bools_length]; exact h1) (by rw [bools_length]; exact h2))
    have Hg1 := Lib.hid hg1
    have Hg2 := Lib.hid hg2
    clear hbk hO hx hd hg1 hg2
    show Calls Try.prog 53 #[.slice (some ⟨g, 0, none⟩) L.length c, .int .i64 K] w _
    go_enter Try.func53, Try.ntmps53
    go_wp2
    go_loopw [1, 5] (fun q i wr => ∃ k : Nat, k ≤ L.length ∧ i = .int .i64 k ∧ q = .int .i64 (K + (tot (L.take k) : Int)) ∧ MkBss w wr lo hi g cs D L K k) (fun _ i _ => L.length - (intOf i).toNat)
    case atStart => exact ⟨0, Nat.zero_le _, rfl, by simp [tot], start.out⟩
    case round =>
      obtain ⟨k, hk, rfl, rfl, hmk⟩ := hrel
      clear start
      have htk := tot_take_le L k
      by_cases hlt : k < L.length
      · have hxk : L[k]? = some L[k] := List.getElem?_eq_getElem hlt
        obtain ⟨xs, hxs⟩ : ∃ xs, L[k]? = some xs := ⟨_, hxk⟩
        have h1 := Hx.out k xs hxs
        rw [bools_length] at h1
        have hcell := (hmk.2.1.cell k).trans h1
        have htot := tot_take_succ hxs
        have hxl : xs.length ≤ 1048576 := by have := tot_take_le L (k + 1); omega
        have Hxs := Lib.hid hxs
        have Htot := Lib.hid htot
        have Hmk := Lib.hid hmk
        clear hxk h1 hxs htot hmk
        by_cases h0 : xs.length = 0
        · rw [h0] at hcell
          go_wp2_with (go_at_call 80; refine (markBool_none _ _ _ _ (by omega) (by omega)).mono ?_; rintro e w' ⟨rfl, rfl⟩)
          go_roundw
          case rel => exact ⟨k + 1, by omega, by go_num, by rw [Htot.out, h0]; go_num, Hmk.out.skip Hxs.out h0⟩
          case measure => simp [intOf]; omega
        · have hrow := Hmk.out.2.2 k xs Hxs.out
          rw [if_neg (by omega)] at hrow
          obtain ⟨gk, c0, hDk, hlo, hhi', hbk, hcs⟩ := hrow (by rw [bools_length]; omega)
          have hsz : xs.length ≤ c0.size := by
            obtain ⟨v, hv⟩ : ∃ v, (bools xs)[xs.length - 1]? = some v := ⟨_, List.getElem?_eq_getElem (by rw [bools_length]; omega)⟩
            have := (Array.getElem?_eq_some_iff.1 (hcs _ v hv)).1
            omega
          rw [hDk] at hcell
          have HDk := Lib.hid hDk
          have Hbk := Lib.hid hbk
          have Hlo := Lib.hid hlo
          have Hhi := Lib.hid hhi'
          have h00 : 0 < xs.length := by omega
          clear hDk hbk hcs hlo hhi' h0
          go_wp2_with (go_at_call 80; refine (markBool_any xs.length gk _ c0 _ _ Hbk.out hsz hxl (by omega) (by omega)).mono ?_; rintro e w1 ⟨rfl, hm1⟩; have Next := Lib.hid (Hmk.out.next Hd.out Hxs.out h00 HDk.out Hlo.out Hhi.out ⟨_, Hbk.out⟩ hm1); clear hm1)
          go_roundw
          case rel => exact ⟨k + 1, by omega, by go_num, by rw [Htot.out]; go_num, Next.out⟩
          case measure => simp [intOf]; omega
      · have hkl : k = L.length := by omega
        subst hkl
        have Hmk := Lib.hid hmk
        rw [List.take_length] at *
        clear hmk
        go_wp2
        go_ret
        refine ⟨rfl, Hmk.out.1, ⟨fun _ => ?_⟩⟩
        refine ⟨g, cs, D, C, rfl, Hg1.out, Hg2.out, Hmk.out.2.1, fun i vs hi => ?_, fun i j vs us hij hi hj h5 h6 => ?_⟩
        · obtain ⟨ys, hy, rfl⟩ := vsBss_inv hi
          obtain ⟨xs, hL, rfl⟩ := upBss_inv hy
          have hil := (List.getElem?_eq_some_iff.1 hL).1
          have a1 := Hx.out i xs hL
          have a2 := Hmk.out.2.2 i xs hL
          rw [if_pos hil] at a2
          rw [bools_length] at a1
          rw [bools_length, upB_length]
          exact ⟨a1, a2⟩
        · obtain ⟨ys, hy, rfl⟩ := vsBss_inv hi
          obtain ⟨xs, hL, rfl⟩ := upBss_inv hy
          obtain ⟨ys', hy', rfl⟩ := vsBss_inv hj
          obtain ⟨xs', hL', rfl⟩ := upBss_inv hy'
          rw [bools_length, upB_length] at h5 h6
          exact Hd.out i j _ _ hij hL hL' h5 h6
  · have hL : L = [] := List.eq_nil_of_length_eq_zero (by omega)
    subst hL
    show Calls Try.prog 53 #[.slice A 0 c, .int .i64 K] w _
    go_enter Try.func53, Try.ntmps53
    go_wp2
    refine wp_loop_rounds 1 ?_
    rw [rounds_succ]
    go_wp2
    go_ret
    exact ⟨by simp [tot], Only.refl _ _ _, ⟨OwnVss.nil _ _ _ _ _ _⟩⟩
theorem heldBss_any (h : BssH) (L : Bss) (K : Int) (w : World) (B : Nat) (hR : BssR w B h (upBss K L)) (hB : B ≤ w.heap.size) (hL : BssL L 1048576) (hK : 0 ≤ K) (hK2 : K ≤ 100000000) :
    Calls Try.prog 54 #[BssV h L, .int .i64 K] w fun e w' => e = .returned (.int .i64 (K + allBss L)) ∧ Below w.heap.size w w' := by
  obtain ⟨hl, ht⟩ := hL
  obtain ⟨hr⟩ := hR
  obtain ⟨A, c⟩ := h
  have hr : Vss w B A (vsBss (upBss K L)) := hr
  unfold allBss
  show Calls Try.prog 54 #[.slice A L.length c, .int .i64 K] w _
  go_enter Try.func54, Try.ntmps54
  go_wp2
  go_loop [1, 5] (fun q i => ∃ k : Nat, k ≤ L.length ∧ i = .int .i64 k ∧ q = .int .i64 (K + (tot (L.take k) : Int))) (fun _ i => L.length - (intOf i).toNat)
  case atStart => exact ⟨0, Nat.zero_le _, rfl, by simp [tot]⟩
  case round =>
    obtain ⟨k, hk, rfl, rfl⟩ := hrel
    have htk := tot_take_le L k
    by_cases hlt : k < L.length
    · have hLk : L[k]? = some L[k] := List.getElem?_eq_getElem hlt
      obtain ⟨xs, hxs⟩ : ∃ xs, L[k]? = some xs := ⟨_, hLk⟩
      obtain ⟨b, off, Ai, ci, rfl, hb, hx0, hrow⟩ := hr.at_ (vsBss_at (upBss_at hxs))
      rw [bools_length, upB_length] at hx0
      have htot := tot_take_succ hxs
      have hxl : xs.length ≤ 1048576 := by have := tot_take_le L (k + 1); omega
      have Htot := Lib.hid htot
      clear hLk hxs htot hr
      go_wp2_with (go_at_call 81; refine (heldBool_any Ai xs.length ci _ _ _ hrow hxl (by omega) (by omega)).mono ?_; rintro e w' ⟨rfl, rfl⟩)
      go_round
      case rel => exact ⟨k + 1, by omega, by go_num, by rw [Htot.out]; go_num⟩
      case measure => simp [intOf]; omega
    · have hkl : k = L.length := by omega
      subst hkl
      have e : L.take L.length = L := List.take_length
      rw [e]
      clear hr hlt htk e
      go_wp2
      go_ret
      exact ⟨rfl, Below.refl _ _⟩
end Go.Proofs.Ytbddmicgfhljeaa
