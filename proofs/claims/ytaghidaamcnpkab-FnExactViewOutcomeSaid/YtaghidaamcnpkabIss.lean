/-
  Lists of lists of numbers: in memory, compared, marked, held.
-/
import Derived.Test.YtaghidaamcnpkabEq
import Derived.Test.YtaghidaamcnpkabVec
namespace Go.Proofs.Ytaghidaamcnpkab
open Go.RowKit Pl Go.BigFrame
set_option maxHeartbeats 4000000
set_option maxRecDepth 100000
set_option linter.unusedVariables false

abbrev Iss := List (List Int)
def vsIss (L : Iss) : List (List Value) := L.map ints
@[simp] theorem vsIss_length (L : Iss) : (vsIss L).length = L.length := by simp [vsIss]
theorem vsIss_at {L : Iss} {i : Nat} {xs : List Int} (h : L[i]? = some xs) : (vsIss L)[i]? = some (ints xs) := by simp [vsIss, h]
theorem vsIss_inv {L : Iss} {i : Nat} {vs : List Value} (h : (vsIss L)[i]? = some vs) : ∃ xs, L[i]? = some xs ∧ vs = ints xs := by
  simp only [vsIss, List.getElem?_map, Option.map_eq_some_iff] at h
  obtain ⟨xs, h1, h2⟩ := h
  exact ⟨xs, h1, h2.symm⟩
structure IssH where
  A : Option Addr
  c : Nat
abbrev IssV (h : IssH) (o : Iss) : Value := .slice h.A o.length h.c
structure IssR (w : World) (B : Nat) (h : IssH) (o : Iss) : Prop where
  v : Vss w B h.A (vsIss o)
structure IssL (o : Iss) (m : Nat) : Prop where
  l0 : o.length ≤ m
  l1 : tot o ≤ m
abbrev IssS (o : Iss) : Prop := IssL o 1048576
theorem IssS_L {o : Iss} (s : IssS o) : IssL o maxLen := ⟨Nat.le_trans s.l0 (by unfold maxLen; omega), Nat.le_trans s.l1 (by unfold maxLen; omega)⟩
structure IssO (w : World) (lo hi : Nat) (h : IssH) (o : Iss) : Prop where
  o0 : OwnVss w lo hi 25 3 h.A (vsIss o)
theorem IssR.below {w w' : World} {B B' : Nat} {h : IssH} {o : Iss} (r : IssR w B h o) (hb : Below B' w w') (hB : B ≤ B') : IssR w' B h o := ⟨r.v.below hb hB⟩
theorem IssR.up {w w' : World} {B B' B'' : Nat} {h : IssH} {o : Iss} (r : IssR w B h o) (hb : Below B' w w') (hB : B ≤ B') (hB2 : B ≤ B'') : IssR w' B'' h o := ⟨r.v.up hb hB hB2⟩
theorem IssO.rd {w : World} {lo hi : Nat} {h : IssH} {o : Iss} (r : IssO w lo hi h o) : IssR w hi h o := ⟨r.o0.vss⟩
theorem IssO.below {w w' : World} {lo hi B : Nat} {h : IssH} {o : Iss} (r : IssO w lo hi h o) (hb : Below B w w') (hB : hi ≤ B) : IssO w' lo hi h o := ⟨r.o0.below hb hB⟩
theorem IssO.keep {w w' : World} {lo hi lo' hi' : Nat} {h : IssH} {o : Iss} (r : IssO w lo hi h o) (hl : lo' ≤ lo) (hh : hi ≤ hi') (hk : ∀ i, lo ≤ i → i < hi → w'.heap[i]? = w.heap[i]?) : IssO w' lo' hi' h o := ⟨r.o0.keep hl hh hk⟩

/-- Lengths alone: of the list, and of each row. -/
structure IssM (o : Iss) (m : Nat) : Prop where
  l0 : o.length ≤ m
  l1 : ∀ xs ∈ o, xs.length ≤ m
theorem IssL.m {o : Iss} {m : Nat} (h : IssL o m) : IssM o m := ⟨h.l0, fun xs hx => by obtain ⟨i, hi⟩ := List.getElem?_of_mem hx; exact Nat.le_trans (tot_mem hi) h.l1⟩
theorem eqIss_m (k1 k2 : IssH) (L1 L2 : Iss) (w : World) (B : Nat) (r1 : IssR w B k1 L1) (r2 : IssR w B k2 L2) (hB : B ≤ w.heap.size) (S1 : IssM L1 maxLen) (S2 : IssM L2 maxLen) (r : Bool) (hr : Hid (decide (L1 = L2) = r)) :
    Calls Try.prog 57 #[IssV k1 L1, IssV k2 L2] w fun e w' => e = .returned (.bool r) ∧ Below w.heap.size w w' := by
  obtain ⟨A1, c1⟩ := k1
  obtain ⟨A2, c2⟩ := k2
  obtain ⟨hm1, ht1⟩ := S1
  obtain ⟨hm2, ht2⟩ := S2
  obtain ⟨h1⟩ := r1
  obtain ⟨h2⟩ := r2
  unfold maxLen at hm1 hm2 ht1 ht2
  have h1 : Vss w B A1 (vsIss L1) := h1
  have h2 : Vss w B A2 (vsIss L2) := h2
  show Calls Try.prog 57 #[.slice A1 L1.length c1, .slice A2 L2.length c2] w _
  by_cases hne : L1.length = L2.length
  · have heq : ((L1.length : Int) != (L2.length : Int)) = false := by simp [hne]
    have hle : L1.length ≤ L2.length := by omega
    have hge : L2.length ≤ L1.length := by omega
    clear hne
    go_enter Try.func57, Try.ntmps57
    go_wp2
    go_loopw [5] (fun i wr => ∃ k : Nat, k ≤ L1.length ∧ i = .int .i64 k ∧ Below w.heap.size w wr ∧ Hid (decide (L1.drop k = L2.drop k) = r)) (fun i _ => L1.length - (intOf i).toNat)
    case atStart => exact ⟨0, Nat.zero_le _, rfl, Below.refl _ _, by simpa using hr⟩
    case round =>
      obtain ⟨k, hk, rfl, hbel, hrest⟩ := hrel
      clear hr heq
      by_cases hlt : k < L1.length
      · obtain ⟨xs, hxs, hd1⟩ := drop_at hlt
        obtain ⟨ys, hys, hd2⟩ := drop_at (show k < L2.length by omega)
        obtain ⟨b1, off1, Ai, ci, rfl, hb1, hx0, hrx⟩ := (h1.below hbel hB).at_ (vsIss_at hxs)
        obtain ⟨b2, off2, Aj, cj, rfl, hb2, hy0, hry⟩ := (h2.below hbel hB).at_ (vsIss_at hys)
        rw [ints_length] at hx0 hy0
        have hlx : xs.length ≤ 9223372036854775807 := ht1 xs (List.mem_of_getElem? hxs)
        have hly : ys.length ≤ 9223372036854775807 := ht2 ys (List.mem_of_getElem? hys)
        have hz := hbel.size
        have hi1 : (k : Int) < (L1.length : Int) := by omega
        have hi2 : (k : Int) < (L2.length : Int) := by omega
        have Hd1 := Lib.hid hd1
        have Hd2 := Lib.hid hd2
        have Gx := Lib.hid (fun x : Ws (Fr wr []) => hrx.below x.ok.below (by omega))
        have Gy := Lib.hid (fun x : Ws (Fr wr []) => hry.below x.ok.below (by omega))
        have hS := fr_none wr
        have gx0 := Ws.same (bs := []) (by omega) hx0
        have gy0 := Ws.same (bs := []) (by omega) hy0
        haveI hne := Nonempty.intro (Ws.mk _ hS)
        have HS := Lib.hid hS
        clear hS hd1 hd2 hx0 hy0 h1 h2 hrx hry hxs hys
        rcases Bool.eq_false_or_eq_true (decide (xs = ys)) with he | he
        all_goals
          have He := Lib.hid he
          clear he
          go_wp2_with fail
          refine region_in (by kernel_rfl) HS.out.drew ?_
          repeat (go_big_quiet_step ((go_at_call 13; exact call_in (eqInt_any Ai Aj xs ys ci cj _ B (Gx.out _) (Gy.out _) (by unfold maxLen; omega) (by unfold maxLen; omega) _ He))))
          refine wpQuiet_nil ?_
          rintro w2 ⟨⟨_, hw2⟩, rfl⟩
          have hB2 : Below w.heap.size w w2 := below_on hbel hw2.below
          clear gx0 gy0
          go_wp2
        · go_roundw
          case rel => exact ⟨k + 1, by omega, by go_num, hB2, by
            have hxy : xs = ys := of_decide_eq_true He.out
            have := hrest.out
            rw [Hd1.out, Hd2.out, hxy] at this
            exact Lib.hid (by rw [← this]; simp)⟩
          case measure => simp [intOf]; omega
        · go_ret
          refine ⟨?_, hB2⟩
          have hxy : xs ≠ ys := of_decide_eq_false He.out
          have := hrest.out
          rw [Hd1.out, Hd2.out] at this
          rw [← this]
          simp [hxy]
      · have hlast : Hid (r = true) := Lib.hid (by
          have := hrest.out
          rw [List.drop_eq_nil_of_le (by omega), List.drop_eq_nil_of_le (by omega)] at this
          rw [← this]; rfl)
        go_wp2
        go_ret
        exact ⟨by rw [hlast.out]; rfl, hbel⟩
  · have hlast : Hid (r = false) := Lib.hid (by rw [← hr.out]; exact decide_eq_false (fun e => hne (by rw [e])))
    have heq : ((L1.length : Int) != (L2.length : Int)) = true := by simp; omega
    clear hr
    go_enter Try.func57, Try.ntmps57
    go_wp2
    go_ret
    exact ⟨by rw [hlast.out]; rfl, Below.refl _ _⟩

theorem eqIss_any (k1 k2 : IssH) (L1 L2 : Iss) (w : World) (B : Nat) (r1 : IssR w B k1 L1) (r2 : IssR w B k2 L2) (hB : B ≤ w.heap.size) (S1 : IssL L1 maxLen) (S2 : IssL L2 maxLen) (r : Bool) (hr : Hid (decide (L1 = L2) = r)) :
    Calls Try.prog 57 #[IssV k1 L1, IssV k2 L2] w fun e w' => e = .returned (.bool r) ∧ Below w.heap.size w w' := eqIss_m k1 k2 L1 L2 w B r1 r2 hB S1.m S2.m r hr

/-! ### marks -/
/-- The rows behind marks. -/
def upIss : Int → Iss → Iss
  | _, [] => []
  | K, x :: r => upI K x.length :: upIss (K + (x.length : Int)) r
theorem upIss_length : ∀ (L : Iss) (K : Int), (upIss K L).length = L.length := by
  intro L
  induction L with
  | nil => intro K; rfl
  | cons x r ih => intro K; simp [upIss, ih]
theorem upIss_at : ∀ {L : Iss} {K : Int} {i : Nat} {xs : List Int}, L[i]? = some xs → (upIss K L)[i]? = some (upI (K + (tot (L.take i) : Int)) xs.length) := by
  intro L
  induction L with
  | nil => intro K i xs h; simp at h
  | cons y r ih =>
    intro K i xs h
    cases i with
    | zero => simp at h; subst h; simp [upIss, tot]
    | succ i =>
      simp at h
      rw [upIss, List.getElem?_cons_succ, ih h, List.take_succ_cons, tot_cons]
      congr 2
      rw [Int.natCast_add]; omega
theorem upIss_inv {L : Iss} {K : Int} {i : Nat} {xs : List Int} (h : (upIss K L)[i]? = some xs) : ∃ ys, L[i]? = some ys ∧ xs = upI (K + (tot (L.take i) : Int)) ys.length := by
  have hl := (List.getElem?_eq_some_iff.1 h).1
  rw [upIss_length] at hl
  refine ⟨L[i], List.getElem?_eq_getElem hl, ?_⟩
  rw [upIss_at (List.getElem?_eq_getElem hl)] at h
  injection h with h
  exact h.symm
def allIss (L : Iss) : Int := (tot L : Int)
def MkIss (w wr : World) (lo hi g : Nat) (cs : Array Value) (D : Nat → Option Addr) (L : Iss) (K : Int) (k : Nat) : Prop :=
  Only lo hi w wr ∧ Bk wr g 25 cs ∧ ∀ (i : Nat) (xs : List Int), L[i]? = some xs → OwnVs wr lo hi 3 (D i) (ints (if i < k then upI (K + (tot (L.take i) : Int)) xs.length else xs))
theorem MkIss.next {w wr w1 : World} {lo hi g : Nat} {cs : Array Value} {D : Nat → Option Addr} {L : Iss} {K : Int} {k gk : Nat} {xs : List Int} (h : MkIss w wr lo hi g cs D L K k)
    (hd : ∀ i j xs ys, i < j → L[i]? = some xs → L[j]? = some ys → 0 < xs.length → 0 < ys.length → D i ≠ D j) (hx : L[k]? = some xs) (h0 : 0 < xs.length) (hDk : D k = some ⟨gk, 0, none⟩) (hlo : lo ≤ gk) (hhi : gk < hi) (hb : ∃ c0, Bk wr gk 3 c0)
    (hm : MarkV wr w1 gk 3 (ints (upI (K + (tot (L.take k) : Int)) xs.length)) (ints (upI (K + (tot (L.take k) : Int)) xs.length)).length) : MkIss w w1 lo hi g cs D L K (k + 1) := by
  obtain ⟨o, b, r⟩ := h
  obtain ⟨c0, hb⟩ := hb
  have hne : g ≠ gk := by
    intro e; subst e
    unfold Bk at b hb; rw [b] at hb
    injection hb with hb; injection hb with _ hb; cases hb
  have hkeep : ∀ q, q ≠ gk → q < wr.heap.size → w1.heap[q]? = wr.heap[q]? := fun q hq hql => hm.1.block q hql (by omega)
  refine ⟨o.trans (hm.1.mono hlo (by omega)), (hkeep g hne b.lt).trans b, fun i ys hi => ?_⟩
  by_cases e : i = k
  · subst e
    obtain rfl : xs = ys := by rw [hx] at hi; injection hi
    rw [if_pos (by omega), hDk]
    exact hm.done.keep hlo (by omega) fun _ _ _ => rfl
  · have hr := r i ys hi
    have e2 : (if i < k + 1 then upI (K + (tot (L.take i) : Int)) ys.length else ys) = if i < k then upI (K + (tot (L.take i) : Int)) ys.length else ys := by
      by_cases h1 : i < k
      · rw [if_pos h1, if_pos (by omega)]
      · rw [if_neg h1, if_neg (by omega)]
    rw [e2]
    intro hn
    obtain ⟨q, cq, hA, h1, h2, h3, h4⟩ := hr hn
    have hyl : 0 < ys.length := by
      rw [ints_length] at hn
      by_cases h5 : i < k
      · rw [if_pos h5, upI_length] at hn; exact hn
      · rw [if_neg h5] at hn; exact hn
    refine ⟨q, cq, hA, h1, h2, (hkeep q (fun e3 => ?_) h3.lt).trans h3, h4⟩
    subst e3
    rcases Nat.lt_or_ge i k with h6 | h6
    · exact hd i k ys xs h6 hi hx hyl h0 (by rw [hA, hDk])
    · exact hd k i xs ys (by omega) hx hi h0 hyl (by rw [hA, hDk])
theorem MkIss.skip {w wr : World} {lo hi g : Nat} {cs : Array Value} {D : Nat → Option Addr} {L : Iss} {K : Int} {k : Nat} {xs : List Int} (h : MkIss w wr lo hi g cs D L K k) (hx : L[k]? = some xs) (h0 : xs.length = 0) : MkIss w wr lo hi g cs D L K (k + 1) := by
  obtain ⟨o, b, r⟩ := h
  refine ⟨o, b, fun i ys hi => ?_⟩
  by_cases e : i = k
  · subst e
    obtain rfl : xs = ys := by rw [hx] at hi; injection hi
    intro hn
    rw [if_pos (by omega), ints_length, upI_length] at hn
    omega
  · have e2 : (if i < k + 1 then upI (K + (tot (L.take i) : Int)) ys.length else ys) = if i < k then upI (K + (tot (L.take i) : Int)) ys.length else ys := by
      by_cases h1 : i < k
      · rw [if_pos h1, if_pos (by omega)]
      · rw [if_neg h1, if_neg (by omega)]
    rw [e2]; exact r i ys hi
theorem markIss_any (h : IssH) (L : Iss) (K : Int) (w : World) (lo hi : Nat) (hO : IssO w lo hi h L) (hhi : hi ≤ w.heap.size) (hL : IssL L 1048576) (hK : 0 ≤ K) (hK2 : K ≤ 100000000) :
    Calls Try.prog 60 #[IssV h L, .int .i64 K] w fun e w' => e = .returned (.int .i64 (K + allIss L)) ∧ Only lo hi w w' ∧ IssO w' lo hi h (upIss K L) := by
  obtain ⟨hl, ht⟩ := hL
  obtain ⟨A, c⟩ := h
  unfold allIss
  by_cases hn : 0 < L.length
  · obtain ⟨g, cs, D, C, hA, hg1, hg2, hbk, hx, hd⟩ := hO.o0 (by rw [vsIss_length]; exact hn)
    obtain rfl : A = some ⟨g, 0, none⟩ := hA
    have start : Hid (MkIss w w lo hi g cs D L K 0) := Lib.hid ⟨Only.refl _ _ _, hbk, fun i xs hi => by rw [if_neg (by omega)]; exact (hx i _ (vsIss_at hi)).2⟩
    have Hx := Lib.hid (fun i xs hi => (hx i _ (vsIss_at (i := i) (xs := xs) hi)).1)
    have Hd := Lib.hid (fun i j (xs ys : List Int) hij hi hj (h1 : 0 < xs.length) (h2 : 0 < ys.length) => hd i j _ _ hij (vsIss_at hi) (vsIss_at hj) (by rw [ints_length]; exact h1) (by rw [ints_length]; exact h2))
    have Hg1 := Lib.hid hg1
    have Hg2 := Lib.hid hg2
    clear hbk hO hx hd hg1 hg2
    show Calls Try.prog 60 #[.slice (some ⟨g, 0, none⟩) L.length c, .int .i64 K] w _
    go_enter Try.func60, Try.ntmps60
    go_wp2
    go_loopw [1, 5] (fun q i wr => ∃ k : Nat, k ≤ L.length ∧ i = .int .i64 k ∧ q = .int .i64 (K + (tot (L.take k) : Int)) ∧ MkIss w wr lo hi g cs D L K k) (fun _ i _ => L.length - (intOf i).toNat)
    case atStart => exact ⟨0, Nat.zero_le _, rfl, by simp [tot], start.out⟩
    case round =>
      obtain ⟨k, hk, rfl, rfl, hmk⟩ := hrel
      clear start
      have htk := tot_take_le L k
      by_cases hlt : k < L.length
      · have hxk : L[k]? = some L[k] := List.getElem?_eq_getElem hlt
        obtain ⟨xs, hxs⟩ : ∃ xs, L[k]? = some xs := ⟨_, hxk⟩
        have h1 := Hx.out k xs hxs
        rw [ints_length] at h1
        have hcell := (hmk.2.1.cell k).trans h1
        have htot := tot_take_succ hxs
        have hxl : xs.length ≤ 1048576 := by have := tot_take_le L (k + 1); omega
        have Hxs := Lib.hid hxs
        have Htot := Lib.hid htot
        have Hmk := Lib.hid hmk
        clear hxk h1 hxs htot hmk
        by_cases h0 : xs.length = 0
        · rw [h0] at hcell
          go_wp2_with (go_at_call 15; refine (markInt_none _ _ _ _ (by omega) (by omega)).mono ?_; rintro e w' ⟨rfl, rfl⟩)
          go_roundw
          case rel => exact ⟨k + 1, by omega, by go_num, by rw [Htot.out, h0]; go_num, Hmk.out.skip Hxs.out h0⟩
          case measure => simp [intOf]; omega
        · have hrow := Hmk.out.2.2 k xs Hxs.out
          rw [if_neg (by omega)] at hrow
          obtain ⟨gk, c0, hDk, hlo, hhi', hbk, hcs⟩ := hrow (by rw [ints_length]; omega)
          have hsz : xs.length ≤ c0.size := by
            obtain ⟨v, hv⟩ : ∃ v, (ints xs)[xs.length - 1]? = some v := ⟨_, List.getElem?_eq_getElem (by rw [ints_length]; omega)⟩
            have := (Array.getElem?_eq_some_iff.1 (hcs _ v hv)).1
            omega
          rw [hDk] at hcell
          have HDk := Lib.hid hDk
          have Hbk := Lib.hid hbk
          have Hlo := Lib.hid hlo
          have Hhi := Lib.hid hhi'
          have h00 : 0 < xs.length := by omega
          clear hDk hbk hcs hlo hhi' h0
          go_wp2_with (go_at_call 15; refine (markInt_any xs.length gk _ c0 _ _ Hbk.out hsz hxl (by omega) (by omega)).mono ?_; rintro e w1 ⟨rfl, hm1⟩; have Next := Lib.hid (Hmk.out.next Hd.out Hxs.out h00 HDk.out Hlo.out Hhi.out ⟨_, Hbk.out⟩ hm1); clear hm1)
          go_roundw
          case rel => exact ⟨k + 1, by omega, by go_num, by rw [Htot.out]; go_num, Next.out⟩
          case measure => simp [intOf]; omega
      · have hkl : k = L.length := by omega
        subst hkl
        have Hmk := Lib.hid hmk
        rw [List.take_length] at *
        clear hmk
        go_wp2
        go_ret
        refine ⟨rfl, Hmk.out.1, ⟨fun _ => ?_⟩⟩
        refine ⟨g, cs, D, C, rfl, Hg1.out, Hg2.out, Hmk.out.2.1, fun i vs hi => ?_, fun i j vs us hij hi hj h5 h6 => ?_⟩
        · obtain ⟨ys, hy, rfl⟩ := vsIss_inv hi
          obtain ⟨xs, hL, rfl⟩ := upIss_inv hy
          have hil := (List.getElem?_eq_some_iff.1 hL).1
          have a1 := Hx.out i xs hL
          have a2 := Hmk.out.2.2 i xs hL
          rw [if_pos hil] at a2
          rw [ints_length] at a1
          rw [ints_length, upI_length]
          exact ⟨a1, a2⟩
        · obtain ⟨ys, hy, rfl⟩ := vsIss_inv hi
          obtain ⟨xs, hL, rfl⟩ := upIss_inv hy
          obtain ⟨ys', hy', rfl⟩ := vsIss_inv hj
          obtain ⟨xs', hL', rfl⟩ := upIss_inv hy'
          rw [ints_length, upI_length] at h5 h6
          exact Hd.out i j _ _ hij hL hL' h5 h6
  · have hL : L = [] := List.eq_nil_of_length_eq_zero (by omega)
    subst hL
    show Calls Try.prog 60 #[.slice A 0 c, .int .i64 K] w _
    go_enter Try.func60, Try.ntmps60
    go_wp2
    refine wp_loop_rounds 1 ?_
    rw [rounds_succ]
    go_wp2
    go_ret
    exact ⟨by simp [tot], Only.refl _ _ _, ⟨OwnVss.nil _ _ _ _ _ _⟩⟩
end Go.Proofs.Ytaghidaamcnpkab
