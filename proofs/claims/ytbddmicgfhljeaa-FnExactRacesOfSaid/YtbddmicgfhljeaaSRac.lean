/-
  What the reference model's l4Races and RacesOf come to.
-/
import Derived.Test.YtbddmicgfhljeaaBss
import Derived.Test.YtbddmicgfhljeaaVec
import Derived.Test.YtbddmicgfhljeaaEq
import Derived.Test.YtbddmicgfhljeaaSBef
import Derived.Test.YtbddmicgfhljeaaTwo
namespace Go.Proofs.Ytbddmicgfhljeaa
open Go.RowKit Pl Go.BigFrame
set_option maxHeartbeats 4000000
set_option maxRecDepth 100000
set_option linter.unusedVariables false

abbrev Iss := List (List Int)
def vsIss (L : Iss) : List (List Value) := L.map ints
@[simp] theorem vsIss_length (L : Iss) : (vsIss L).length = L.length := by simp [vsIss]
theorem vsIss_at {L : Iss} {i : Nat} {xs : List Int} (h : L[i]? = some xs) : (vsIss L)[i]? = some (ints xs) := by simp [vsIss, h]
theorem vsIss_inv {L : Iss} {i : Nat} {vs : List Value} (h : (vsIss L)[i]? = some vs) : ∃ xs, L[i]? = some xs ∧ vs = ints xs := by
  simp only [vsIss, List.getElem?_map, Option.map_eq_some_iff] at h
  obtain ⟨xs, h1, h2⟩ := h
  exact ⟨xs, h1, h2.symm⟩
structure IssH where
  A : Option Addr
  c : Nat
abbrev IssV (h : IssH) (o : Iss) : Value := .slice h.A o.length h.c
structure IssR (w : World) (B : Nat) (h : IssH) (o : Iss) : Prop where
  v : Vss w B h.A (vsIss o)
structure IssL (o : Iss) (m : Nat) : Prop where
  l0 : o.length ≤ m
  l1 : tot o ≤ m
abbrev IssS (o : Iss) : Prop := IssL o 1048576
theorem IssS_L {o : Iss} (s : IssS o) : IssL o maxLen := ⟨Nat.le_trans s.l0 (by unfold maxLen; omega), Nat.le_trans s.l1 (by unfold maxLen; omega)⟩
structure IssO (w : World) (lo hi : Nat) (h : IssH) (o : Iss) : Prop where
  o0 : OwnVss w lo hi 25 3 h.A (vsIss o)
theorem IssR.below {w w' : World} {B B' : Nat} {h : IssH} {o : Iss} (r : IssR w B h o) (hb : Below B' w w') (hB : B ≤ B') : IssR w' B h o := ⟨r.v.below hb hB⟩
theorem IssR.up {w w' : World} {B B' B'' : Nat} {h : IssH} {o : Iss} (r : IssR w B h o) (hb : Below B' w w') (hB : B ≤ B') (hB2 : B ≤ B'') : IssR w' B'' h o := ⟨r.v.up hb hB hB2⟩
theorem IssO.rd {w : World} {lo hi : Nat} {h : IssH} {o : Iss} (r : IssO w lo hi h o) : IssR w hi h o := ⟨r.o0.vss⟩
theorem IssO.below {w w' : World} {lo hi B : Nat} {h : IssH} {o : Iss} (r : IssO w lo hi h o) (hb : Below B w w') (hB : hi ≤ B) : IssO w' lo hi h o := ⟨r.o0.below hb hB⟩
theorem IssO.keep {w w' : World} {lo hi lo' hi' : Nat} {h : IssH} {o : Iss} (r : IssO w lo hi h o) (hl : lo' ≤ lo) (hh : hi ≤ hi') (hk : ∀ i, lo ≤ i → i < hi → w'.heap[i]? = w.heap[i]?) : IssO w' lo' hi' h o := ⟨r.o0.keep hl hh hk⟩

theorem eqIss_any (k1 k2 : IssH) (L1 L2 : Iss) (w : World) (B : Nat) (r1 : IssR w B k1 L1) (r2 : IssR w B k2 L2) (hB : B ≤ w.heap.size) (S1 : IssL L1 maxLen) (S2 : IssL L2 maxLen) (r : Bool) (hr : Hid (decide (L1 = L2) = r)) :
    Calls Try.prog 32 #[IssV k1 L1, IssV k2 L2] w fun e w' => e = .returned (.bool r) ∧ Below w.heap.size w w' := by
  obtain ⟨A1, c1⟩ := k1
  obtain ⟨A2, c2⟩ := k2
  obtain ⟨hm1, ht1⟩ := S1
  obtain ⟨hm2, ht2⟩ := S2
  obtain ⟨h1⟩ := r1
  obtain ⟨h2⟩ := r2
  unfold maxLen at hm1 hm2 ht1 ht2
  have h1 : Vss w B A1 (vsIss L1) := h1
  have h2 : Vss w B A2 (vsIss L2) := h2
  show Calls Try.prog 32 #[.slice A1 L1.length c1, .slice A2 L2.length c2] w _
  by_cases hne : L1.length = L2.length
  · have heq : ((L1.length : Int) != (L2.length : Int)) = false := by simp [hne]
    have hle : L1.length ≤ L2.length := by omega
    have hge : L2.length ≤ L1.length := by omega
    clear hne
    go_enter Try.func32, Try.ntmps32
    go_wp2
    go_loopw [5] (fun i wr => ∃ k : Nat, k ≤ L1.length ∧ i = .int .i64 k ∧ Below w.heap.size w wr ∧ Hid (decide (L1.drop k = L2.drop k) = r)) (fun i _ => L1.length - (intOf i).toNat)
    case atStart => exact ⟨0, Nat.zero_le _, rfl, Below.refl _ _, by simpa using hr⟩
    case round =>
      obtain ⟨k, hk, rfl, hbel, hrest⟩ := hrel
      clear hr heq
      by_cases hlt : k < L1.length
      · obtain ⟨xs, hxs, hd1⟩ := drop_at hlt
        obtain ⟨ys, hys, hd2⟩ := drop_at (show k < L2.length by omega)
        obtain ⟨b1, off1, Ai, ci, rfl, hb1, hx0, hrx⟩ := (h1.below hbel hB).at_ (vsIss_at hxs)
        obtain ⟨b2, off2, Aj, cj, rfl, hb2, hy0, hry⟩ := (h2.below hbel hB).at_ (vsIss_at hys)
        rw [ints_length] at hx0 hy0
        have hlx : xs.length ≤ 9223372036854775807 := by have := tot_mem hxs; omega
        have hly : ys.length ≤ 9223372036854775807 := by have := tot_mem hys; omega
        have hz := hbel.size
        have hi1 : (k : Int) < (L1.length : Int) := by omega
        have hi2 : (k : Int) < (L2.length : Int) := by omega
        have Hd1 := Lib.hid hd1
        have Hd2 := Lib.hid hd2
        have Gx := Lib.hid (fun x : Ws (Fr wr []) => hrx.below x.ok.below (by omega))
        have Gy := Lib.hid (fun x : Ws (Fr wr []) => hry.below x.ok.below (by omega))
        have hS := fr_none wr
        have gx0 := Ws.same (bs := []) (by omega) hx0
        have gy0 := Ws.same (bs := []) (by omega) hy0
        haveI hne := Nonempty.intro (Ws.mk _ hS)
        have HS := Lib.hid hS
        clear hS hd1 hd2 hx0 hy0 h1 h2 hrx hry hxs hys
        rcases Bool.eq_false_or_eq_true (decide (xs = ys)) with he | he
        all_goals
          have He := Lib.hid he
          clear he
          go_wp2_with fail
          refine region_in (by kernel_rfl) HS.out.drew ?_
          repeat (go_big_quiet_step ((go_at_call 22; exact call_in (eqInt_any Ai Aj xs ys ci cj _ B (Gx.out _) (Gy.out _) (by unfold maxLen; omega) (by unfold maxLen; omega) _ He))))
          refine wpQuiet_nil ?_
          rintro w2 ⟨⟨_, hw2⟩, rfl⟩
          have hB2 : Below w.heap.size w w2 := below_on hbel hw2.below
          clear gx0 gy0
          go_wp2
        · go_roundw
          case rel => exact ⟨k + 1, by omega, by go_num, hB2, by
            have hxy : xs = ys := of_decide_eq_true He.out
            have := hrest.out
            rw [Hd1.out, Hd2.out, hxy] at this
            exact Lib.hid (by rw [← this]; simp)⟩
          case measure => simp [intOf]; omega
        · go_ret
          refine ⟨?_, hB2⟩
          have hxy : xs ≠ ys := of_decide_eq_false He.out
          have := hrest.out
          rw [Hd1.out, Hd2.out] at this
          rw [← this]
          simp [hxy]
      · have hlast : Hid (r = true) := Lib.hid (by
          have := hrest.out
          rw [List.drop_eq_nil_of_le (by omega), List.drop_eq_nil_of_le (by omega)] at this
          rw [← this]; rfl)
        go_wp2
        go_ret
        exact ⟨by rw [hlast.out]; rfl, hbel⟩
  · have hlast : Hid (r = false) := Lib.hid (by rw [← hr.out]; exact decide_eq_false (fun e => hne (by rw [e])))
    have heq : ((L1.length : Int) != (L2.length : Int)) = true := by simp; omega
    clear hr
    go_enter Try.func32, Try.ntmps32
    go_wp2
    go_ret
    exact ⟨by rw [hlast.out]; rfl, Below.refl _ _⟩

/-! ### marks -/
/-- The rows behind marks. -/
def upIss : Int → Iss → Iss
  | _, [] => []
  | K, x :: r => upI K x.length :: upIss (K + (x.length : Int)) r
theorem upIss_length : ∀ (L : Iss) (K : Int), (upIss K L).length = L.length := by
  intro L
  induction L with
  | nil => intro K; rfl
  | cons x r ih => intro K; simp [upIss, ih]
theorem upIss_at : ∀ {L : Iss} {K : Int} {i : Nat} {xs : List Int}, L[i]? = some xs → (upIss K L)[i]? = some (upI (K + (tot (L.take i) : Int)) xs.length) := by
  intro L
  induction L with
  | nil => intro K i xs h; simp at h
  | cons y r ih =>
    intro K i xs h
    cases i with
    | zero => simp at h; subst h; simp [upIss, tot]
    | succ i =>
      simp at h
      rw [upIss, List.getElem?_cons_succ, ih h, List.take_succ_cons, tot_cons]
      congr 2
      rw [Int.natCast_add]; omega
theorem upIss_inv {L : Iss} {K : Int} {i : Nat} {xs : List Int} (h : (upIss K L)[i]? = some xs) : ∃ ys, L[i]? = some ys ∧ xs = upI (K + (tot (L.take i) : Int)) ys.length := by
  have hl := (List.getElem?_eq_some_iff.1 h).1
  rw [upIss_length] at hl
  refine ⟨L[i], List.getElem?_eq_getElem hl, ?_⟩
  rw [upIss_at (List.getElem?_eq_getElem hl)] at h
  injection h with h
  exact h.symm
def allIss (L : Iss) : Int := (tot L : Int)
def MkIss (w wr : World) (lo hi g : Nat) (cs : Array Value) (D : Nat → Option Addr) (L : Iss) (K : Int) (k : Nat) : Prop :=
  Only lo hi w wr ∧ Bk wr g 25 cs ∧ ∀ (i : Nat) (xs : List Int), L[i]? = some xs → OwnVs wr lo hi 3 (D i) (ints (if i < k then upI (K + (tot (L.take i) : Int)) xs.length else xs))
theorem MkIss.next {w wr w1 : World} {lo hi g : Nat} {cs : Array Value} {D : Nat → Option Addr} {L : Iss} {K : Int} {k gk : Nat} {xs : List Int} (h : MkIss w wr lo hi g cs D L K k)
    (hd : ∀ i j xs ys, i < j → L[i]? = some xs → L[j]? = some ys → 0 < xs.length → 0 < ys.length → D i ≠ D j) (hx : L[k]? = some xs) (h0 : 0 < xs.length) (hDk : D k = some ⟨gk, 0, none⟩) (hlo : lo ≤ gk) (hhi : gk < hi) (hb : ∃ c0, Bk wr gk 3 c0)
    (hm : MarkV wr w1 gk 3 (ints (upI (K + (tot (L.take k) : Int)) xs.length)) (ints (upI (K + (tot (L.take k) : Int)) xs.length)).length) : MkIss w w1 lo hi g cs D L K (k + 1) := by
  obtain ⟨o, b, r⟩ := h
  obtain ⟨c0, hb⟩ := hb
  have hne : g ≠ gk := by
    intro e; subst e
    unfold Bk at b hb; rw [b] at hb
    injection hb with hb; injection hb with _ hb; cases hb
  have hkeep : ∀ q, q ≠ gk → q < wr.heap.size → w1.heap[q]? = wr.heap[q]? := fun q hq hql => hm.1.block q hql (by omega)
  refine ⟨o.trans (hm.1.mono hlo (by omega)), (hkeep g hne b.lt).trans b, fun i ys hi => ?_⟩
  by_cases e : i = k
  · subst e
    obtain rfl : xs = ys := by rw [hx] at hi; injection hi
    rw [if_pos (by omega), hDk]
    exact hm.done.keep hlo (by omega) fun _ _ _ => rfl
  · have hr := r i ys hi
    have e2 : (if i < k + 1 then upI (K + (tot (L.take i) : Int)) ys.length else ys) = if i < k then upI (K + (tot (L.take i) : Int)) ys.length else ys := by
      by_cases h1 : i < k
      · rw [if_pos h1, if_pos (by omega)]
      · rw [if_neg h1, if_neg (by omega)]
    rw [e2]
    intro hn
    obtain ⟨q, cq, hA, h1, h2, h3, h4⟩ := hr hn
    have hyl : 0 < ys.length := by
      rw [ints_length] at hn
      by_cases h5 : i < k
      · rw [if_pos h5, upI_length] at hn; exact hn
      · rw [if_neg h5] at hn; exact hn
    refine ⟨q, cq, hA, h1, h2, (hkeep q (fun e3 => ?_) h3.lt).trans h3, h4⟩
    subst e3
    rcases Nat.lt_or_ge i k with h6 | h6
    · exact hd i k ys xs h6 hi hx hyl h0 (by rw [hA, hDk])
    · exact hd k i xs ys (by omega) hx hi h0 hyl (by rw [hA, hDk])
theorem MkIss.skip {w wr : World} {lo hi g : Nat} {cs : Array Value} {D : Nat → Option Addr} {L : Iss} {K : Int} {k : Nat} {xs : List Int} (h : MkIss w wr lo hi g cs D L K k) (hx : L[k]? = some xs) (h0 : xs.length = 0) : MkIss w wr lo hi g cs D L K (k + 1) := by
  obtain ⟨o, b, r⟩ := h
  refine ⟨o, b, fun i ys hi => ?_⟩
  by_cases e : i = k
  · subst e
    obtain rfl : xs = ys := by rw [hx] at hi; injection hi
    intro hn
    rw [if_pos (by omega), ints_length, upI_length] at hn
    omega
  · have e2 : (if i < k + 1 then upI (K + (tot (L.take i) : Int)) ys.length else ys) = if i < k then upI (K + (tot (L.take i) : Int)) ys.length else ys := by
      by_cases h1 : i < k
      · rw [if_pos h1, if_pos (by omega)]
      · rw [if_neg h1, if_neg (by omega)]
    rw [e2]; exact r i ys hi
theorem markIss_any (h : IssH) (L : Iss) (K : Int) (w : World) (lo hi : Nat) (hO : IssO w lo hi h L) (hhi : hi ≤ w.heap.size) (hL : IssL L 1048576) (hK : 0 ≤ K) (hK2 : K ≤ 100000000) :
    Calls Try.prog 33 #[IssV h L, .int .i64 K] w fun e w' => e = .returned (.int .i64 (K + allIss L)) ∧ Only lo hi w w' ∧ IssO w' lo hi h (upIss K L) := by
  obtain ⟨hl, ht⟩ := hL
  obtain ⟨A, c⟩ := h
  unfold allIss
  by_cases hn : 0 < L.length
  · obtain ⟨g, cs, D, C, hA, hg1, hg2, hbk, hx, hd⟩ := hO.o0 (by rw [vsIss_length]; exact hn)
    obtain rfl : A = some ⟨g, 0, none⟩ := hA
    have start : Hid (MkIss w w lo hi g cs D L K 0) := Lib.hid ⟨Only.refl _ _ _, hbk, fun i xs hi => by rw [if_neg (by omega)]; exact (hx i _ (vsIss_at hi)).2⟩
    have Hx := Lib.hid (fun i xs hi => (hx i _ (vsIss_at (i := i) (xs := xs) hi)).1)
    have Hd := Lib.hid (fun i j (xs ys : List Int) hij hi hj (h1 : 0 < xs.length) (h2 : 0 < ys.length) => hd i j _ _ hij (vsIss_at hi) (vsIss_at hj) (by rw [ints_length]; exact h1) (by rw [ints_length]; exact h2))
    have Hg1 := Lib.hid hg1
    have Hg2 := Lib.hid hg2
    clear hbk hO hx hd hg1 hg2
    show Calls Try.prog 33 #[.slice (some ⟨g, 0, none⟩) L.length c, .int .i64 K] w _
    go_enter Try.func33, Try.ntmps33
    go_wp2
    go_loopw [1, 5] (fun q i wr => ∃ k : Nat, k ≤ L.length ∧ i = .int .i64 k ∧ q = .int .i64 (K + (tot (L.take k) : Int)) ∧ MkIss w wr lo hi g cs D L K k) (fun _ i _ => L.length - (intOf i).toNat)
    case atStart => exact ⟨0, Nat.zero_le _, rfl, by simp [tot], start.out⟩
    case round =>
      obtain ⟨k, hk, rfl, rfl, hmk⟩ := hrel
      clear start
      have htk := tot_take_le L k
      by_cases hlt : k < L.length
      · have hxk : L[k]? = some L[k] := List.getElem?_eq_getElem hlt
        obtain ⟨xs, hxs⟩ : ∃ xs, L[k]? = some xs := ⟨_, hxk⟩
        have h1 := Hx.out k xs hxs
        rw [ints_length] at h1
        have hcell := (hmk.2.1.cell k).trans h1
        have htot := tot_take_succ hxs
        have hxl : xs.length ≤ 1048576 := by have := tot_take_le L (k + 1); omega
        have Hxs := Lib.hid hxs
        have Htot := Lib.hid htot
        have Hmk := Lib.hid hmk
        clear hxk h1 hxs htot hmk
        by_cases h0 : xs.length = 0
        · rw [h0] at hcell
          go_wp2_with (go_at_call 24; refine (markInt_none _ _ _ _ (by omega) (by omega)).mono ?_; rintro e w' ⟨rfl, rfl⟩)
          go_roundw
          case rel => exact ⟨k + 1, by omega, by go_num, by rw [Htot.out, h0]; go_num, Hmk.out.skip Hxs.out h0⟩
          case measure => simp [intOf]; omega
        · have hrow := Hmk.out.2.2 k xs Hxs.out
          rw [if_neg (by omega)] at hrow
          obtain ⟨gk, c0, hDk, hlo, hhi', hbk, hcs⟩ := hrow (by rw [ints_length]; omega)
          have hsz : xs.length ≤ c0.size := by
            obtain ⟨v, hv⟩ : ∃ v, (ints xs)[xs.length - 1]? = some v := ⟨_, List.getElem?_eq_getElem (by rw [ints_length]; omega)⟩
            have := (Array.getElem?_eq_some_iff.1 (hcs _ v hv)).1
            omega
          rw [hDk] at hcell
          have HDk := Lib.hid hDk
          have Hbk := Lib.hid hbk
          have Hlo := Lib.hid hlo
          have Hhi := Lib.hid hhi'
          have h00 : 0 < xs.length := by omega
          clear hDk hbk hcs hlo hhi' h0
          go_wp2_with (go_at_call 24; refine (markInt_any xs.length gk _ c0 _ _ Hbk.out hsz hxl (by omega) (by omega)).mono ?_; rintro e w1 ⟨rfl, hm1⟩; have Next := Lib.hid (Hmk.out.next Hd.out Hxs.out h00 HDk.out Hlo.out Hhi.out ⟨_, Hbk.out⟩ hm1); clear hm1)
          go_roundw
          case rel => exact ⟨k + 1, by omega, by go_num, by rw [Htot.out]; go_num, Next.out⟩
          case measure => simp [intOf]; omega
      · have hkl : k = L.length := by omega
        subst hkl
        have Hmk := Lib.hid hmk
        rw [List.take_length] at *
        clear hmk
        go_wp2
        go_ret
        refine ⟨rfl, Hmk.out.1, ⟨fun _ => ?_⟩⟩
        refine ⟨g, cs, D, C, rfl, Hg1.out, Hg2.out, Hmk.out.2.1, fun i vs hi => ?_, fun i j vs us hij hi hj h5 h6 => ?_⟩
        · obtain ⟨ys, hy, rfl⟩ := vsIss_inv hi
          obtain ⟨xs, hL, rfl⟩ := upIss_inv hy
          have hil := (List.getElem?_eq_some_iff.1 hL).1
          have a1 := Hx.out i xs hL
          have a2 := Hmk.out.2.2 i xs hL
          rw [if_pos hil] at a2
          rw [ints_length] at a1
          rw [ints_length, upI_length]
          exact ⟨a1, a2⟩
        · obtain ⟨ys, hy, rfl⟩ := vsIss_inv hi
          obtain ⟨xs, hL, rfl⟩ := upIss_inv hy
          obtain ⟨ys', hy', rfl⟩ := vsIss_inv hj
          obtain ⟨xs', hL', rfl⟩ := upIss_inv hy'
          rw [ints_length, upI_length] at h5 h6
          exact Hd.out i j _ _ hij hL hL' h5 h6
  · have hL : L = [] := List.eq_nil_of_length_eq_zero (by omega)
    subst hL
    show Calls Try.prog 33 #[.slice A 0 c, .int .i64 K] w _
    go_enter Try.func33, Try.ntmps33
    go_wp2
    refine wp_loop_rounds 1 ?_
    rw [rounds_succ]
    go_wp2
    go_ret
    exact ⟨by simp [tot], Only.refl _ _ _, ⟨OwnVss.nil _ _ _ _ _ _⟩⟩
theorem heldIss_any (h : IssH) (L : Iss) (K : Int) (w : World) (B : Nat) (hR : IssR w B h (upIss K L)) (hB : B ≤ w.heap.size) (hL : IssL L 1048576) (hK : 0 ≤ K) (hK2 : K ≤ 100000000) :
    Calls Try.prog 42 #[IssV h L, .int .i64 K] w fun e w' => e = .returned (.int .i64 (K + allIss L)) ∧ Below w.heap.size w w' := by
  obtain ⟨hl, ht⟩ := hL
  obtain ⟨hr⟩ := hR
  obtain ⟨A, c⟩ := h
  have hr : Vss w B A (vsIss (upIss K L)) := hr
  unfold allIss
  show Calls Try.prog 42 #[.slice A L.length c, .int .i64 K] w _
  go_enter Try.func42, Try.ntmps42
  go_wp2
  go_loop [1, 5] (fun q i => ∃ k : Nat, k ≤ L.length ∧ i = .int .i64 k ∧ q = .int .i64 (K + (tot (L.take k) : Int))) (fun _ i => L.length - (intOf i).toNat)
  case atStart => exact ⟨0, Nat.zero_le _, rfl, by simp [tot]⟩
  case round =>
    obtain ⟨k, hk, rfl, rfl⟩ := hrel
    have htk := tot_take_le L k
    by_cases hlt : k < L.length
    · have hLk : L[k]? = some L[k] := List.getElem?_eq_getElem hlt
      obtain ⟨xs, hxs⟩ : ∃ xs, L[k]? = some xs := ⟨_, hLk⟩
      obtain ⟨b, off, Ai, ci, rfl, hb, hx0, hrow⟩ := hr.at_ (vsIss_at (upIss_at hxs))
      rw [ints_length, upI_length] at hx0
      have htot := tot_take_succ hxs
      have hxl : xs.length ≤ 1048576 := by have := tot_take_le L (k + 1); omega
      have Htot := Lib.hid htot
      clear hLk hxs htot hr
      go_wp2_with (go_at_call 45; refine (heldInt_any Ai xs.length ci _ _ _ hrow hxl (by omega) (by omega)).mono ?_; rintro e w' ⟨rfl, rfl⟩)
      go_round
      case rel => exact ⟨k + 1, by omega, by go_num, by rw [Htot.out]; go_num⟩
      case measure => simp [intOf]; omega
    · have hkl : k = L.length := by omega
      subst hkl
      have e : L.take L.length = L := List.take_length
      rw [e]
      clear hr hlt htk e
      go_wp2
      go_ret
      exact ⟨rfl, Below.refl _ _⟩
end Go.Proofs.Ytbddmicgfhljeaa
namespace Go.Proofs.Ytbddmicgfhljeaa
open Go.RowKit Pl
set_option maxHeartbeats 1000000
set_option maxRecDepth 100000
set_option linter.unusedVariables false

theorem Try.info25 : (Try.prog.info? 25).map (fun i => (i.zero, i.size, i.bytes)) = some (some (.slice none 0 0), 1, 24) := by kernel_rfl
def conE (x y : Sm) : Bool := conB x.k x.a x.b x.c x.s y.k y.a y.b y.c y.s
/-- Whether two events race, the first one ahead of the second one. -/
def racB (l : Evts) (i k : Nat) : Bool := conE (gE l i).x (gE l k).x && !cB l i k
theorem same_before {l : Evts} {i k : Nat} (h : i < k) (ht : ((gE l i).t == (gE l k).t) = true) : cB l i k = true :=
  c_iff.2 ⟨i, h, by unfold dirB; rw [ht, Bool.true_or], Or.inr rfl⟩
def rowR (l : Evts) (i : Nat) : Nat → List (List Int)
  | 0 => []
  | k + 1 => if i < k ∧ racB l i k = true then rowR l i k ++ [[(i : Int), (k : Int)]] else rowR l i k
def allR (l : Evts) : Nat → List (List Int)
  | 0 => []
  | i + 1 => allR l i ++ rowR l i l.length
theorem rowR_lo {l : Evts} {i : Nat} : ∀ {q : Nat}, q ≤ i + 1 → rowR l i q = [] := by
  intro q
  induction q with
  | zero => intro _; rfl
  | succ q ih =>
    intro h
    unfold rowR
    rw [if_neg (by omega)]
    exact ih (by omega)
theorem rowR_len (l : Evts) (i : Nat) : ∀ q, (rowR l i q).length ≤ q := by
  intro q
  induction q with
  | zero => exact Nat.le_refl _
  | succ q ih =>
    unfold rowR
    split
    · rw [List.length_append]; simp; exact ih
    · omega
theorem allR_len (l : Evts) : ∀ i, (allR l i).length ≤ i * l.length := by
  intro i
  induction i with
  | zero => exact Nat.zero_le _
  | succ i ih =>
    have := rowR_len l i l.length
    show (allR l i ++ rowR l i l.length).length ≤ _
    rw [List.length_append, Nat.add_mul, Nat.one_mul]; omega
theorem rowR_two (l : Evts) (i : Nat) : ∀ q, ∀ x ∈ rowR l i q, x.length ≤ 2 := by
  intro q
  induction q with
  | zero => intro x hx; cases hx
  | succ q ih =>
    unfold rowR
    split
    · intro x hx
      rcases List.mem_append.1 hx with h | h
      · exact ih x h
      · simp at h; subst h; simp
    · exact ih
theorem allR_two (l : Evts) : ∀ i, ∀ x ∈ allR l i, x.length ≤ 2 := by
  intro i
  induction i with
  | zero => intro x hx; cases hx
  | succ i ih =>
    intro x hx
    rcases List.mem_append.1 (show x ∈ allR l i ++ rowR l i l.length from hx) with h | h
    · exact ih x h
    · exact rowR_two l i _ x h
def racO (l : Evts) : List (List Int) := allR l l.length
def racE (L : Pg) (xs : List Int) : List (List Int) := if evR L xs then racO (evE L xs) else []
theorem racE_small {L : Pg} {xs : List Int} (_ : PgS L) (_ : IsS xs) : IssS (racE L xs) := by
  have h9 := (evE_facts (L := L) (xs := xs)).2
  unfold racE
  split
  · unfold racO
    generalize evE L xs = l at h9
    have h1 := allR_len l l.length
    have h2 : l.length * l.length ≤ 9 * 9 := Nat.mul_le_mul h9 h9
    have h3 := tot_le (allR_two l l.length)
    exact ⟨by omega, by omega⟩
  · exact ⟨by simp, by simp [tot]⟩

/-! ### a list of lists of numbers in memory, its lists each in a block of its own -/
def RowsI (w : World) (lo hi : Nat) (Ls : List (List Int)) (D : Nat → Nat) : Prop :=
  (∀ j xs, Ls[j]? = some xs → lo ≤ D j ∧ D j < hi ∧ ∃ cs, Bk w (D j) 3 cs ∧ ∀ (a : Nat) (v : Value), (ints xs)[a]? = some v → cs[a]? = some v) ∧ ∀ i j, i < j → j < Ls.length → D i < D j
def headsI (Ls : List (List Int)) (D : Nat → Nat) : List Value := (List.range Ls.length).map fun j => .slice (some ⟨D j, 0, none⟩) (Ls.getD j []).length (Ls.getD j []).length
@[simp] theorem headsI_length (Ls : List (List Int)) (D : Nat → Nat) : (headsI Ls D).length = Ls.length := by simp [headsI]
theorem headsI_at {Ls : List (List Int)} {D : Nat → Nat} {j : Nat} {xs : List Int} (h : Ls[j]? = some xs) : (headsI Ls D)[j]? = some (.slice (some ⟨D j, 0, none⟩) xs.length xs.length) := by
  have hl := (List.getElem?_eq_some_iff.1 h).1
  simp [headsI, hl]
  have : Ls[j] = xs := (List.getElem?_eq_some_iff.1 h).2
  rw [this]
theorem headsI_snoc (Ls : List (List Int)) (x : List Int) (D : Nat → Nat) (V : Nat) : headsI (Ls ++ [x]) (fun j => if j = Ls.length then V else D j) = headsI Ls D ++ [.slice (some ⟨V, 0, none⟩) x.length x.length] := by
  unfold headsI
  rw [List.length_append, List.length_singleton, List.range_succ, List.map_append]
  congr 1
  · refine List.map_congr_left fun j hj => ?_
    have hj := List.mem_range.1 hj
    show Value.slice (some ⟨(if j = Ls.length then V else D j), 0, none⟩) _ _ = _
    rw [if_neg (by omega)]
    have : (Ls ++ [x]).getD j [] = Ls.getD j [] := by simp [List.getD, List.getElem?_append_left hj]
    rw [this]
  · simp [List.getD]
theorem RowsI.keep {w w' : World} {lo hi lo' hi' : Nat} {Ls : List (List Int)} {D : Nat → Nat} (h : RowsI w lo hi Ls D) (hl : lo' ≤ lo) (hh : hi ≤ hi') (hk : ∀ i cs, lo ≤ i → i < hi → Bk w i 3 cs → w'.heap[i]? = w.heap[i]?) : RowsI w' lo' hi' Ls D := by
  obtain ⟨h0, h1⟩ := h
  refine ⟨fun j xs hj => ?_, h1⟩
  obtain ⟨a, b, cs, hb, hc⟩ := h0 j xs hj
  exact ⟨by omega, by omega, cs, (hk _ cs a b hb).trans hb, hc⟩
theorem RowsI.nil (w : World) (lo hi : Nat) (D : Nat → Nat) : RowsI w lo hi [] D := ⟨fun j xs h => by simp at h, fun i j _ h => absurd h (by simp)⟩
theorem RowsI.snoc {w : World} {lo hi hi' V : Nat} {Ls : List (List Int)} {x : List Int} {D : Nat → Nat} (h : RowsI w lo hi Ls D) (hV : hi ≤ V) (hl : lo ≤ V) (hh : V < hi') {cs : Array Value} (hb : Bk w V 3 cs) (hc : ∀ (a : Nat) (v : Value), (ints x)[a]? = some v → cs[a]? = some v) :
    RowsI w lo hi' (Ls ++ [x]) (fun j => if j = Ls.length then V else D j) := by
  obtain ⟨h0, h1⟩ := h
  refine ⟨fun j xs hj => ?_, fun i j hij hj => ?_⟩
  · show lo ≤ (if j = Ls.length then V else D j) ∧ (if j = Ls.length then V else D j) < hi' ∧ ∃ cs, Bk w (if j = Ls.length then V else D j) 3 cs ∧ ∀ (a : Nat) (v : Value), (ints xs)[a]? = some v → cs[a]? = some v
    by_cases e : j = Ls.length
    · rw [if_pos e]
      rw [List.getElem?_append_right (by omega), e, Nat.sub_self] at hj
      simp at hj
      subst hj
      exact ⟨hl, hh, cs, hb, hc⟩
    · have hjl := (List.getElem?_eq_some_iff.1 hj).1
      rw [List.length_append, List.length_singleton] at hjl
      rw [if_neg e]
      rw [List.getElem?_append_left (by omega)] at hj
      obtain ⟨a, b, r⟩ := h0 j xs hj
      exact ⟨a, by omega, r⟩
  · rw [List.length_append, List.length_singleton] at hj
    show (if i = Ls.length then V else D i) < (if j = Ls.length then V else D j)
    rw [if_neg (by omega)]
    by_cases e : j = Ls.length
    · rw [if_pos e]
      have hil : i < Ls.length := by omega
      have := (h0 i _ (List.getElem?_eq_getElem hil)).2.1
      omega
    · rw [if_neg e]; exact h1 i j hij (by omega)
theorem rowsI_own {w : World} {lo hi : Nat} {A : Option Addr} {Ls : List (List Int)} {D : Nat → Nat} (hH : OwnVs w lo hi 25 A (headsI Ls D)) (hT : RowsI w lo hi Ls D) : OwnVss w lo hi 25 3 A (vsIss Ls) := fun hn => by
  rw [vsIss_length] at hn
  obtain ⟨g, cs, hA, h0, h1, hb, hx⟩ := hH (by rw [headsI_length]; exact hn)
  refine ⟨g, cs, fun i => some ⟨D i, 0, none⟩, fun i => (Ls.getD i []).length, hA, h0, h1, hb, fun i vs hi' => ?_, fun i j vs us hij hi' hj _ _ e => ?_⟩
  · obtain ⟨xs, hxs, rfl⟩ := vsIss_inv hi'
    have e : Ls.getD i [] = xs := by simp [List.getD, hxs]
    show cs[i]? = some (Value.slice (some ⟨D i, 0, none⟩) (ints xs).length (Ls.getD i []).length) ∧ _
    rw [ints_length, e]
    refine ⟨hx i _ (headsI_at hxs), fun _ => ?_⟩
    obtain ⟨a, b, cr, hbr, hc⟩ := hT.1 i xs hxs
    exact ⟨D i, cr, rfl, a, b, hbr, hc⟩
  · obtain ⟨ys, hys, rfl⟩ := vsIss_inv hj
    have hjl := (List.getElem?_eq_some_iff.1 hys).1
    injection e with e
    injection e with e
    have := hT.2 i j hij hjl
    omega
/-- A list of lists that appends have made. -/
def PR (w wr : World) (v : Value) (Ls : List (List Int)) : Prop :=
  ∃ g cap D, v = .slice (some ⟨g, 0, none⟩) Ls.length cap ∧ w.heap.size ≤ g ∧ wr.ownsRow w.heap.size 25 1 (.slice (some ⟨g, 0, none⟩) Ls.length cap) Ls.length (headsI Ls D) ∧ RowsI wr w.heap.size wr.heap.size Ls D ∧ Below w.heap.size w wr
theorem PR.below {w wr wv : World} {v : Value} {Ls : List (List Int)} (h : PR w wr v Ls) (hb : Below wr.heap.size wr wv) : PR w wv v Ls := by
  obtain ⟨g, cap, D, e, hg, hown, hrows, hbel⟩ := h
  exact ⟨g, cap, D, e, hg, hown.kept (grown_of_below hb none) (by simp [Value.ownBlock]), hrows.keep (Nat.le_refl _) hb.size fun i _ _ h2 _ => hb.block i h2, below_on hbel hb⟩
theorem pr_start (w : World) : PR w (w.alloc (.cells #[] 25)) (.slice (some ⟨w.heap.size, 0, none⟩) 0 0) [] :=
  ⟨w.heap.size, 0, fun _ => 0, rfl, Nat.le_refl _, World.ownsRow_made w #[] 0 (Nat.le_refl _) (by decide) (by simp), RowsI.nil _ _ _ _, (Below.refl _ _).alloc (Nat.le_refl _) _⟩
theorem pr_next {w wr w4 : World} {g cap : Nat} {D : Nat → Nat} {Ls : List (List Int)} {x : List Int} {cs : Array Value} {o : Obj} (hbel : Below w.heap.size w wr) (hrows : RowsI wr w.heap.size wr.heap.size Ls D)
    (own : wr.ownsRow w.heap.size 25 1 (.slice (some ⟨g, 0, none⟩) Ls.length cap) Ls.length (headsI Ls D)) (hc : ∀ (a : Nat) (v : Value), (ints x)[a]? = some v → cs[a]? = some v)
    (grow4 : ((wr.alloc (.cells cs 3)).alloc o).grownBy w4 (Value.slice (some ⟨g, 0, none⟩) Ls.length cap).ownBlock) :
    RowsI w4 w.heap.size w4.heap.size (Ls ++ [x]) (fun j => if j = Ls.length then wr.heap.size else D j) ∧ Below w.heap.size w w4 := by
  obtain ⟨g0, g1, cu, hcu⟩ := owns_block own (q := g) rfl
  have hz1 := hbel.size
  have hz4 : wr.heap.size + 1 + 1 ≤ w4.heap.size := by have := grow4.size; simpa using this
  have h4 : ∀ z, z < wr.heap.size + 1 → z ≠ g → w4.heap[z]? = (wr.alloc (.cells cs 3)).heap[z]? := fun z hz hne => (grow4.block z (by simp; omega) (fun e => hne (by injection e))).trans (Below.heap_alloc _ o z (by simp; omega))
  have hB : Below w.heap.size w w4 := ((hbel.alloc (by omega) (.cells cs 3)).alloc (by simp; omega) o).grown grow4 (by simp; omega) (fun q hq => by cases hq; omega)
  refine ⟨(hrows.keep (Nat.le_refl _) (Nat.le_refl _) fun z cz a b hz => ?_).snoc (Nat.le_refl _) hz1 (by omega) ((h4 wr.heap.size (by omega) (by omega)).trans (Bk.new _ _ _)) hc, hB⟩
  refine (h4 z (by omega) fun e => ?_).trans (Below.heap_alloc wr _ z b)
  subst e
  unfold Bk at hz hcu
  rw [hcu] at hz
  injection hz with hz
  injection hz with _ hz
  cases hz
theorem cells2 (i k : Nat) : ∀ (a : Nat) (v : Value), (ints [(i : Int), (k : Int)])[a]? = some v → (#[.int .i64 (i : Int), .int .i64 (k : Int)] : Array Value)[a]? = some v := by
  intro a v h
  simpa [ints] using h
/-- Pairs, and whether there are any to tell. -/
def AnsIss (w : World) (o : List (List Int)) (r : Bool) (e : Ending) (w' : World) : Prop :=
  ∃ k : IssH, e = .returned (.tuple #[IssV k o, .bool r]) ∧ Below w.heap.size w w' ∧ w.heap.size ≤ w'.heap.size ∧ IssO w' w.heap.size w'.heap.size k o
theorem PR.own {w wr : World} {v : Value} {Ls : List (List Int)} (h : PR w wr v Ls) : ∃ k : IssH, v = IssV k Ls ∧ Below w.heap.size w wr ∧ IssO wr w.heap.size wr.heap.size k Ls := by
  obtain ⟨g, cap, D, e, hg, hown, hrows, hbel⟩ := h
  exact ⟨⟨some ⟨g, 0, none⟩, cap⟩, e, hbel, ⟨rowsI_own (own_vs hown rfl) hrows⟩⟩
end Go.Proofs.Ytbddmicgfhljeaa
namespace Go.Proofs.Ytbddmicgfhljeaa
open Go.RowKit Pl Go.BigFrame
set_option maxHeartbeats 4000000
set_option maxRecDepth 100000
set_option linter.unusedVariables false

theorem cell_one2 (w : World) (o : Obj) (v : Value) (t : TypeId) : ∀ j u, [v][j]? = some u → ((w.alloc o).alloc (.cells #[v] t)).cell? ((⟨w.heap.size + 1, 0, none⟩ : Addr).add j) = some u := by
  have := cell_new1 (w.alloc o) v t
  rwa [World.size_alloc] at this
theorem pr_done {w w4 : World} {g4 cap4 V : Nat} {D : Nat → Nat} {Ls : List (List Int)} {x : List Int} (hn : RowsI w4 w.heap.size w4.heap.size (Ls ++ [x]) (fun j => if j = Ls.length then V else D j) ∧ Below w.heap.size w w4)
    (own4 : w4.ownsRow w.heap.size 25 1 (.slice (some ⟨g4, 0, none⟩) (Ls.length + 1) cap4) (Ls.length + 1) (headsI Ls D ++ [.slice (some ⟨V, 0, none⟩) x.length x.length])) (hg4 : w.heap.size ≤ g4) : PR w w4 (.slice (some ⟨g4, 0, none⟩) (Ls.length + 1) cap4) (Ls ++ [x]) :=
  ⟨g4, cap4, _, by rw [List.length_append]; rfl, hg4, by rw [headsI_snoc, List.length_append]; exact own4, hn.1, hn.2⟩
theorem hasbit_b (x i : Nat) (w : World) (hx : x < 18446744073709551616) (hi : i < 64) (r : Bool) (hr : Hid (x.testBit i = r)) :
    Calls Try.prog 95 #[.int .u64 x, .int .i64 i] w fun e w' => e = .returned (.bool r) ∧ Below w.heap.size w w' := (hasbit_any x i w hx hi r hr).mono fun _ _ h => ⟨h.1, by rw [← h.2]; exact Below.refl _ _⟩
theorem few_pairs {l : Evts} (h9 : l.length ≤ 9) {i q : Nat} (hi : i ≤ 9) (hq : q ≤ 9) : (allR l i ++ rowR l i q).length ≤ 90 := by
  have h1 := allR_len l i
  have h2 := rowR_len l i q
  have h3 : i * l.length ≤ 9 * 9 := Nat.mul_le_mul hi h9
  rw [List.length_append]; omega
theorem iraces_any (h : PgH) (L : Pg) (k : IsH) (xs : List Int) (w : World) (B : Nat) (hP : PgR w B h L) (hV : IsR w B k xs) (hB : B ≤ w.heap.size) (SP : PgS L) (LS : IsS xs) :
    Calls Try.prog 56 #[PgV h L, IsV k xs] w (AnsIss w (racE L xs) (evR L xs)) := by
  obtain ⟨W, hW⟩ : ∃ W, W = w.alloc (.cells #[.slice h.A L.length h.c] 32) := ⟨_, rfl⟩
  have bW : Below w.heap.size w W := by rw [hW]; go_grown
  have KW := Lib.hid (show Bk W w.heap.size 32 #[.slice h.A L.length h.c] by rw [hW]; exact Bk.new _ _ _)
  have RW := Lib.hid (hP.below bW hB)
  have VW := Lib.hid (hV.below bW hB)
  have BW := Lib.hid bW
  have hBW : B ≤ W.heap.size := Nat.le_trans hB bW.size
  have HW := Lib.hid hW
  have F := Lib.hid (evE_facts (L := L) (xs := xs))
  have hev := ievs_any h L k xs W B RW.out VW.out hBW SP LS
  unfold racE
  generalize evE L xs = l at hev F
  generalize evR L xs = r at hev
  obtain ⟨E, hE⟩ : ∃ E, (if r = true then racO l else []) = E := ⟨_, rfl⟩
  rw [hE]
  have HE := Lib.hid hE
  clear hW bW hP hV hE
  have h9 := F.out.2
  obtain ⟨i1, hi1, jz0, jz1, jz2⟩ := info_parts Try.info25
  have cP := KW.out.cell 0
  have lP := KW.out.lt
  go_enter Try.func56, Try.ntmps56
  go_wp2_with fail
  rw [← HW.out]
  go_wp2_with fail
  refine hev.mono ?_
  clear hev cP lP
  rintro e w1 ⟨⟨kA, kc⟩, he, hb1, hz1, ho1⟩
  have he : e = .returned (.tuple #[.slice kA l.length kc, .bool r]) := he
  subst he
  have B1 := Lib.hid (below_on BW.out hb1)
  have O1 := Lib.hid ho1
  clear hb1 ho1
  cases r with
  | false =>
    have e0 : E = [] := HE.out.symm
    subst e0
    go_wp2
    go_returns
    exact ⟨⟨none, 0⟩, rfl, B1.out, B1.out.size, ⟨OwnVss.nil _ _ _ _ _ _⟩⟩
  | true =>
    have e0 : E = racO l := HE.out.symm
    subst e0
    go_wp2_with fail
    refine (irows_any ⟨kA, kc⟩ l w1 w1.heap.size O1.out.rd (Nat.le_refl _) (by omega)).mono ?_
    rintro e w2 ⟨rfl, hq2⟩
    have Q2 := Lib.hid hq2
    have h12 : w1.heap.size < w2.heap.size := by obtain ⟨_, cs, hb, _⟩ := hq2; exact hb.lt
    have B2 := Lib.hid (below_on B1.out hq2.1)
    have hv1 : Vs w1 w1.heap.size kA (evs l) := O1.out.rd.v
    have V2 := Lib.hid (hv1.below hq2.1 (Nat.le_refl _))
    have start := Lib.hid (pr_start w2)
    clear hq2 hv1
    go_wp2_with fail
    go_loopw [9, 25] (fun o j wr => ∃ i : Nat, i ≤ l.length ∧ j = .int .i64 i ∧ PR w2 wr o (allR l i)) (fun _ j _ => l.length - (intOf j).toNat)
    case atStart => exact ⟨0, Nat.zero_le _, rfl, start.out⟩
    case round =>
      obtain ⟨i, hil, rfl, hpr⟩ := hrel
      clear start
      have HP := Lib.hid hpr
      clear hpr
      by_cases hlt : i < l.length
      · have hi2 : (i : Int) < (l.length : Int) := by omega
        have HP0 := Lib.hid (show PR w2 wr _ (allR l i ++ rowR l i (i + 1)) by rw [rowR_lo (Nat.le_refl _), List.append_nil]; exact HP.out)
        clear HP
        obtain ⟨wo, rfl⟩ : ∃ wo : World, wo = wr := ⟨_, rfl⟩
        go_wp2_with fail
        go_loopw [9, 11] (fun o j wr => ∃ q : Nat, i < q ∧ q ≤ l.length ∧ j = .int .i64 q ∧ PR w2 wr o (allR l i ++ rowR l i q)) (fun _ j _ => l.length - (intOf j).toNat)
        case atStart => exact ⟨i + 1, by omega, by omega, by go_num, HP0.out⟩
        case round =>
          obtain ⟨q, hiq, hql, rfl, hpr⟩ := hrel
          clear HP0
          by_cases hlq : q < l.length
          · have hq2' : (q : Int) < (l.length : Int) := by omega
            have hfew := few_pairs h9 (i := i) (q := q) (by omega) (by omega)
            have hbel : Below w2.heap.size w2 wr := by obtain ⟨_, _, _, _, _, _, _, hb⟩ := hpr; exact hb
            have hz2 := hbel.size
            obtain ⟨b, off, rfl, hb, ⟨hx0, hx1, hx2, hx3, hx4, hx5, hx6⟩, ⟨hy0, hy1, hy2, hy3, hy4, hy5, hy6⟩⟩ := (V2.out.below hbel (by omega)).ev2 hlt hlq
            have hbw : b < wr.heap.size := by omega
            obtain ⟨-, cq, hbq, -, hcq⟩ := Q2.out.below hbel
            have cQ : wr.cell? ⟨w1.heap.size, q, none⟩ = some (.int .u64 (rN l q : Nat)) := (hbq.cell q).trans ((hcq q hlq).trans (by rw [if_pos hlq]))
            have lQ := hbq.lt
            obtain ⟨Ls, hLs⟩ : ∃ Ls, allR l i ++ rowR l i q = Ls := ⟨_, rfl⟩
            rw [hLs] at hpr hfew
            have HLS := Lib.hid hLs
            have HPR := Lib.hid hpr
            obtain ⟨x, hx⟩ : ∃ x, gE l i = x := ⟨_, rfl⟩
            obtain ⟨y, hy⟩ : ∃ y, gE l q = y := ⟨_, rfl⟩
            have hrac : racB l i q = (conE x.x y.x && !cB l i q) := by unfold racB; rw [hx, hy]
            rw [hx] at hx0 hx1 hx2 hx3 hx4 hx5 hx6
            rw [hy] at hy0 hy1 hy2 hy3 hy4 hy5 hy6
            obtain ⟨r, hr⟩ : ∃ r, racB l i q = r := ⟨_, rfl⟩
            rw [hr] at hrac
            have HRAC := Lib.hid hr
            have hS := fr_none wr
            have gx2 := Ws.same (bs := []) hbw hx2
            have gx3 := Ws.same (bs := []) hbw hx3
            have gx4 := Ws.same (bs := []) hbw hx4
            have gx5 := Ws.same (bs := []) hbw hx5
            have gx6 := Ws.same (bs := []) hbw hx6
            have gy2 := Ws.same (bs := []) hbw hy2
            have gy3 := Ws.same (bs := []) hbw hy3
            have gy4 := Ws.same (bs := []) hbw hy4
            have gy5 := Ws.same (bs := []) hbw hy5
            have gy6 := Ws.same (bs := []) hbw hy6
            have gq := Ws.same (bs := []) lQ cQ
            haveI hne := Nonempty.intro (Ws.mk _ hS)
            have HS := Lib.hid hS
            clear hS hx hy hr hLs hpr hbel hbq hcq cQ hx0 hx1 hx2 hx3 hx4 hx5 hx6 hy0 hy1 hy2 hy3 hy4 hy5 hy6
            rcases Bool.eq_false_or_eq_true (conE x.x y.x) with hc | hc
            · rcases Bool.eq_false_or_eq_true (cB l i q) with hb2 | hb2
              · have e2 : r = false := by rw [hrac, hc, hb2]; rfl
                subst e2
                have HC := Lib.hid hc
                have HB2 := Lib.hid (show (rN l q).testBit i = true from hb2)
                clear hc hb2 hrac
                go_wp2_with fail
                refine region_in (by kernel_rfl) HS.out.drew ?_
                repeat (go_big_quiet_step (first | (go_at_call 98; exact call_in (ret_bool HC.out (iconf_any x.x.k x.x.a x.x.b x.x.c x.x.s y.x.k y.x.a y.x.b y.x.c y.x.s _))) | (go_at_call 95; exact call_in (hasbit_b (rN l q) i _ (lt64 (rN_lt l q) (by omega)) (by omega) true HB2))))
                refine wpQuiet_nil ?_
                rintro w3 ⟨⟨_, hw3⟩, rfl⟩
                have HP3 := Lib.hid (HPR.out.below hw3.below)
                clear hw3 gx2 gx3 gx4 gx5 gx6 gy2 gy3 gy4 gy5 gy6 gq HPR
                have Hnx := Lib.hid (show allR l i ++ rowR l i (q + 1) = Ls by rw [← HLS.out]; congr 1; show (if i < q ∧ racB l i q = true then _ else _) = _; rw [if_neg (fun h => by rw [HRAC.out] at h; exact absurd h.2 (by decide))])
                go_wp2
                go_roundw
                case rel => exact ⟨q + 1, by omega, by omega, by go_num, by rw [Hnx.out]; exact HP3.out⟩
                case measure => simp [intOf]; omega
              · have e2 : r = true := by rw [hrac, hc, hb2]; rfl
                subst e2
                have HC := Lib.hid hc
                have HB2 := Lib.hid (show (rN l q).testBit i = false from hb2)
                clear hc hb2 hrac
                go_wp2_with fail
                refine region_in (by kernel_rfl) HS.out.drew ?_
                repeat (go_big_quiet_step (first | (go_at_call 98; exact call_in (ret_bool HC.out (iconf_any x.x.k x.x.a x.x.b x.x.c x.x.s y.x.k y.x.a y.x.b y.x.c y.x.s _))) | (go_at_call 95; exact call_in (hasbit_b (rN l q) i _ (lt64 (rN_lt l q) (by omega)) (by omega) false HB2))))
                refine wpQuiet_nil ?_
                rintro w3 ⟨⟨_, hw3⟩, rfl⟩
                have HP3 := Lib.hid (HPR.out.below hw3.below)
                clear hw3 gx2 gx3 gx4 gx5 gx6 gy2 gy3 gy4 gy5 gy6 gq HPR
                obtain ⟨g, cap, D, rfl, hg, hown, hrows, hbel⟩ := HP3.out
                have Own := Lib.hid hown
                have HRw := Lib.hid hrows
                have HBel := Lib.hid hbel
                have hw3s := hbel.size
                have Hnx := Lib.hid (show allR l i ++ rowR l i (q + 1) = Ls ++ [[(i : Int), (q : Int)]] by rw [← HLS.out, List.append_assoc]; congr 1; show (if i < q ∧ racB l i q = true then _ else _) = _; rw [if_pos ⟨hiq, HRAC.out⟩])
                clear hown hrows hbel HP3
                go_wp2_with (at_builtin; refine wpList_append_own _ rfl (.tmp 56) (.tmp 60) 42 rfl w2.heap.size 25 i1 _ 1 24 Try.underlying42 hi1 jz0 jz1 jz2 rfl (by decide) _ Ls.length (headsI Ls D) rfl ((Own.out.alloc _).alloc _) ⟨_, 0, none⟩ 1 1 [.slice (some ⟨w3.heap.size, 0, none⟩) 2 2] rfl rfl (cell_one2 _ _ _ _) (by intro u hu; simp at hu; subst hu; rfl) (by unfold maxLen; omega) (by omega) (by simp; omega) ?_; intro v' w4 own4 grow4 _; obtain ⟨g4, cap4, rfl, hg4, hlt4⟩ := own4.form (by omega); have Next := Lib.hid (pr_done (x := [(i : Int), (q : Int)]) (pr_next (x := [(i : Int), (q : Int)]) HBel.out HRw.out Own.out (cells2 i q) grow4) own4 hg4); clear own4 grow4)
                go_roundw
                case rel => exact ⟨q + 1, by omega, by omega, by go_num, by rw [Hnx.out]; exact Next.out⟩
                case measure => simp [intOf]; omega
            · have e2 : r = false := by rw [hrac, hc]; rfl
              subst e2
              have HC := Lib.hid hc
              clear hc hrac
              go_wp2_with fail
              refine region_in (by kernel_rfl) HS.out.drew ?_
              repeat (go_big_quiet_step ((go_at_call 98; exact call_in (ret_bool HC.out (iconf_any x.x.k x.x.a x.x.b x.x.c x.x.s y.x.k y.x.a y.x.b y.x.c y.x.s _)))))
              refine wpQuiet_nil ?_
              rintro w3 ⟨⟨_, hw3⟩, rfl⟩
              have HP3 := Lib.hid (HPR.out.below hw3.below)
              clear hw3 gx2 gx3 gx4 gx5 gx6 gy2 gy3 gy4 gy5 gy6 gq HPR
              have Hnx := Lib.hid (show allR l i ++ rowR l i (q + 1) = Ls by rw [← HLS.out]; congr 1; show (if i < q ∧ racB l i q = true then _ else _) = _; rw [if_neg (fun h => by rw [HRAC.out] at h; exact absurd h.2 (by decide))])
              go_wp2
              go_roundw
              case rel => exact ⟨q + 1, by omega, by omega, by go_num, by rw [Hnx.out]; exact HP3.out⟩
              case measure => simp [intOf]; omega
          · have hqq : q = l.length := by omega
            subst hqq
            have HP3 := Lib.hid hpr
            clear hpr
            go_wp2
            go_roundw
            case rel => exact ⟨i + 1, by omega, by go_num, HP3.out⟩
            case measure => simp [intOf]; omega
      · have hii : i = l.length := by omega
        subst hii
        obtain ⟨k2, rfl, hb3, ho3⟩ := HP.out.own
        have B3 := Lib.hid (below_on B2.out hb3)
        have O3 := Lib.hid (ho3.keep (lo' := w.heap.size) (hi' := wr.heap.size) B2.out.size (Nat.le_refl _) fun _ _ _ => rfl)
        clear hb3 ho3
        go_wp2
        go_returns
        exact ⟨k2, rfl, B3.out, B3.out.size, O3.out⟩
end Go.Proofs.Ytbddmicgfhljeaa
namespace Go.Proofs.Ytbddmicgfhljeaa
open Go.RowKit Pl Go.BigFrame
set_option maxHeartbeats 4000000
set_option maxRecDepth 100000
set_option linter.unusedVariables false

theorem mat_get {n : Nat} {M : Nat → Nat → Bool} {i : Nat} (h : i < n) : (mat n M)[i]? = some ((List.range n).map (M i)) := by simp [mat, h]
/-- A list of lists of the call's own. -/
def AnsL (w : World) (o : List (List Int)) (e : Ending) (w' : World) : Prop :=
  ∃ k : IssH, e = .returned (IssV k o) ∧ Below w.heap.size w w' ∧ w.heap.size ≤ w'.heap.size ∧ IssO w' w.heap.size w'.heap.size k o
theorem sracl_any (k0 : EvsH) (l : Evts) (w : World) (B : Nat) (hR : EvsR w B k0 l) (hB : B ≤ w.heap.size) (hok : okE l) (h9 : l.length ≤ 9) :
    Calls Try.prog 97 #[EvsV k0 l] w (AnsL w (racO l)) := by
  have hs := sbef_any k0 l w B hR hB hok (by omega)
  obtain ⟨kA, kc⟩ := k0
  obtain ⟨h⟩ := hR
  have h : Vs w B kA (evs l) := h
  show Calls Try.prog 97 #[.slice kA l.length kc] w _
  obtain ⟨i1, hi1, jz0, jz1, jz2⟩ := info_parts Try.info25
  go_enter Try.func97, Try.ntmps97
  go_wp2_with fail
  refine hs.mono ?_
  clear hs
  rintro e w2 ⟨⟨gA, gc⟩, he, hb1, hz1, ho1⟩
  rw [show BssV ⟨gA, gc⟩ (mat l.length (cB l)) = .slice gA l.length gc by unfold BssV; rw [mat_length]] at he
  subst he
  have B2 := Lib.hid hb1
  have V2 := Lib.hid (h.below hb1 hB)
  have hm : Vss w2 w2.heap.size gA (vsBss (mat l.length (cB l))) := ho1.rd.v
  have HM := Lib.hid hm
  have start := Lib.hid (pr_start w2)
  clear hb1 ho1 hm
  go_wp2_with fail
  go_loopw [4, 5] (fun o j wr => ∃ i : Nat, i ≤ l.length ∧ j = .int .i64 i ∧ PR w2 wr o (allR l i)) (fun _ j _ => l.length - (intOf j).toNat)
  case atStart => exact ⟨0, Nat.zero_le _, rfl, start.out⟩
  case round =>
    obtain ⟨i, hil, rfl, hpr⟩ := hrel
    clear start
    have HP := Lib.hid hpr
    clear hpr
    by_cases hlt : i < l.length
    · have hi2 : (i : Int) < (l.length : Int) := by omega
      have HP0 := Lib.hid (show PR w2 wr _ (allR l i ++ rowR l i (i + 1)) by rw [rowR_lo (Nat.le_refl _), List.append_nil]; exact HP.out)
      clear HP
      obtain ⟨wo, rfl⟩ : ∃ wo : World, wo = wr := ⟨_, rfl⟩
      go_wp2_with fail
      go_loopw [4, 6] (fun o j wr => ∃ q : Nat, i < q ∧ q ≤ l.length ∧ j = .int .i64 q ∧ PR w2 wr o (allR l i ++ rowR l i q)) (fun _ j _ => l.length - (intOf j).toNat)
      case atStart => exact ⟨i + 1, by omega, by omega, by go_num, HP0.out⟩
      case round =>
        obtain ⟨q, hiq, hql, rfl, hpr⟩ := hrel
        clear HP0
        by_cases hlq : q < l.length
        · have hq2' : (q : Int) < (l.length : Int) := by omega
          have hfew := few_pairs h9 (i := i) (q := q) (by omega) (by omega)
          have hbel : Below w2.heap.size w2 wr := by obtain ⟨_, _, _, _, _, _, _, hb⟩ := hpr; exact hb
          have hz2 := hbel.size
          obtain ⟨b, off, rfl, hb, ⟨hx0, hx1, hx2, hx3, hx4, hx5, hx6⟩, ⟨hy0, hy1, hy2, hy3, hy4, hy5, hy6⟩⟩ := (V2.out.below hbel (by omega)).ev2 hlt hlq
          have hbw : b < wr.heap.size := by omega
          obtain ⟨gb, goff, Ai, ci, rfl, hgb, hh0, hrow⟩ := (HM.out.below hbel (Nat.le_refl _)).at_ (vsBss_at (mat_get (M := cB l) hlt))
          rw [bools_length, List.length_map, List.length_range] at hh0
          obtain ⟨rb, roff, rv, rfl, hrb, hrv, -, hr0⟩ := hrow.bool_ (k := q) (by simp; exact hlq)
          have hrv2 : rv = cB l i q := by simp [hlq] at hrv; exact hrv.symm
          rw [hrv2] at hr0
          have hgw : gb < wr.heap.size := by omega
          have hrw : rb < wr.heap.size := by omega
          obtain ⟨Ls, hLs⟩ : ∃ Ls, allR l i ++ rowR l i q = Ls := ⟨_, rfl⟩
          rw [hLs] at hpr hfew
          have HLS := Lib.hid hLs
          have HPR := Lib.hid hpr
          obtain ⟨x, hx⟩ : ∃ x, gE l i = x := ⟨_, rfl⟩
          obtain ⟨y, hy⟩ : ∃ y, gE l q = y := ⟨_, rfl⟩
          have hrac : racB l i q = (conE x.x y.x && !cB l i q) := by unfold racB; rw [hx, hy]
          have hsame : (x.t == y.t) = true → cB l i q = true := fun e => same_before hiq (by rw [hx, hy]; exact e)
          rw [hx] at hx0 hx1 hx2 hx3 hx4 hx5 hx6
          rw [hy] at hy0 hy1 hy2 hy3 hy4 hy5 hy6
          obtain ⟨r, hr⟩ : ∃ r, racB l i q = r := ⟨_, rfl⟩
          rw [hr] at hrac
          have HRAC := Lib.hid hr
          obtain ⟨bb, hbb⟩ : ∃ bb, cB l i q = bb := ⟨_, rfl⟩
          rw [hbb] at hrac hsame hr0
          have hS := fr_none wr
          have gx0 := Ws.same (bs := []) hbw hx0
          have gx1 := Ws.same (bs := []) hbw hx1
          have gx2 := Ws.same (bs := []) hbw hx2
          have gx3 := Ws.same (bs := []) hbw hx3
          have gx4 := Ws.same (bs := []) hbw hx4
          have gx5 := Ws.same (bs := []) hbw hx5
          have gx6 := Ws.same (bs := []) hbw hx6
          have gy0 := Ws.same (bs := []) hbw hy0
          have gy1 := Ws.same (bs := []) hbw hy1
          have gy2 := Ws.same (bs := []) hbw hy2
          have gy3 := Ws.same (bs := []) hbw hy3
          have gy4 := Ws.same (bs := []) hbw hy4
          have gy5 := Ws.same (bs := []) hbw hy5
          have gy6 := Ws.same (bs := []) hbw hy6
          have gh := Ws.same (bs := []) hgw hh0
          have gr := Ws.same (bs := []) hrw hr0
          haveI hne := Nonempty.intro (Ws.mk _ hS)
          have HS := Lib.hid hS
          clear hS hx hy hr hLs hpr hbel hrow hrv hrv2 hbb hh0 hr0 hx0 hx1 hx2 hx3 hx4 hx5 hx6 hy0 hy1 hy2 hy3 hy4 hy5 hy6
          rcases Bool.eq_false_or_eq_true (x.t == y.t) with ht | ht
          · have e3 : bb = true := hsame ht
            subst e3
            have e2 : r = false := by rw [hrac]; simp
            subst e2
            have ht2 : (x.t != y.t) = false := by simpa using ht
            clear hrac hsame ht
            skip
            go_wp2_with fail
            refine region_in (by kernel_rfl) HS.out.drew ?_
            repeat (go_big_quiet_step (fail))
            refine wpQuiet_nil ?_
            rintro w3 ⟨⟨_, hw3⟩, rfl⟩
            have HP3 := Lib.hid (HPR.out.below hw3.below)
            clear hw3 gx0 gx1 gx2 gx3 gx4 gx5 gx6 gy0 gy1 gy2 gy3 gy4 gy5 gy6 gh gr HPR
            have Hnx := Lib.hid (show allR l i ++ rowR l i (q + 1) = Ls by rw [← HLS.out]; congr 1; show (if i < q ∧ racB l i q = true then _ else _) = _; rw [if_neg (fun h => by rw [HRAC.out] at h; exact absurd h.2 (by decide))])
            go_wp2
            go_roundw
            case rel => exact ⟨q + 1, by omega, by omega, by go_num, by rw [Hnx.out]; exact HP3.out⟩
            case measure => simp [intOf]; omega
          · have ht2 : (x.t != y.t) = true := by simpa using ht
            clear hsame ht
            rcases Bool.eq_false_or_eq_true (conE x.x y.x) with hc | hc
            · cases bb with
              | true =>
                have e2 : r = false := by rw [hrac]; simp
                subst e2
                have HC := Lib.hid hc
                clear hc hrac
                go_wp2_with fail
                refine region_in (by kernel_rfl) HS.out.drew ?_
                repeat (go_big_quiet_step ((go_at_call 139; exact call_in (ret_bool HC.out (sconf_any x.x.k x.x.a x.x.b x.x.c x.x.s y.x.k y.x.a y.x.b y.x.c y.x.s _)))))
                refine wpQuiet_nil ?_
                rintro w3 ⟨⟨_, hw3⟩, rfl⟩
                have HP3 := Lib.hid (HPR.out.below hw3.below)
                clear hw3 gx0 gx1 gx2 gx3 gx4 gx5 gx6 gy0 gy1 gy2 gy3 gy4 gy5 gy6 gh gr HPR
                have Hnx := Lib.hid (show allR l i ++ rowR l i (q + 1) = Ls by rw [← HLS.out]; congr 1; show (if i < q ∧ racB l i q = true then _ else _) = _; rw [if_neg (fun h => by rw [HRAC.out] at h; exact absurd h.2 (by decide))])
                go_wp2
                go_roundw
                case rel => exact ⟨q + 1, by omega, by omega, by go_num, by rw [Hnx.out]; exact HP3.out⟩
                case measure => simp [intOf]; omega
              | false =>
                have e2 : r = true := by rw [hrac, hc]; rfl
                subst e2
                have HC := Lib.hid hc
                clear hc hrac
                go_wp2_with fail
                refine region_in (by kernel_rfl) HS.out.drew ?_
                repeat (go_big_quiet_step ((go_at_call 139; exact call_in (ret_bool HC.out (sconf_any x.x.k x.x.a x.x.b x.x.c x.x.s y.x.k y.x.a y.x.b y.x.c y.x.s _)))))
                refine wpQuiet_nil ?_
                rintro w3 ⟨⟨_, hw3⟩, rfl⟩
                have HP3 := Lib.hid (HPR.out.below hw3.below)
                clear hw3 gx0 gx1 gx2 gx3 gx4 gx5 gx6 gy0 gy1 gy2 gy3 gy4 gy5 gy6 gh gr HPR
                obtain ⟨g, cap, D, rfl, hg, hown, hrows, hbel⟩ := HP3.out
                have Own := Lib.hid hown
                have HRw := Lib.hid hrows
                have HBel := Lib.hid hbel
                have hw3s := hbel.size
                have Hnx := Lib.hid (show allR l i ++ rowR l i (q + 1) = Ls ++ [[(i : Int), (q : Int)]] by rw [← HLS.out, List.append_assoc]; congr 1; show (if i < q ∧ racB l i q = true then _ else _) = _; rw [if_pos ⟨hiq, HRAC.out⟩])
                clear hown hrows hbel HP3
                go_wp2_with (at_builtin; refine wpList_append_own _ rfl (.tmp 58) (.tmp 62) 42 rfl w2.heap.size 25 i1 _ 1 24 Try.underlying42 hi1 jz0 jz1 jz2 rfl (by decide) _ Ls.length (headsI Ls D) rfl ((Own.out.alloc _).alloc _) ⟨_, 0, none⟩ 1 1 [.slice (some ⟨w3.heap.size, 0, none⟩) 2 2] rfl rfl (cell_one2 _ _ _ _) (by intro u hu; simp at hu; subst hu; rfl) (by unfold maxLen; omega) (by omega) (by simp; omega) ?_; intro v' w4 own4 grow4 _; obtain ⟨g4, cap4, rfl, hg4, hlt4⟩ := own4.form (by omega); have Next := Lib.hid (pr_done (x := [(i : Int), (q : Int)]) (pr_next (x := [(i : Int), (q : Int)]) HBel.out HRw.out Own.out (cells2 i q) grow4) own4 hg4); clear own4 grow4)
                go_roundw
                case rel => exact ⟨q + 1, by omega, by omega, by go_num, by rw [Hnx.out]; exact Next.out⟩
                case measure => simp [intOf]; omega
            · have e2 : r = false := by rw [hrac, hc]; rfl
              subst e2
              have HC := Lib.hid hc
              clear hc hrac
              go_wp2_with fail
              refine region_in (by kernel_rfl) HS.out.drew ?_
              repeat (go_big_quiet_step ((go_at_call 139; exact call_in (ret_bool HC.out (sconf_any x.x.k x.x.a x.x.b x.x.c x.x.s y.x.k y.x.a y.x.b y.x.c y.x.s _)))))
              refine wpQuiet_nil ?_
              rintro w3 ⟨⟨_, hw3⟩, rfl⟩
              have HP3 := Lib.hid (HPR.out.below hw3.below)
              clear hw3 gx0 gx1 gx2 gx3 gx4 gx5 gx6 gy0 gy1 gy2 gy3 gy4 gy5 gy6 gh gr HPR
              have Hnx := Lib.hid (show allR l i ++ rowR l i (q + 1) = Ls by rw [← HLS.out]; congr 1; show (if i < q ∧ racB l i q = true then _ else _) = _; rw [if_neg (fun h => by rw [HRAC.out] at h; exact absurd h.2 (by decide))])
              go_wp2
              go_roundw
              case rel => exact ⟨q + 1, by omega, by omega, by go_num, by rw [Hnx.out]; exact HP3.out⟩
              case measure => simp [intOf]; omega
        · have hqq : q = l.length := by omega
          subst hqq
          have HP3 := Lib.hid hpr
          clear hpr
          go_wp2
          go_roundw
          case rel => exact ⟨i + 1, by omega, by go_num, HP3.out⟩
          case measure => simp [intOf]; omega
    · have hii : i = l.length := by omega
      subst hii
      obtain ⟨k2, rfl, hb3, ho3⟩ := HP.out.own
      have B3 := Lib.hid (below_on B2.out hb3)
      have O3 := Lib.hid (ho3.keep (lo' := w.heap.size) (hi' := wr.heap.size) B2.out.size (Nat.le_refl _) fun _ _ _ => rfl)
      clear hb3 ho3
      go_wp2
      go_ret
      exact ⟨k2, rfl, B3.out, B3.out.size, O3.out⟩
theorem sraces_any (h : PgH) (L : Pg) (k : IsH) (xs : List Int) (w : World) (B : Nat) (hP : PgR w B h L) (hV : IsR w B k xs) (hB : B ≤ w.heap.size) (SP : PgS L) (LS : IsS xs) :
    Calls Try.prog 55 #[PgV h L, IsV k xs] w (AnsIss w (racE L xs) (evR L xs)) := by
  obtain ⟨W, hW⟩ : ∃ W, W = w.alloc (.cells #[.slice h.A L.length h.c] 32) := ⟨_, rfl⟩
  have bW : Below w.heap.size w W := by rw [hW]; go_grown
  have KW := Lib.hid (show Bk W w.heap.size 32 #[.slice h.A L.length h.c] by rw [hW]; exact Bk.new _ _ _)
  have RW := Lib.hid (hP.below bW hB)
  have VW := Lib.hid (hV.below bW hB)
  have BW := Lib.hid bW
  have hBW : B ≤ W.heap.size := Nat.le_trans hB bW.size
  have HW := Lib.hid hW
  have F := Lib.hid (evE_facts (L := L) (xs := xs))
  have hev := sevs_any h L k xs W B RW.out VW.out hBW SP LS
  unfold racE
  generalize evE L xs = l at hev F
  generalize evR L xs = r at hev
  obtain ⟨E, hE⟩ : ∃ E, (if r = true then racO l else []) = E := ⟨_, rfl⟩
  rw [hE]
  have HE := Lib.hid hE
  clear hW bW hP hV hE
  have cP := KW.out.cell 0
  have lP := KW.out.lt
  go_enter Try.func55, Try.ntmps55
  go_wp2_with fail
  rw [← HW.out]
  go_wp2_with fail
  refine hev.mono ?_
  clear hev cP lP
  rintro e w1 ⟨ke, rfl, hb1, hz1, ho1⟩
  have B1 := Lib.hid (below_on BW.out hb1)
  have O1 := Lib.hid ho1
  clear hb1 ho1
  cases r with
  | false =>
    have e0 : E = [] := HE.out.symm
    subst e0
    go_wp2
    go_returns
    exact ⟨⟨none, 0⟩, rfl, B1.out, B1.out.size, ⟨OwnVss.nil _ _ _ _ _ _⟩⟩
  | true =>
    have e0 : E = racO l := HE.out.symm
    subst e0
    go_wp2_with fail
    refine (sracl_any ke l w1 w1.heap.size O1.out.rd (Nat.le_refl _) F.out.1 F.out.2).mono ?_
    rintro e w2 ⟨k2, rfl, hb2, hz2, ho2⟩
    have B2 := Lib.hid (below_on B1.out hb2)
    have O2 := Lib.hid (ho2.keep (lo' := w.heap.size) (hi' := w2.heap.size) B1.out.size (Nat.le_refl _) fun _ _ _ => rfl)
    clear hb2 ho2
    go_wp2
    go_returns
    exact ⟨k2, rfl, B2.out, B2.out.size, O2.out⟩
end Go.Proofs.Ytbddmicgfhljeaa
