/-
  Contracts of the laws' marks and held marks over whole programs.
-/
import Derived.Test.YtiljakbjbiinkaaSpecWo
import Derived.Test.YtiljakbjbiinkaaOnly
namespace Go.Proofs.Ytiljakbjbiinkaa
open Go.RowKit Pl
set_option maxHeartbeats 400000
set_option linter.unusedVariables false

/-- What marks have come to in one block behind k statements. -/
def MarkS (w wr : World) (g : Nat) (K : Int) (n k : Nat) : Prop :=
  Only g (g + 1) w wr ∧ ∃ cs, Bk wr g 132 cs ∧ n * 5 ≤ cs.size ∧ ∀ j, j < k → SmCs cs (j * 5) (num5 (K + 5 * (j : Int)))
theorem MarkS.next {w wr : World} {g n k : Nat} {K : Int} (h : MarkS w wr g K n k) (hk : k < n) {x : Sm} (hx : x = num5 (K + 5 * (k : Int))) :
    MarkS w (((((wr.setCell ⟨g, k * 5, none⟩ (.int .i64 x.k)).setCell ⟨g, k * 5 + 1, none⟩ (.int .i64 x.a)).setCell ⟨g, k * 5 + 2, none⟩ (.int .i64 x.b)).setCell ⟨g, k * 5 + 3, none⟩ (.int .i64 x.c)).setCell ⟨g, k * 5 + 4, none⟩ (.bool x.s)) g K n (k + 1) := by
  obtain ⟨h0, cs, hbk, hsz, hc⟩ := h
  refine ⟨((((h0.setCell (Nat.le_refl _) (Nat.lt_succ_self _) _).setCell (Nat.le_refl _) (Nat.lt_succ_self _) _).setCell (Nat.le_refl _) (Nat.lt_succ_self _) _).setCell (Nat.le_refl _) (Nat.lt_succ_self _) _).setCell (Nat.le_refl _) (Nat.lt_succ_self _) _, _, hbk.put5 x, by rw [size_put5]; exact hsz, ?_⟩
  intro j hj
  by_cases e : j = k
  · subst e
    rw [← hx]
    exact put5_at x (by omega)
  · exact put5_other x (hc j (by omega)) (Or.inl (by omega))
theorem MarkS.done {w wr : World} {g n : Nat} {K : Int} (h : MarkS w wr g K n n) : OwnRow wr g (g + 1) (some ⟨g, 0, none⟩) (nums K n) := fun hn => by
  obtain ⟨_, cs, hbk, _, hc⟩ := h
  refine ⟨g, cs, rfl, Nat.le_refl _, by omega, hbk, fun j x hj => ?_⟩
  have hl := (List.getElem?_eq_some_iff.1 hj)
  obtain ⟨h1, h2⟩ := hl
  rw [nums_at] at h2
  rw [← h2]
  exact hc j (by rw [nums_length] at h1; exact h1)

theorem num5_eq (q : Int) : (⟨q, q + 1, q + 1 + 1, q + 1 + 1 + 1, (q + 1 + 1 + 1 + 1) % 3 == 0⟩ : Sm) = num5 q := by
  simp only [num5, Sm.mk.injEq, true_and]
  refine ⟨by omega, by omega, ?_⟩
  rw [show q + 1 + 1 + 1 + 1 = q + 4 by omega]

theorem markS_any (xs : List Sm) (g c : Nat) (cs : Array Value) (K : Int) (w : World) (hbk : Bk w g 132 cs) (hc : ∀ (j : Nat) (x : Sm), xs[j]? = some x → SmCs cs (j * 5) x) (h0 : 0 < xs.length) (hl : xs.length ≤ 1048576) (hK : 0 ≤ K) (hK2 : K ≤ 10000000) :
    Calls Try.prog 111 #[.slice (some ⟨g, 0, none⟩) xs.length c, .int .i64 K] w fun e w' => e = .returned (.int .i64 (K + 5 * (xs.length : Int))) ∧ MarkS w w' g K xs.length xs.length := by
  have hsz : xs.length * 5 ≤ cs.size := by
    obtain ⟨_, _, _, _, h4⟩ := hc (xs.length - 1) _ (List.getElem?_eq_getElem (by omega))
    have := (Array.getElem?_eq_some_iff.1 h4).1
    omega
  have start : Hid (MarkS w w g K xs.length 0) := Lib.hid ⟨Only.refl _ _ _, cs, hbk, hsz, fun j hj => absurd hj (by omega)⟩
  clear hbk hc hsz
  go_enter Try.func111, Try.ntmps111
  go_wp2
  go_loopw [1, 5] (fun q i wr => ∃ k : Nat, k ≤ xs.length ∧ i = .int .i64 k ∧ q = .int .i64 (K + 5 * (k : Int)) ∧ MarkS w wr g K xs.length k) (fun _ i _ => xs.length - (intOf i).toNat)
  case atStart => exact ⟨0, Nat.zero_le _, rfl, by simp, start.out⟩
  case round =>
    obtain ⟨k, hk, rfl, rfl, hmk⟩ := hrel
    clear start
    by_cases hlt : k < xs.length
    · obtain ⟨-, cu, hb, hs, -⟩ := id hmk
      obtain ⟨v0, e0⟩ := hb.some_ (i := k * 5) (by omega)
      obtain ⟨v1, e1⟩ := hb.some_ (i := k * 5 + 1) (by omega)
      obtain ⟨v2, e2⟩ := hb.some_ (i := k * 5 + 2) (by omega)
      obtain ⟨v3, e3⟩ := hb.some_ (i := k * 5 + 3) (by omega)
      obtain ⟨v4, e4⟩ := hb.some_ (i := k * 5 + 4) (by omega)
      have q0 := hb.free (k * 5)
      have q1 := hb.free (k * 5 + 1)
      have q2 := hb.free (k * 5 + 2)
      have q3 := hb.free (k * 5 + 3)
      have q4 := hb.free (k * 5 + 4)
      have Next := Lib.hid (hmk.next hlt (num5_eq (K + 5 * (k : Int))))
      clear hb hs hmk
      go_wp2
      go_roundw
      case rel => exact ⟨k + 1, by omega, by go_num, by go_num, Next.out⟩
      case measure => simp [intOf]; omega
    · have hkl : k = xs.length := by omega
      subst hkl
      go_wp2
      go_ret
      exact ⟨rfl, hmk⟩

/-- An empty thread: nothing is written. -/
theorem markS_none (A : Option Addr) (c : Nat) (K : Int) (w : World) (hK : 0 ≤ K) (hK2 : K ≤ 10000000) :
    Calls Try.prog 111 #[.slice A 0 c, .int .i64 K] w fun e w' => e = .returned (.int .i64 K) ∧ w = w' := by
  go_enter Try.func111, Try.ntmps111
  go_wp2
  refine wp_loop_rounds 1 ?_
  rw [rounds_succ]
  go_wp2
  go_ret
  exact ⟨rfl, rfl⟩

theorem held_ints (K : Int) (n : Nat) {k : Nat} (hk : k < n) : (nums K n)[k]? = some (num5 (K + 5 * (k : Int))) := by
  rw [List.getElem?_eq_getElem (by rw [nums_length]; exact hk), nums_at]

end Go.Proofs.Ytiljakbjbiinkaa
namespace Go.Proofs.Ytiljakbjbiinkaa
open Go.RowKit Pl
set_option maxHeartbeats 400000
set_option linter.unusedVariables false

theorem total_take_succ {L : List (List Sm)} {k : Nat} {xs : List Sm} (h : L[k]? = some xs) : total (L.take (k + 1)) = total (L.take k) + xs.length := by
  rw [List.take_add_one, h]
  simp [total]
theorem total_take_le (L : List (List Sm)) (k : Nat) : total (L.take k) ≤ total L := by
  have : total L = total (L.take k) + total (L.drop k) := by
    simp only [total, List.map_take, List.map_drop]
    rw [← List.sum_append, List.take_append_drop]
  omega
theorem numsL_at {L : List (List Sm)} : ∀ {K : Int} {i : Nat} {xs : List Sm}, L[i]? = some xs → (numsL K (L.map List.length))[i]? = some (nums (K + 5 * (total (L.take i) : Int)) xs.length) := by
  induction L with
  | nil => intro K i xs h; simp at h
  | cons y r ih =>
    intro K i xs h
    cases i with
    | zero => simp at h; subst h; simp [numsL, total]
    | succ i =>
      simp at h
      rw [List.map_cons, numsL, List.getElem?_cons_succ, ih h, List.take_succ_cons, total_cons]
      congr 2
      rw [Int.natCast_add]; omega
theorem numsL_length (L : List Nat) : ∀ K : Int, (numsL K L).length = L.length := by
  induction L with
  | nil => intro K; rfl
  | cons y r ih => intro K; simp [numsL, ih]

/-- What marks over a program have come to behind k threads. -/
def MarkSS (w wr : World) (lo hi g : Nat) (cs : Array Value) (D : Nat → Option Addr) (L : List (List Sm)) (K : Int) (k : Nat) : Prop :=
  Only lo hi w wr ∧ Bk wr g 129 cs ∧ ∀ (i : Nat) (xs : List Sm), L[i]? = some xs → OwnRow wr lo hi (D i) (if i < k then nums (K + 5 * (total (L.take i) : Int)) xs.length else xs)
theorem MarkSS.next {w wr w1 : World} {lo hi g : Nat} {cs : Array Value} {D : Nat → Option Addr} {L : List (List Sm)} {K : Int} {k gk : Nat} {xs : List Sm} (h : MarkSS w wr lo hi g cs D L K k)
    (hd : ∀ i j xs ys, i < j → L[i]? = some xs → L[j]? = some ys → 0 < xs.length → 0 < ys.length → D i ≠ D j) (hx : L[k]? = some xs) (h0 : 0 < xs.length) (hDk : D k = some ⟨gk, 0, none⟩) (hlo : lo ≤ gk) (hhi : gk < hi) (hb : ∃ c0, Bk wr gk 132 c0)
    (hm : MarkS wr w1 gk (K + 5 * (total (L.take k) : Int)) xs.length xs.length) : MarkSS w w1 lo hi g cs D L K (k + 1) := by
  obtain ⟨o, b, r⟩ := h
  obtain ⟨c0, hb⟩ := hb
  have hne : g ≠ gk := by
    intro e; subst e
    unfold Bk at b hb; rw [b] at hb
    injection hb with hb; injection hb with _ hb; cases hb
  have hkeep : ∀ q, q ≠ gk → q < wr.heap.size → w1.heap[q]? = wr.heap[q]? := fun q hq hql => hm.1.block q hql (by omega)
  refine ⟨o.trans (hm.1.mono hlo (by omega)), (hkeep g hne b.lt).trans b, fun i ys hi => ?_⟩
  by_cases e : i = k
  · subst e
    obtain rfl : xs = ys := by rw [hx] at hi; injection hi
    rw [if_pos (by omega), hDk]
    exact hm.done.keep hlo (by omega) fun _ _ _ => rfl
  · have hr := r i ys hi
    have e2 : (if i < k + 1 then nums (K + 5 * (total (L.take i) : Int)) ys.length else ys) = if i < k then nums (K + 5 * (total (L.take i) : Int)) ys.length else ys := by
      by_cases h1 : i < k
      · rw [if_pos h1, if_pos (by omega)]
      · rw [if_neg h1, if_neg (by omega)]
    rw [e2]
    intro hn
    obtain ⟨q, cq, hA, h1, h2, h3, h4⟩ := hr hn
    have hyl : 0 < ys.length := by
      by_cases h5 : i < k
      · rw [if_pos h5, nums_length] at hn; exact hn
      · rw [if_neg h5] at hn; exact hn
    refine ⟨q, cq, hA, h1, h2, (hkeep q (fun e3 => ?_) h3.lt).trans h3, h4⟩
    subst e3
    rcases Nat.lt_or_ge i k with h6 | h6
    · exact hd i k ys xs h6 hi hx hyl h0 (by rw [hA, hDk])
    · exact hd k i xs ys (by omega) hx hi h0 hyl (by rw [hA, hDk])
theorem MarkSS.skip {w wr : World} {lo hi g : Nat} {cs : Array Value} {D : Nat → Option Addr} {L : List (List Sm)} {K : Int} {k : Nat} {xs : List Sm} (h : MarkSS w wr lo hi g cs D L K k) (hx : L[k]? = some xs) (h0 : xs.length = 0) : MarkSS w wr lo hi g cs D L K (k + 1) := by
  obtain ⟨o, b, r⟩ := h
  refine ⟨o, b, fun i ys hi => ?_⟩
  by_cases e : i = k
  · subst e
    obtain rfl : xs = ys := by rw [hx] at hi; injection hi
    intro hn
    rw [if_pos (by omega), nums_length] at hn
    omega
  · have e2 : (if i < k + 1 then nums (K + 5 * (total (L.take i) : Int)) ys.length else ys) = if i < k then nums (K + 5 * (total (L.take i) : Int)) ys.length else ys := by
      by_cases h1 : i < k
      · rw [if_pos h1, if_pos (by omega)]
      · rw [if_neg h1, if_neg (by omega)]
    rw [e2]; exact r i ys hi

/-- What marks over a program come to. -/
def Marked (w : World) (lo hi : Nat) (A : Option Addr) (L : List (List Sm)) (K : Int) (e : Ending) (w' : World) : Prop :=
  e = .returned (.int .i64 (K + 5 * (total L : Int))) ∧ Only lo hi w w' ∧ OwnRows2 w' lo hi A (numsL K (L.map List.length))

theorem markSS_any (A : Option Addr) (L : List (List Sm)) (c : Nat) (K : Int) (w : World) (lo hi : Nat) (h : OwnRows2 w lo hi A L) (hl : L.length ≤ 1048576) (ht : total L ≤ 1048576) (hK : 0 ≤ K) (hK2 : K ≤ 10) :
    Calls Try.prog 51 #[.slice A L.length c, .int .i64 K] w (Marked w lo hi A L K) := by
  by_cases hn : 0 < L.length
  · obtain ⟨g, cs, D, C, rfl, hg1, hg2, hbk, hx, hd⟩ := h hn
    have start : Hid (MarkSS w w lo hi g cs D L K 0) := Lib.hid ⟨Only.refl _ _ _, hbk, fun i xs hi => by rw [if_neg (by omega)]; exact (hx i xs hi).2.2.2.2⟩
    have Hx := Lib.hid hx
    have Hd := Lib.hid hd
    have Hg1 := Lib.hid hg1
    have Hg2 := Lib.hid hg2
    clear hbk h hx hd hg1 hg2
    go_enter Try.func51, Try.ntmps51
    go_wp2
    go_loopw [1, 5] (fun q i wr => ∃ k : Nat, k ≤ L.length ∧ i = .int .i64 k ∧ q = .int .i64 (K + 5 * (total (L.take k) : Int)) ∧ MarkSS w wr lo hi g cs D L K k) (fun _ i _ => L.length - (intOf i).toNat)
    case atStart => exact ⟨0, Nat.zero_le _, rfl, by simp [total], start.out⟩
    case round =>
      obtain ⟨k, hk, rfl, rfl, hmk⟩ := hrel
      clear start
      have htk := total_take_le L k
      by_cases hlt : k < L.length
      · have hxk : L[k]? = some L[k] := List.getElem?_eq_getElem hlt
        obtain ⟨xs, hxs⟩ : ∃ xs, L[k]? = some xs := ⟨_, hxk⟩
        obtain ⟨h1, h2, h3, -, -⟩ := Hx.out k xs hxs
        have hcell := (hmk.2.1.cell k).trans h1
        have htot := total_take_succ hxs
        have hxl : xs.length ≤ 1048576 := by have := total_take_le L (k + 1); omega
        have Hxs := Lib.hid hxs
        have Htot := Lib.hid htot
        have Hmk := Lib.hid hmk
        clear hxk h1 h3 hxs htot hmk
        by_cases h0 : xs.length = 0
        · rw [h0] at hcell
          go_wp2_with (go_at_call 111; refine (markS_none _ _ _ _ (by omega) (by omega)).mono ?_; rintro e w' ⟨rfl, rfl⟩)
          go_roundw
          case rel => exact ⟨k + 1, by omega, by go_num, by rw [Htot.out, h0]; go_num, Hmk.out.skip Hxs.out h0⟩
          case measure => simp [intOf]; omega
        · have hrow := Hmk.out.2.2 k xs Hxs.out
          rw [if_neg (by omega)] at hrow
          obtain ⟨gk, c0, hDk, hlo, hhi, hbk, hcs⟩ := hrow (by omega)
          rw [hDk] at hcell
          have HDk := Lib.hid hDk
          have Hbk := Lib.hid hbk
          have Hcs := Lib.hid hcs
          have Hlo := Lib.hid hlo
          have Hhi := Lib.hid hhi
          have h00 : 0 < xs.length := by omega
          clear hDk hbk hcs hlo hhi h0
          go_wp2_with (go_at_call 111; refine (markS_any xs gk _ c0 _ _ Hbk.out Hcs.out h00 hxl (by omega) (by omega)).mono ?_; rintro e w1 ⟨rfl, hm1⟩; have Next := Lib.hid (Hmk.out.next Hd.out Hxs.out h00 HDk.out Hlo.out Hhi.out ⟨_, Hbk.out⟩ hm1); clear hm1)
          go_roundw
          case rel => exact ⟨k + 1, by omega, by go_num, by rw [Htot.out]; go_num, Next.out⟩
          case measure => simp [intOf]; omega
      · have hkl : k = L.length := by omega
        subst hkl
        have Hmk := Lib.hid hmk
        rw [List.take_length] at *
        clear hmk
        go_wp2
        go_ret
        refine ⟨rfl, Hmk.out.1, fun _ => ?_⟩
        refine ⟨g, cs, D, C, rfl, Hg1.out, Hg2.out, Hmk.out.2.1, fun i ys hi => ?_, fun i j ys zs hij hi hj h5 h6 => ?_⟩
        · have hil : i < L.length := by
            have := (List.getElem?_eq_some_iff.1 hi).1
            rw [numsL_length, List.length_map] at this; exact this
          have hLi : L[i]? = some L[i] := List.getElem?_eq_getElem hil
          rw [numsL_at hLi] at hi
          injection hi with hi
          subst hi
          rw [nums_length]
          obtain ⟨h1, h2, h3, h4, -⟩ := Hx.out i _ hLi
          refine ⟨h1, h2, h3, h4, ?_⟩
          have := Hmk.out.2.2 i _ hLi
          rw [if_pos hil] at this
          exact this
        · have hil : i < L.length := by
            have := (List.getElem?_eq_some_iff.1 hi).1
            rw [numsL_length, List.length_map] at this; exact this
          have hjl : j < L.length := by
            have := (List.getElem?_eq_some_iff.1 hj).1
            rw [numsL_length, List.length_map] at this; exact this
          have hLi : L[i]? = some L[i] := List.getElem?_eq_getElem hil
          have hLj : L[j]? = some L[j] := List.getElem?_eq_getElem hjl
          rw [numsL_at hLi] at hi
          rw [numsL_at hLj] at hj
          injection hi with hi
          injection hj with hj
          subst hi hj
          rw [nums_length] at h5 h6
          exact Hd.out i j _ _ hij hLi hLj h5 h6
  · have hL : L = [] := List.eq_nil_of_length_eq_zero (by omega)
    subst hL
    go_enter Try.func51, Try.ntmps51
    go_wp2
    refine wp_loop_rounds 1 ?_
    rw [rounds_succ]
    go_wp2
    go_ret
    exact ⟨by simp [total], Only.refl _ _ _, fun hn => absurd hn (by simp [numsL])⟩

theorem markP_any (A : Option Addr) (L : List (List Sm)) (c : Nat) (K : Int) (w : World) (lo hi : Nat) (h : OwnRows2 w lo hi A L) (hhi : hi ≤ w.heap.size) (hl : L.length ≤ 1048576) (ht : total L ≤ 1048576) (hK : 0 ≤ K) (hK2 : K ≤ 10) :
    Calls Try.prog 16 #[.agg #[.slice A L.length c], .int .i64 K] w (Marked w lo hi A L K) := by
  obtain ⟨W, hW⟩ : ∃ W, W = w.alloc (.cells #[.slice A L.length c] 30) := ⟨_, rfl⟩
  have bW : Below w.heap.size w W := by rw [hW]; go_grown
  have BW := Lib.hid bW
  have HR := Lib.hid (h.below bW hhi)
  have HW := Lib.hid hW
  clear hW bW h
  go_enter Try.func16, Try.ntmps16
  go_wp2_with fail
  rw [← HW.out]
  refine (markSS_any A L c K W lo hi HR.out hl ht hK hK2).mono ?_
  rintro e w1 ⟨rfl, ho, hown⟩
  have Ho := Lib.hid (Only.trans (Only.of_below BW.out) ho)
  have Hown := Lib.hid hown
  clear ho hown
  go_wp2
  go_ret
  exact ⟨rfl, Ho.out, Hown.out⟩

end Go.Proofs.Ytiljakbjbiinkaa
