/-
  Programs under the names that the walks of the exact laws use: headers, reading, owning, sizes, copies, equality, marks.
-/
import Derived.Test.YtaghidaamcnpkabMark
import Derived.Test.YtaghidaamcnpkabSize
import Derived.Test.YtaghidaamcnpkabEq
import Derived.Test.YtaghidaamcnpkabCopy
import Derived.Test.YtaghidaamcnpkabSpecOk
import Derived.Test.YtaghidaamcnpkabRec0
namespace Go.Proofs.Ytaghidaamcnpkab
open Go.RowKit Pl
set_option maxHeartbeats 400000
set_option linter.unusedVariables false

theorem total_take_succ {L : List (List Sm)} {k : Nat} {xs : List Sm} (h : L[k]? = some xs) : total (L.take (k + 1)) = total (L.take k) + xs.length := by
  rw [List.take_add_one, h]
  simp [total]
theorem total_take_le (L : List (List Sm)) (k : Nat) : total (L.take k) ≤ total L := by
  have : total L = total (L.take k) + total (L.drop k) := by
    simp only [total, List.map_take, List.map_drop]
    rw [← List.sum_append, List.take_append_drop]
  omega
theorem numsL_at {L : List (List Sm)} : ∀ {K : Int} {i : Nat} {xs : List Sm}, L[i]? = some xs → (numsL K (L.map List.length))[i]? = some (nums (K + 5 * (total (L.take i) : Int)) xs.length) := by
  induction L with
  | nil => intro K i xs h; simp at h
  | cons y r ih =>
    intro K i xs h
    cases i with
    | zero => simp at h; subst h; simp [numsL, total]
    | succ i =>
      simp at h
      rw [List.map_cons, numsL, List.getElem?_cons_succ, ih h, List.take_succ_cons, total_cons]
      congr 2
      rw [Int.natCast_add]; omega
theorem numsL_length (L : List Nat) : ∀ K : Int, (numsL K L).length = L.length := by
  induction L with
  | nil => intro K; rfl
  | cons y r ih => intro K; simp [numsL, ih]

/-- What marks over a program have come to behind k threads. -/
def MarkSS (w wr : World) (lo hi g : Nat) (cs : Array Value) (D : Nat → Option Addr) (L : List (List Sm)) (K : Int) (k : Nat) : Prop :=
  Only lo hi w wr ∧ Bk wr g 111 cs ∧ ∀ (i : Nat) (xs : List Sm), L[i]? = some xs → OwnRow wr lo hi (D i) (if i < k then nums (K + 5 * (total (L.take i) : Int)) xs.length else xs)
theorem MarkSS.next {w wr w1 : World} {lo hi g : Nat} {cs : Array Value} {D : Nat → Option Addr} {L : List (List Sm)} {K : Int} {k gk : Nat} {xs : List Sm} (h : MarkSS w wr lo hi g cs D L K k)
    (hd : ∀ i j xs ys, i < j → L[i]? = some xs → L[j]? = some ys → 0 < xs.length → 0 < ys.length → D i ≠ D j) (hx : L[k]? = some xs) (h0 : 0 < xs.length) (hDk : D k = some ⟨gk, 0, none⟩) (hlo : lo ≤ gk) (hhi : gk < hi) (hb : ∃ c0, Bk wr gk 107 c0)
    (hm : MarkS wr w1 gk (K + 5 * (total (L.take k) : Int)) xs.length xs.length) : MarkSS w w1 lo hi g cs D L K (k + 1) := by
  obtain ⟨o, b, r⟩ := h
  obtain ⟨c0, hb⟩ := hb
  have hne : g ≠ gk := by
    intro e; subst e
    unfold Bk at b hb; rw [b] at hb
    injection hb with hb; injection hb with _ hb; cases hb
  have hkeep : ∀ q, q ≠ gk → q < wr.heap.size → w1.heap[q]? = wr.heap[q]? := fun q hq hql => hm.1.block q hql (by omega)
  refine ⟨o.trans (hm.1.mono hlo (by omega)), (hkeep g hne b.lt).trans b, fun i ys hi => ?_⟩
  by_cases e : i = k
  · subst e
    obtain rfl : xs = ys := by rw [hx] at hi; injection hi
    rw [if_pos (by omega), hDk]
    exact hm.done.keep hlo (by omega) fun _ _ _ => rfl
  · have hr := r i ys hi
    have e2 : (if i < k + 1 then nums (K + 5 * (total (L.take i) : Int)) ys.length else ys) = if i < k then nums (K + 5 * (total (L.take i) : Int)) ys.length else ys := by
      by_cases h1 : i < k
      · rw [if_pos h1, if_pos (by omega)]
      · rw [if_neg h1, if_neg (by omega)]
    rw [e2]
    intro hn
    obtain ⟨q, cq, hA, h1, h2, h3, h4⟩ := hr hn
    have hyl : 0 < ys.length := by
      by_cases h5 : i < k
      · rw [if_pos h5, nums_length] at hn; exact hn
      · rw [if_neg h5] at hn; exact hn
    refine ⟨q, cq, hA, h1, h2, (hkeep q (fun e3 => ?_) h3.lt).trans h3, h4⟩
    subst e3
    rcases Nat.lt_or_ge i k with h6 | h6
    · exact hd i k ys xs h6 hi hx hyl h0 (by rw [hA, hDk])
    · exact hd k i xs ys (by omega) hx hi h0 hyl (by rw [hA, hDk])
theorem MarkSS.skip {w wr : World} {lo hi g : Nat} {cs : Array Value} {D : Nat → Option Addr} {L : List (List Sm)} {K : Int} {k : Nat} {xs : List Sm} (h : MarkSS w wr lo hi g cs D L K k) (hx : L[k]? = some xs) (h0 : xs.length = 0) : MarkSS w wr lo hi g cs D L K (k + 1) := by
  obtain ⟨o, b, r⟩ := h
  refine ⟨o, b, fun i ys hi => ?_⟩
  by_cases e : i = k
  · subst e
    obtain rfl : xs = ys := by rw [hx] at hi; injection hi
    intro hn
    rw [if_pos (by omega), nums_length] at hn
    omega
  · have e2 : (if i < k + 1 then nums (K + 5 * (total (L.take i) : Int)) ys.length else ys) = if i < k then nums (K + 5 * (total (L.take i) : Int)) ys.length else ys := by
      by_cases h1 : i < k
      · rw [if_pos h1, if_pos (by omega)]
      · rw [if_neg h1, if_neg (by omega)]
    rw [e2]; exact r i ys hi

/-- What marks over a program come to. -/
def Marked (w : World) (lo hi : Nat) (A : Option Addr) (L : List (List Sm)) (K : Int) (e : Ending) (w' : World) : Prop :=
  e = .returned (.int .i64 (K + 5 * (total L : Int))) ∧ Only lo hi w w' ∧ OwnRows2 w' lo hi A (numsL K (L.map List.length))

theorem markSS_any (A : Option Addr) (L : List (List Sm)) (c : Nat) (K : Int) (w : World) (lo hi : Nat) (h : OwnRows2 w lo hi A L) (hl : L.length ≤ 1048576) (ht : total L ≤ 1048576) (hK : 0 ≤ K) (hK2 : K ≤ 10) :
    Calls Try.prog 39 #[.slice A L.length c, .int .i64 K] w (Marked w lo hi A L K) := by
  by_cases hn : 0 < L.length
  · obtain ⟨g, cs, D, C, rfl, hg1, hg2, hbk, hx, hd⟩ := h hn
    have start : Hid (MarkSS w w lo hi g cs D L K 0) := Lib.hid ⟨Only.refl _ _ _, hbk, fun i xs hi => by rw [if_neg (by omega)]; exact (hx i xs hi).2.2.2.2⟩
    have Hx := Lib.hid hx
    have Hd := Lib.hid hd
    have Hg1 := Lib.hid hg1
    have Hg2 := Lib.hid hg2
    clear hbk h hx hd hg1 hg2
    go_enter Try.func39, Try.ntmps39
    go_wp2
    go_loopw [1, 5] (fun q i wr => ∃ k : Nat, k ≤ L.length ∧ i = .int .i64 k ∧ q = .int .i64 (K + 5 * (total (L.take k) : Int)) ∧ MarkSS w wr lo hi g cs D L K k) (fun _ i _ => L.length - (intOf i).toNat)
    case atStart => exact ⟨0, Nat.zero_le _, rfl, by simp [total], start.out⟩
    case round =>
      obtain ⟨k, hk, rfl, rfl, hmk⟩ := hrel
      clear start
      have htk := total_take_le L k
      by_cases hlt : k < L.length
      · have hxk : L[k]? = some L[k] := List.getElem?_eq_getElem hlt
        obtain ⟨xs, hxs⟩ : ∃ xs, L[k]? = some xs := ⟨_, hxk⟩
        obtain ⟨h1, h2, h3, -, -⟩ := Hx.out k xs hxs
        have hcell := (hmk.2.1.cell k).trans h1
        have htot := total_take_succ hxs
        have hxl : xs.length ≤ 1048576 := by have := total_take_le L (k + 1); omega
        have Hxs := Lib.hid hxs
        have Htot := Lib.hid htot
        have Hmk := Lib.hid hmk
        clear hxk h1 h3 hxs htot hmk
        by_cases h0 : xs.length = 0
        · rw [h0] at hcell
          go_wp2_with (go_at_call 78; refine (markS_none _ _ _ _ (by omega) (by omega)).mono ?_; rintro e w' ⟨rfl, rfl⟩)
          go_roundw
          case rel => exact ⟨k + 1, by omega, by go_num, by rw [Htot.out, h0]; go_num, Hmk.out.skip Hxs.out h0⟩
          case measure => simp [intOf]; omega
        · have hrow := Hmk.out.2.2 k xs Hxs.out
          rw [if_neg (by omega)] at hrow
          obtain ⟨gk, c0, hDk, hlo, hhi, hbk, hcs⟩ := hrow (by omega)
          rw [hDk] at hcell
          have HDk := Lib.hid hDk
          have Hbk := Lib.hid hbk
          have Hcs := Lib.hid hcs
          have Hlo := Lib.hid hlo
          have Hhi := Lib.hid hhi
          have h00 : 0 < xs.length := by omega
          clear hDk hbk hcs hlo hhi h0
          go_wp2_with (go_at_call 78; refine (markS_any xs gk _ c0 _ _ Hbk.out Hcs.out h00 hxl (by omega) (by omega)).mono ?_; rintro e w1 ⟨rfl, hm1⟩; have Next := Lib.hid (Hmk.out.next Hd.out Hxs.out h00 HDk.out Hlo.out Hhi.out ⟨_, Hbk.out⟩ hm1); clear hm1)
          go_roundw
          case rel => exact ⟨k + 1, by omega, by go_num, by rw [Htot.out]; go_num, Next.out⟩
          case measure => simp [intOf]; omega
      · have hkl : k = L.length := by omega
        subst hkl
        have Hmk := Lib.hid hmk
        rw [List.take_length] at *
        clear hmk
        go_wp2
        go_ret
        refine ⟨rfl, Hmk.out.1, fun _ => ?_⟩
        refine ⟨g, cs, D, C, rfl, Hg1.out, Hg2.out, Hmk.out.2.1, fun i ys hi => ?_, fun i j ys zs hij hi hj h5 h6 => ?_⟩
        · have hil : i < L.length := by
            have := (List.getElem?_eq_some_iff.1 hi).1
            rw [numsL_length, List.length_map] at this; exact this
          have hLi : L[i]? = some L[i] := List.getElem?_eq_getElem hil
          rw [numsL_at hLi] at hi
          injection hi with hi
          subst hi
          rw [nums_length]
          obtain ⟨h1, h2, h3, h4, -⟩ := Hx.out i _ hLi
          refine ⟨h1, h2, h3, h4, ?_⟩
          have := Hmk.out.2.2 i _ hLi
          rw [if_pos hil] at this
          exact this
        · have hil : i < L.length := by
            have := (List.getElem?_eq_some_iff.1 hi).1
            rw [numsL_length, List.length_map] at this; exact this
          have hjl : j < L.length := by
            have := (List.getElem?_eq_some_iff.1 hj).1
            rw [numsL_length, List.length_map] at this; exact this
          have hLi : L[i]? = some L[i] := List.getElem?_eq_getElem hil
          have hLj : L[j]? = some L[j] := List.getElem?_eq_getElem hjl
          rw [numsL_at hLi] at hi
          rw [numsL_at hLj] at hj
          injection hi with hi
          injection hj with hj
          subst hi hj
          rw [nums_length] at h5 h6
          exact Hd.out i j _ _ hij hLi hLj h5 h6
  · have hL : L = [] := List.eq_nil_of_length_eq_zero (by omega)
    subst hL
    go_enter Try.func39, Try.ntmps39
    go_wp2
    refine wp_loop_rounds 1 ?_
    rw [rounds_succ]
    go_wp2
    go_ret
    exact ⟨by simp [total], Only.refl _ _ _, fun hn => absurd hn (by simp [numsL])⟩

theorem markP_any (A : Option Addr) (L : List (List Sm)) (c : Nat) (K : Int) (w : World) (lo hi : Nat) (h : OwnRows2 w lo hi A L) (hhi : hi ≤ w.heap.size) (hl : L.length ≤ 1048576) (ht : total L ≤ 1048576) (hK : 0 ≤ K) (hK2 : K ≤ 10) :
    Calls Try.prog 14 #[.agg #[.slice A L.length c], .int .i64 K] w (Marked w lo hi A L K) := by
  obtain ⟨W, hW⟩ : ∃ W, W = w.alloc (.cells #[.slice A L.length c] 32) := ⟨_, rfl⟩
  have bW : Below w.heap.size w W := by rw [hW]; go_grown
  have BW := Lib.hid bW
  have HR := Lib.hid (h.below bW hhi)
  have HW := Lib.hid hW
  clear hW bW h
  go_enter Try.func14, Try.ntmps14
  go_wp2_with fail
  rw [← HW.out]
  refine (markSS_any A L c K W lo hi HR.out hl ht hK hK2).mono ?_
  rintro e w1 ⟨rfl, ho, hown⟩
  have Ho := Lib.hid (Only.trans (Only.of_below BW.out) ho)
  have Hown := Lib.hid hown
  clear ho hown
  go_wp2
  go_ret
  exact ⟨rfl, Ho.out, Hown.out⟩

end Go.Proofs.Ytaghidaamcnpkab
namespace Go.Proofs.Ytaghidaamcnpkab
open Go.RowKit Pl
set_option maxHeartbeats 400000
set_option linter.unusedVariables false

abbrev Pg := List (List Sm)
structure PgH where
  A : Option Addr
  c : Nat
deriving Inhabited
abbrev PgV (h : PgH) (o : Pg) : Value := .agg #[.slice h.A o.length h.c]
def PgR (w : World) (B : Nat) (h : PgH) (o : Pg) : Prop := Rows2 w B h.A o
structure PgL (o : Pg) (m : Nat) : Prop where
  l : o.length ≤ m
structure PgO (w : World) (lo hi : Nat) (h : PgH) (o : Pg) : Prop where
  o : OwnRows2 w lo hi h.A o
section
variable {w w' : World} {B B' B'' lo hi lo' hi' : Nat} {h : PgH} {o : Pg}
theorem PgR.below (r : PgR w B h o) (hb : Below B' w w') (hB : B ≤ B') : PgR w' B h o := Rows2.below r hb hB
theorem PgR.up (r : PgR w B h o) (hb : Below B' w w') (hB : B ≤ B') (hB2 : B ≤ B'') : PgR w' B'' h o := Rows2.up r hb hB hB2
theorem PgO.keep (r : PgO w lo hi h o) (hl : lo' ≤ lo) (hh : hi ≤ hi') (hk : ∀ i, lo ≤ i → i < hi → w'.heap[i]? = w.heap[i]?) : PgO w' lo' hi' h o := ⟨r.o.keep hl hh hk⟩
theorem PgO.below (r : PgO w lo hi h o) (hb : Below B w w') (hB : hi ≤ B) : PgO w' lo hi h o := ⟨r.o.below hb hB⟩
theorem PgO.rd (r : PgO w lo hi h o) : PgR w hi h o := r.o.rows
end
/-- A program that is small enough for the laws: how long, how long each thread, how long together. -/
structure PgS (o : Pg) : Prop where
  l : o.length ≤ 1048576
  e : ∀ xs ∈ o, xs.length ≤ 1048576
  t : total o ≤ 1048576
def szPg (a : Int) (o : Pg) : Int := sz2 a o
theorem szPg_ge (a : Int) (o : Pg) (ha : 0 ≤ a) : -1 ≤ szPg a o ∧ szPg a o ≤ a := by
  refine ⟨sz2_ge _ _, ?_⟩
  have key : ∀ (L : Pg) (x : Int), 0 ≤ x → szL x L ≤ x := by
    intro L
    induction L with
    | nil => intro x _; simp [szL]
    | cons y r ih =>
      intro x hx
      unfold szL
      split
      · omega
      · have := ih _ (show 0 ≤ sz1 x y.length by omega)
        have h2 : sz1 x y.length ≤ x := by unfold sz1; split <;> omega
        omega
  unfold szPg sz2
  split
  · omega
  · have := key o (a - o.length) (by omega); omega
theorem szPg_small {a : Int} {o : Pg} (h : 0 ≤ szPg a o) (ha : 0 ≤ a) (ha2 : a ≤ 1048576) : PgS o := by
  have h1 := sz2_total h
  exact ⟨by omega, fun xs hx => by have := mem_le_total hx; omega, by omega⟩
theorem szPg_any (h : PgH) (o : Pg) (left : Int) (w : World) (B : Nat) (hR : PgR w B h o) (hB : B ≤ w.heap.size) (hL : PgL o maxLen) (h0 : 0 ≤ left) (h1 : left ≤ 1048576) (r : Int) (hr : Hid (szPg left o = r)) :
    Calls Try.prog 6 #[PgV h o, .int .i64 left] w fun e w' => e = .returned (.int .i64 r) ∧ Below w.heap.size w w' :=
  szP_any h.A o h.c left w B hR hB hL.l h0 h1 r hr (by rw [← hr.out]; exact (szPg_ge _ _ h0).1)
def ToPg (w : World) (o : Pg) (e : Ending) (w' : World) : Prop := ∃ h, e = .returned (PgV h o) ∧ Below w.heap.size w w' ∧ w.heap.size ≤ w'.heap.size ∧ PgO w' w.heap.size w'.heap.size h o
theorem toPg_any (h : PgH) (o : Pg) (w : World) (B : Nat) (hR : PgR w B h o) (hB : B ≤ w.heap.size) (hS : PgS o) :
    Calls Try.prog 8 #[PgV h o] w (ToPg w o) :=
  (toP_any h.A o h.c w B hR hB hS.l (Lib.hid hS.e)).mono fun e w' ⟨A, c, he, hb, ho⟩ => ⟨⟨A, c⟩, he, hb, hb.size, ⟨ho⟩⟩
theorem eqPg_any (h1 h2 : PgH) (o1 o2 : Pg) (w : World) (B : Nat) (r1 : PgR w B h1 o1) (r2 : PgR w B h2 o2) (hB : B ≤ w.heap.size) (L1 : PgL o1 maxLen) (L2 : PgL o2 maxLen) (r : Bool) (hr : Hid (decide (o1 = o2) = r)) :
    Calls Try.prog 12 #[PgV h1 o1, PgV h2 o2] w fun e w' => e = .returned (.bool r) ∧ Below w.heap.size w w' :=
  eqP_any h1.A h2.A o1 o2 h1.c h2.c w B r1 r2 hB L1.l L2.l r hr
theorem markPg_any (h : PgH) (o : Pg) (K : Int) (w : World) (lo hi : Nat) (hO : PgO w lo hi h o) (hhi : hi ≤ w.heap.size) (hS : PgS o) (hK : 0 ≤ K) (hK2 : K ≤ 10) :
    Calls Try.prog 14 #[PgV h o, .int .i64 K] w fun e w' => e = .returned (.int .i64 (K + 5 * (total o : Int))) ∧ Only lo hi w w' :=
  (markP_any h.A o h.c K w lo hi hO.o hhi hS.l hS.t hK hK2).mono fun e w' ⟨he, ho, _⟩ => ⟨he, ho⟩
theorem PgS_L {o : Pg} (s : PgS o) : PgL o maxLen := ⟨by unfold maxLen; have := s.l; omega⟩
end Go.Proofs.Ytaghidaamcnpkab
