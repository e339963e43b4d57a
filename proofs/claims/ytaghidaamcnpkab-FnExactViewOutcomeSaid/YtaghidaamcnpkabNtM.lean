/-
  What the laws' marks write into lists of notes, and whether the marks are held.
-/
import Derived.Test.YtaghidaamcnpkabNtC
namespace Go.Proofs.Ytaghidaamcnpkab
open Go.RowKit Pl Go.BigFrame
set_option maxHeartbeats 2000000
set_option maxRecDepth 100000
set_option linter.unusedVariables false

def mk1 (K : Int) (x : Nt) : Nt := ⟨K, upI (K + 1) x.w.length, (K + 1 + (x.w.length : Int)) % 3 == 0⟩
theorem mk1_len (K : Int) (x : Nt) : (mk1 K x).w.length = x.w.length := by simp [mk1]
/-- How many marks a list of notes takes. -/
def allNts (o : Nts) : Int := (tN o : Int) + (o.length : Int)
def allNss (o : Nss) : Int := (o.map allNts).sum
theorem allNts_le (o : Nts) : 0 ≤ allNts o ∧ allNts o ≤ 2 * (tN o : Int) := by
  have := tN_len o
  unfold allNts; omega
theorem allNss_le (o : Nss) : 0 ≤ allNss o ∧ allNss o ≤ 2 * (tNN o : Int) := by
  induction o with
  | nil => simp [allNss]
  | cons x r ih =>
    have := allNts_le x
    have e : allNss (x :: r) = allNts x + allNss r := by simp [allNss]
    rw [e, tNN_cons]; omega
theorem allNts_succ {o : Nts} {k : Nat} {x : Nt} (h : o[k]? = some x) : allNts (o.take (k + 1)) = allNts (o.take k) + 1 + (x.w.length : Int) + 1 := by
  have hk := (List.getElem?_eq_some_iff.1 h).1
  unfold allNts
  rw [tN_take_succ h, List.length_take, List.length_take]
  omega
theorem allNss_succ {o : Nss} {k : Nat} {x : Nts} (h : o[k]? = some x) : allNss (o.take (k + 1)) = allNss (o.take k) + allNts x := by
  unfold allNss
  rw [List.take_add_one, h]; simp
theorem allNts_take (o : Nts) (k : Nat) : 0 ≤ allNts (o.take k) ∧ allNts (o.take k) ≤ 2 * (tN o : Int) := by
  have h1 := allNts_le (o.take k)
  have h2 := tN_split o k
  omega
theorem allNss_take (o : Nss) (k : Nat) : 0 ≤ allNss (o.take k) ∧ allNss (o.take k) ≤ 2 * (tNN o : Int) := by
  have h1 := allNss_le (o.take k)
  have h2 := tNN_split o k
  omega
def upNts : Int → Nts → Nts
  | _, [] => []
  | K, x :: r => mk1 K x :: upNts (K + 1 + (x.w.length : Int) + 1) r
theorem upNts_length : ∀ (o : Nts) (K : Int), (upNts K o).length = o.length := by
  intro o
  induction o with
  | nil => intro K; rfl
  | cons x r ih => intro K; simp [upNts, ih]
theorem upNts_at : ∀ {o : Nts} {K : Int} {i : Nat} {x : Nt}, o[i]? = some x → (upNts K o)[i]? = some (mk1 (K + allNts (o.take i)) x) := by
  intro o
  induction o with
  | nil => intro K i x h; simp at h
  | cons y r ih =>
    intro K i x h
    cases i with
    | zero => simp at h; subst h; simp [upNts, allNts]
    | succ i =>
      simp at h
      rw [upNts, List.getElem?_cons_succ, ih h, List.take_succ_cons]
      congr 2
      unfold allNts
      rw [tN_cons, List.length_cons]; omega
theorem upNts_inv {o : Nts} {K : Int} {i : Nat} {x : Nt} (h : (upNts K o)[i]? = some x) : ∃ y, o[i]? = some y ∧ x = mk1 (K + allNts (o.take i)) y := by
  have hl := (List.getElem?_eq_some_iff.1 h).1
  rw [upNts_length] at hl
  refine ⟨o[i], List.getElem?_eq_getElem hl, ?_⟩
  rw [upNts_at (List.getElem?_eq_getElem hl)] at h
  injection h with h
  exact h.symm
def upNss : Int → Nss → Nss
  | _, [] => []
  | K, x :: r => upNts K x :: upNss (K + allNts x) r
theorem upNss_length : ∀ (o : Nss) (K : Int), (upNss K o).length = o.length := by
  intro o
  induction o with
  | nil => intro K; rfl
  | cons x r ih => intro K; simp [upNss, ih]
theorem upNss_at : ∀ {o : Nss} {K : Int} {i : Nat} {x : Nts}, o[i]? = some x → (upNss K o)[i]? = some (upNts (K + allNss (o.take i)) x) := by
  intro o
  induction o with
  | nil => intro K i x h; simp at h
  | cons y r ih =>
    intro K i x h
    cases i with
    | zero => simp at h; subst h; simp [upNss, allNss]
    | succ i =>
      simp at h
      rw [upNss, List.getElem?_cons_succ, ih h, List.take_succ_cons]
      congr 2
      simp only [allNss, List.map_cons, List.sum_cons]; omega
theorem upNss_inv {o : Nss} {K : Int} {i : Nat} {x : Nts} (h : (upNss K o)[i]? = some x) : ∃ y, o[i]? = some y ∧ x = upNts (K + allNss (o.take i)) y := by
  have hl := (List.getElem?_eq_some_iff.1 h).1
  rw [upNss_length] at hl
  refine ⟨o[i], List.getElem?_eq_getElem hl, ?_⟩
  rw [upNss_at (List.getElem?_eq_getElem hl)] at h
  injection h with h
  exact h.symm

/-- What marks have come to behind k notes. -/
def mkX (K : Int) (o : Nts) (k i : Nat) (x : Nt) : Nt := if i < k then mk1 (K + allNts (o.take i)) x else x
theorem mkX_len (K : Int) (o : Nts) (k i : Nat) (x : Nt) : (mkX K o k i x).w.length = x.w.length := by unfold mkX; split <;> simp [mk1]
def MkN (w wr : World) (lo hi g : Nat) (m : Nat → Nat) (H : Nat → NtH) (o : Nts) (K : Int) (k : Nat) : Prop :=
  Only lo hi w wr ∧ ∃ cs, Bk wr g 127 cs ∧ ∀ (i : Nat) (x : Nt), o[i]? = some x → NtC cs (i * 3) (H i) (mkX K o k i x) ∧ OwnVs wr (m i) (m (i + 1)) 3 (H i).A (ints (mkX K o k i x).w)
theorem MkN.next {w wr w1 : World} {lo hi g : Nat} {m : Nat → Nat} {H : Nat → NtH} {o : Nts} {K : Int} {k : Nat} {x : Nt} (h : MkN w wr lo hi g m H o K k) (hx : o[k]? = some x) (h0 : lo ≤ g) (h1 : g < m 0) (hm : ∀ i j, i ≤ j → m i ≤ m j) (hm2 : ∀ i, m i ≤ hi) (hhi : hi ≤ wr.heap.size)
    (ho : Only (m k) (m (k + 1)) (wr.setCell ⟨g, k * 3, none⟩ (.int .i64 (K + allNts (o.take k)))) w1) (hv : OwnVs w1 (m k) (m (k + 1)) 3 (H k).A (ints (upI (K + allNts (o.take k) + 1) x.w.length))) :
    MkN w (w1.setCell ⟨g, k * 3 + 2, none⟩ (.bool ((K + allNts (o.take k) + 1 + (x.w.length : Int)) % 3 == 0))) lo hi g m H o K (k + 1) := by
  obtain ⟨on, cs, hb, hc⟩ := h
  have e0 := hm 0 k (Nat.zero_le _)
  have e1 := hm k (k + 1) (Nat.le_succ _)
  have e2 := hm2 (k + 1)
  have hset : ∀ i, i ≠ g → (w1.setCell ⟨g, k * 3 + 2, none⟩ (.bool ((K + allNts (o.take k) + 1 + (x.w.length : Int)) % 3 == 0))).heap[i]? = w1.heap[i]? := fun i hi => Below.heap_setCell _ _ _ i hi
  have hsz : (wr.setCell ⟨g, k * 3, none⟩ (.int .i64 (K + allNts (o.take k)))).heap.size = wr.heap.size := World.size_setCell ..
  have hb1 : Bk w1 g 127 (cs.setIfInBounds (k * 3) (.int .i64 (K + allNts (o.take k)))) := only_bk (hb.set _ _) ho (by omega)
  have hb2 := hb1.set (k * 3 + 2) (.bool ((K + allNts (o.take k) + 1 + (x.w.length : Int)) % 3 == 0))
  have hkk := hc k x hx
  obtain ⟨⟨q0, q1, q2⟩, _⟩ := hkk
  have s0 := (Array.getElem?_eq_some_iff.1 q0).1
  have s1 := (Array.getElem?_eq_some_iff.1 q1).1
  have s2 := (Array.getElem?_eq_some_iff.1 q2).1
  refine ⟨((on.setCell (p := ⟨g, k * 3, none⟩) h0 (by show g < hi; omega) _).trans (ho.mono (by omega) e2)).setCell (p := ⟨g, k * 3 + 2, none⟩) h0 (by show g < hi; omega) _, _, hb2, fun i y hi => ?_⟩
  have hmi := hm 0 i (Nat.zero_le _)
  by_cases e : i = k
  · subst e
    obtain rfl : x = y := by rw [hx] at hi; injection hi
    have ee : mkX K o (i + 1) i x = mk1 (K + allNts (o.take i)) x := by unfold mkX; rw [if_pos (Nat.lt_succ_self _)]
    have ee2 : mkX K o i i x = x := by unfold mkX; rw [if_neg (Nat.lt_irrefl _)]
    rw [ee2] at q1
    rw [ee]
    refine ⟨⟨?_, ?_, ?_⟩, ?_⟩
    · rw [Array.getElem?_setIfInBounds_ne (by omega), Array.getElem?_setIfInBounds_self_of_lt s0]; rfl
    · rw [Array.getElem?_setIfInBounds_ne (by omega), Array.getElem?_setIfInBounds_ne (by omega), q1, mk1_len]
    · rw [Array.getElem?_setIfInBounds_self_of_lt (by simpa using s2)]; rfl
    · exact hv.keep (Nat.le_refl _) (Nat.le_refl _) fun q p1 p2 => hset q (by omega)
  · obtain ⟨⟨c0, c1, c2⟩, c3⟩ := hc i y hi
    have ee : mkX K o (k + 1) i y = mkX K o k i y := by
      unfold mkX
      by_cases h4 : i < k
      · rw [if_pos h4, if_pos (by omega)]
      · rw [if_neg h4, if_neg (by omega)]
    rw [ee]
    refine ⟨⟨?_, ?_, ?_⟩, ?_⟩
    · rw [Array.getElem?_setIfInBounds_ne (by omega), Array.getElem?_setIfInBounds_ne (by omega)]; exact c0
    · rw [Array.getElem?_setIfInBounds_ne (by omega), Array.getElem?_setIfInBounds_ne (by omega)]; exact c1
    · rw [Array.getElem?_setIfInBounds_ne (by omega), Array.getElem?_setIfInBounds_ne (by omega)]; exact c2
    · refine c3.keep (Nat.le_refl _) (Nat.le_refl _) fun q p1 p2 => ?_
      have p3 := hm2 (i + 1)
      have p4 : q < m k ∨ m (k + 1) ≤ q := by
        rcases Nat.lt_or_ge i k with h5 | h5
        · have := hm (i + 1) k (by omega); omega
        · have := hm (k + 1) i (by omega); omega
      rw [hset q (by omega), ho.block q (by rw [hsz]; omega) p4]
      exact Below.heap_setCell _ _ _ q (by show q ≠ g; omega)
theorem markNts_any (h : NtsH) (o : Nts) (K : Int) (w : World) (lo hi : Nat) (hO : NtsO w lo hi h o) (hhi : hi ≤ w.heap.size) (hL : NtsS o) (hK : 0 ≤ K) (hK2 : K ≤ 100000000) :
    Calls Try.prog 102 #[NtsV h o, .int .i64 K] w fun e w' => e = .returned (.int .i64 (K + allNts o)) ∧ Only lo hi w w' ∧ NtsO w' lo hi h (upNts K o) := by
  obtain ⟨A, c⟩ := h
  have hS := hL.t
  have hll0 := tN_len o
  have hLl := Lib.hid hL.l.e
  by_cases hn : 0 < o.length
  · obtain ⟨g, cs, m, H, hA, h0, h1, hm, hm2, hbk, hx⟩ := hO.o0 hn
    obtain rfl : A = some ⟨g, 0, none⟩ := hA
    have start : Hid (MkN w w lo hi g m H o K 0) := Lib.hid ⟨Only.refl _ _ _, cs, hbk, fun i x hi => by
      have ee : mkX K o 0 i x = x := by unfold mkX; rw [if_neg (by omega)]
      rw [ee]; exact hx i x hi⟩
    have M0 := Lib.hid h0
    have M1 := Lib.hid h1
    have Hm := Lib.hid hm
    have Hm2 := Lib.hid hm2
    clear hbk hO hx h0 h1 hm hm2 hL
    show Calls Try.prog 102 #[.slice (some ⟨g, 0, none⟩) o.length c, .int .i64 K] w _
    go_enter Try.func102, Try.ntmps102
    go_wp2
    go_loopw [1, 5] (fun q i wr => ∃ k : Nat, k ≤ o.length ∧ i = .int .i64 k ∧ q = .int .i64 (K + allNts (o.take k)) ∧ MkN w wr lo hi g m H o K k) (fun _ i _ => o.length - (intOf i).toNat)
    case atStart => exact ⟨0, Nat.zero_le _, rfl, by simp [allNts], start.out⟩
    case round =>
      obtain ⟨k, hk, rfl, rfl, hmk⟩ := hrel
      clear start
      have htk := allNts_take o k
      by_cases hlt : k < o.length
      · obtain ⟨x, hx⟩ : ∃ x, o[k]? = some x := ⟨_, List.getElem?_eq_getElem hlt⟩
        obtain ⟨on, cs1, hbk, hcs⟩ := id hmk
        obtain ⟨⟨c0, c1, c2⟩, own⟩ := hcs k x hx
        have ee : mkX K o k k x = x := by unfold mkX; rw [if_neg (Nat.lt_irrefl _)]
        rw [ee] at c0 c1 c2 own
        have d0 := (hbk.cell (k * 3)).trans c0
        have d1 := (hbk.cell (k * 3 + 1)).trans c1
        have d2 := (hbk.cell (k * 3 + 2)).trans c2
        have f0 := hbk.free (k * 3)
        have f2 := hbk.free (k * 3 + 2)
        have hsz := on.size
        have Hs := allNts_succ hx
        obtain ⟨P, hP⟩ : ∃ P, P = allNts (o.take k) := ⟨_, rfl⟩
        rw [← hP] at Hs htk
        have Hx := Lib.hid hx
        have Hmk := Lib.hid hmk
        have Hw : Hid (OwnVs (wr.setCell ⟨g, k * 3, none⟩ (.int .i64 (K + P))) (m k) (m (k + 1)) 3 (H k).A (ints x.w)) := Lib.hid (own.keep (Nat.le_refl _) (Nat.le_refl _) fun q p1 p2 => Below.heap_setCell _ _ _ q (by
          have := Hm.out 0 k (Nat.zero_le _); have := M1.out; show q ≠ g; omega))
        have hxl := hLl.out x (List.mem_of_getElem? hx)
        rw [← hP]
        have HP := Lib.hid hP
        have HS := Lib.hid Hs
        have hhi' := Hm2.out (k + 1)
        have hll := tN_len o
        have hg2 : g < m k := by have := Hm.out 0 k (Nat.zero_le _); have := M1.out; omega
        clear hbk hcs own hmk hP hx Hs hhi' on c0 c1 c2 ee
        go_wp2_with fail
        refine (markInt_own (H k).A x.w (H k).c (K + P + 1) _ (m k) (m (k + 1)) Hw.out hxl (by omega) (by omega)).mono ?_
        rintro e w1 ⟨rfl, ho, hv, -⟩
        obtain ⟨-, cs1, hbk, hcs⟩ := Hmk.out
        have hb1 : Bk w1 g 127 (cs1.setIfInBounds (k * 3) (.int .i64 (K + P))) := only_bk (hbk.set _ _) ho (by omega)
        have e2 := hb1.cell (k * 3 + 2)
        rw [Array.getElem?_setIfInBounds_ne (by omega)] at e2
        have e3 := e2.trans (hcs k x Hx.out).1.2.2
        have f3 := hb1.free (k * 3 + 2)
        have hs1 := ho.size
        rw [HP.out] at ho hv
        have Next := Lib.hid (Hmk.out.next Hx.out M0.out M1.out Hm.out Hm2.out (by have := hsz; omega) ho hv)
        rw [← HP.out] at Next
        clear ho hv hb1 e2 hbk hcs d0 d1 d2 f0 f2
        go_wp2
        go_roundw
        case rel => exact ⟨k + 1, by omega, by go_num, by rw [HS.out]; go_num, Next.out⟩
        case measure => simp [intOf]; omega
      · have hkl : k = o.length := by omega
        subst hkl
        have Hmk := Lib.hid hmk
        rw [List.take_length] at *
        clear hmk
        go_wp2
        go_ret
        refine ⟨rfl, Hmk.out.1, ⟨fun _ => ?_⟩⟩
        obtain ⟨on, cs1, hbk, hcs⟩ := Hmk.out
        refine ⟨g, cs1, m, H, rfl, M0.out, M1.out, Hm.out, Hm2.out, hbk, fun i x hi => ?_⟩
        obtain ⟨y, hy, rfl⟩ := upNts_inv hi
        have hyl := (List.getElem?_eq_some_iff.1 hy).1
        have := hcs i y hy
        have ee : mkX K o o.length i y = mk1 (K + allNts (o.take i)) y := by unfold mkX; rw [if_pos hyl]
        rw [ee] at this
        exact this
  · have hL0 : o = [] := List.eq_nil_of_length_eq_zero (by omega)
    subst hL0
    show Calls Try.prog 102 #[.slice A 0 c, .int .i64 K] w _
    go_enter Try.func102, Try.ntmps102
    go_wp2
    refine wp_loop_rounds 1 ?_
    rw [rounds_succ]
    go_wp2
    go_ret
    exact ⟨by simp [allNts], Only.refl _ _ _, NtsO.nil_ _ _ _ _⟩
/-! ### lists of lists -/
def MkNN (w wr : World) (lo hi g : Nat) (cs : Array Value) (m : Nat → Nat) (H : Nat → NtsH) (o : Nss) (K : Int) (k : Nat) : Prop :=
  Only lo hi w wr ∧ Bk wr g 125 cs ∧ ∀ (i : Nat) (x : Nts), o[i]? = some x → cs[i]? = some (.slice (H i).A x.length (H i).c) ∧ NtsO wr (m i) (m (i + 1)) (H i) (if i < k then upNts (K + allNss (o.take i)) x else x)
theorem MkNN.next {w wr w1 : World} {lo hi g : Nat} {cs : Array Value} {m : Nat → Nat} {H : Nat → NtsH} {o : Nss} {K : Int} {k : Nat} {x : Nts} (h : MkNN w wr lo hi g cs m H o K k) (hx : o[k]? = some x) (h0 : lo ≤ g) (h1 : g < m 0) (hm : ∀ i j, i ≤ j → m i ≤ m j) (hm2 : ∀ i, m i ≤ hi) (hhi : hi ≤ wr.heap.size)
    (ho : Only (m k) (m (k + 1)) wr w1) (hv : NtsO w1 (m k) (m (k + 1)) (H k) (upNts (K + allNss (o.take k)) x)) : MkNN w w1 lo hi g cs m H o K (k + 1) := by
  obtain ⟨on, hb, hc⟩ := h
  have e0 := hm 0 k (Nat.zero_le _)
  have e2 := hm2 (k + 1)
  refine ⟨on.trans (ho.mono (by omega) e2), only_bk hb ho (by omega), fun i y hi => ?_⟩
  by_cases e : i = k
  · subst e
    obtain rfl : x = y := by rw [hx] at hi; injection hi
    rw [if_pos (Nat.lt_succ_self _)]
    exact ⟨(hc i x hx).1, hv⟩
  · obtain ⟨c0, c3⟩ := hc i y hi
    have ee : (if i < k + 1 then upNts (K + allNss (o.take i)) y else y) = if i < k then upNts (K + allNss (o.take i)) y else y := by
      by_cases h4 : i < k
      · rw [if_pos h4, if_pos (by omega)]
      · rw [if_neg h4, if_neg (by omega)]
    rw [ee]
    refine ⟨c0, c3.keep (Nat.le_refl _) (Nat.le_refl _) fun q p1 p2 => ?_⟩
    have p3 := hm2 (i + 1)
    have p4 : q < m k ∨ m (k + 1) ≤ q := by
      rcases Nat.lt_or_ge i k with h5 | h5
      · have := hm (i + 1) k (by omega); omega
      · have := hm (k + 1) i (by omega); omega
    exact ho.block q (by omega) p4
theorem markNss_any (h : NssH) (o : Nss) (K : Int) (w : World) (lo hi : Nat) (hO : NssO w lo hi h o) (hhi : hi ≤ w.heap.size) (hL : NssS o) (hK : 0 ≤ K) (hK2 : K ≤ 90000000) :
    Calls Try.prog 59 #[NssV h o, .int .i64 K] w fun e w' => e = .returned (.int .i64 (K + allNss o)) ∧ Only lo hi w w' ∧ NssO w' lo hi h (upNss K o) := by
  obtain ⟨A, c⟩ := h
  have hS := hL.t
  have hll0 := tNN_len o
  have hLl := Lib.hid (fun r hr => hL.s (r := r) hr)
  by_cases hn : 0 < o.length
  · obtain ⟨g, cs, m, H, hA, h0, h1, hm, hm2, hbk, hx⟩ := hO.o0 hn
    obtain rfl : A = some ⟨g, 0, none⟩ := hA
    have start : Hid (MkNN w w lo hi g cs m H o K 0) := Lib.hid ⟨Only.refl _ _ _, hbk, fun i x hi => by rw [if_neg (by omega)]; exact hx i x hi⟩
    have M0 := Lib.hid h0
    have M1 := Lib.hid h1
    have Hm := Lib.hid hm
    have Hm2 := Lib.hid hm2
    clear hbk hO hx h0 h1 hm hm2 hL
    show Calls Try.prog 59 #[.slice (some ⟨g, 0, none⟩) o.length c, .int .i64 K] w _
    go_enter Try.func59, Try.ntmps59
    go_wp2
    go_loopw [1, 5] (fun q i wr => ∃ k : Nat, k ≤ o.length ∧ i = .int .i64 k ∧ q = .int .i64 (K + allNss (o.take k)) ∧ MkNN w wr lo hi g cs m H o K k) (fun _ i _ => o.length - (intOf i).toNat)
    case atStart => exact ⟨0, Nat.zero_le _, rfl, by simp [allNss], start.out⟩
    case round =>
      obtain ⟨k, hk, rfl, rfl, hmk⟩ := hrel
      clear start
      have htk := allNss_take o k
      by_cases hlt : k < o.length
      · obtain ⟨x, hx⟩ : ∃ x, o[k]? = some x := ⟨_, List.getElem?_eq_getElem hlt⟩
        obtain ⟨on, hbk, hcs⟩ := id hmk
        obtain ⟨c0, own⟩ := hcs k x hx
        rw [if_neg (Nat.lt_irrefl _)] at own
        have d0 := (hbk.cell k).trans c0
        have hsz := on.size
        have Hs := allNss_succ hx
        have Hx := Lib.hid hx
        have Hmk := Lib.hid hmk
        have Hw := Lib.hid own
        have hxl := hLl.out x (List.mem_of_getElem? hx)
        have HS := Lib.hid Hs
        have hhi' := Hm2.out (k + 1)
        have hwz : m (k + 1) ≤ wr.heap.size := by omega
        clear hbk hcs own hmk hx Hs on c0 hhi'
        go_wp2_with fail
        refine (markNts_any (H k) x (K + allNss (o.take k)) wr (m k) (m (k + 1)) Hw.out hwz hxl (by omega) (by omega)).mono ?_
        rintro e w1 ⟨rfl, ho, hv⟩
        have Next := Lib.hid (Hmk.out.next Hx.out M0.out M1.out Hm.out Hm2.out (by omega) ho hv)
        clear ho hv d0
        go_wp2
        go_roundw
        case rel => exact ⟨k + 1, by omega, by go_num, by rw [HS.out]; go_num, Next.out⟩
        case measure => simp [intOf]; omega
      · have hkl : k = o.length := by omega
        subst hkl
        have Hmk := Lib.hid hmk
        rw [List.take_length] at *
        clear hmk
        go_wp2
        go_ret
        refine ⟨rfl, Hmk.out.1, ⟨fun _ => ?_⟩⟩
        obtain ⟨on, hbk, hcs⟩ := Hmk.out
        refine ⟨g, cs, m, H, rfl, M0.out, M1.out, Hm.out, Hm2.out, hbk, fun i x hi => ?_⟩
        obtain ⟨y, hy, rfl⟩ := upNss_inv hi
        have hyl := (List.getElem?_eq_some_iff.1 hy).1
        have := hcs i y hy
        rw [if_pos hyl] at this
        rw [upNts_length]
        exact this
  · have hL0 : o = [] := List.eq_nil_of_length_eq_zero (by omega)
    subst hL0
    show Calls Try.prog 59 #[.slice A 0 c, .int .i64 K] w _
    go_enter Try.func59, Try.ntmps59
    go_wp2
    refine wp_loop_rounds 1 ?_
    rw [rounds_succ]
    go_wp2
    go_ret
    exact ⟨by simp [allNss], Only.refl _ _ _, NssO.nil_ _ _ _ _⟩
end Go.Proofs.Ytaghidaamcnpkab
