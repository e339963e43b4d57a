/-
  What the reference model's l8Empty, l8Steps, l8Can and SpreadCan come to.
-/
import Derived.Test.YtnadihepgmbhaaaVRd
import Derived.Test.YtnadihepgmbhaaaSCan
namespace Go.Proofs.Ytnadihepgmbhaaa
open Go.RowKit Pl Go.BigFrame
set_option maxHeartbeats 4000000
set_option maxRecDepth 100000
set_option linter.unusedVariables false

theorem own3 (b : Nat → List Nat) (t : Nat) : ownE 3 b t = ((b (t * 3)).isEmpty && ((b (t * 3 + 1)).isEmpty && (b (t * 3 + 2)).isEmpty)) := by simp [ownE, List.range_succ]
theorem mul_in (n e : Nat) : n * (1 + e) = n + n * e := by rw [Nat.mul_add, Nat.mul_one]
theorem canQ_hi {e : Nat} {L : Pg} {f : Nat → Nat} {b : Nat → List Nat} {u : Nat} (h : u < L.length * e) : canQ e L f b (L.length + u : Nat) = !(b u).isEmpty := by
  unfold canQ
  rw [mul_in, if_pos (by simp [inB]; omega), show (((L.length + u : Nat) : Int) - (L.length : Int)).toNat = u by omega]
theorem canQ_lo {e : Nat} {L : Pg} {f : Nat → Nat} {b : Nat → List Nat} {st : Nat} (h : st < L.length) : canQ e L f b st = (canF L f st && (ownE e b st || weakB (smAt L st (f (3 + st))))) := by
  unfold canQ
  rw [mul_in]
  generalize L.length * e = N
  rw [if_neg (by simp [inB]; omega), show inB (st : Int) 0 ((L.length : Int) - 1) = true by simp [inB]; omega, Bool.true_and, Int.toNat_natCast]
theorem canQ_out {e : Nat} {L : Pg} {f : Nat → Nat} {b : Nat → List Nat} {st : Int} (h : inB st 0 (((L.length * (1 + e) : Nat) : Int) - 1) = false) : canQ e L f b st = false := by
  rw [mul_in] at h
  unfold canQ
  rw [mul_in]
  generalize L.length * e = N at *
  have h1 : inB st L.length (((L.length + N : Nat) : Int) - 1) = false := by simp [inB] at h ⊢; omega
  have h2 : inB st 0 ((L.length : Int) - 1) = false := by simp [inB] at h ⊢; omega
  rw [if_neg (by rw [h1]; simp), h2]; rfl
def bcanB (L : Pg) (o : Buf) (st : Int) : Bool := bufB L o && canQ 1 L (wdF L o.st) (cdsB o) st
def vcanB (L : Pg) (o : Buf) (st : Int) : Bool := sprB L o && canQ 3 L (wdF L o.st) (cdsV o) st
theorem weak7_any (x : Sm) (w : World) (hx : x.okb = true) (r : Bool) (hr : Hid (weakB x = r)) :
    Calls Try.prog 117 #[x.val] w fun e w' => e = .returned (.bool r) ∧ Below w.heap.size w w' := by
  have hw := weak_strong hx
  rw [hr.out] at hw
  obtain ⟨k, a, b, c, s⟩ := x
  simp only at hw
  clear hr hx
  cases s with
  | true =>
    have hfin : Hid (r = false) := Lib.hid (by rw [← hw]; rfl)
    clear hw
    go_enter Try.func117, Try.ntmps117
    go_wp2
    go_ret
    exact ⟨by rw [hfin.out]; rfl, by go_grown⟩
  | false =>
    by_cases h0 : k = 0
    · subst h0
      have hfin : Hid (r = true) := Lib.hid (by rw [← hw]; rfl)
      clear hw
      go_enter Try.func117, Try.ntmps117
      go_wp2
      go_ret
      exact ⟨by rw [hfin.out]; rfl, by go_grown⟩
    by_cases h1 : k = 1
    · subst h1
      have hfin : Hid (r = true) := Lib.hid (by rw [← hw]; rfl)
      clear hw
      go_enter Try.func117, Try.ntmps117
      go_wp2
      go_ret
      exact ⟨by rw [hfin.out]; rfl, by go_grown⟩
    by_cases h2 : k = 2
    · subst h2
      have hfin : Hid (r = true) := Lib.hid (by rw [← hw]; rfl)
      clear hw
      go_enter Try.func117, Try.ntmps117
      go_wp2
      go_ret
      exact ⟨by rw [hfin.out]; rfl, by go_grown⟩
    have e0 : (k == 0) = false := by rw [beq_eq_false_iff_ne]; exact h0
    have e1 : (k == 1) = false := by rw [beq_eq_false_iff_ne]; exact h1
    have e2 : (k == 2) = false := by rw [beq_eq_false_iff_ne]; exact h2
    obtain ⟨q, hq⟩ : ∃ q, (k == 10) = q := ⟨_, rfl⟩
    have hfin : Hid (r = q) := Lib.hid (by rw [← hw, e0, e1, e2, hq]; rfl)
    clear hw
    cases q
    all_goals
      go_enter Try.func117, Try.ntmps117
      go_wp2
      go_ret
      exact ⟨by rw [hfin.out]; rfl, by go_grown⟩
theorem snext_P (h : PgH) (L : Pg) (k : StaH) (s : Sta) (t : Nat) (w : World) (B : Nat) (hP : PgR w B h L) (hS : StaR w B k s) (hB : B ≤ w.heap.size) (P : StP L s) (ht : t < L.length) :
    Calls Try.prog 116 #[PgV h L, StaV k s, .int .i64 t] w fun e w' => ∃ x : Sm, e = .returned (.tuple #[x.val, .bool (canF L (wdF L s) t)]) ∧ (canF L (wdF L s) t = true → x = smAt L t (wdF L s (3 + t)) ∧ x.okb = true) ∧ Below w.heap.size w w' := by
  have hc : canF L (wdF L s) t = nxZ L s t := (canF_congr fun p hp => wdF_hi P hp).trans (can_nx P ht)
  obtain ⟨xs, hxs⟩ : ∃ xs, L[t]? = some xs := ⟨_, List.getElem?_eq_getElem ht⟩
  obtain ⟨i, hi, h0, h1⟩ := atZ_at P.at_ hxs
  have hg : s.f0.getD t 0 = i := getD_at hi
  obtain ⟨n, rfl⟩ : ∃ n : Nat, i = n := ⟨i.toNat, by omega⟩
  have hw3 : wdF L s (3 + t) = n := by rw [wdF_hi P (by omega), pk_at P ht, hg, Int.toNat_natCast]
  rw [hc, hw3]
  unfold nxZ
  rw [hg, Int.toNat_natCast]
  by_cases hd : n < (L.getD t []).length
  · rw [decide_eq_true (by omega), Bool.true_and]
    refine (snext_yes h L k s t w B hP hS hB P ht n hg hd _ (Lib.hid rfl)).mono ?_
    rintro e w' ⟨rfl, hb⟩
    refine ⟨_, rfl, fun _ => ⟨rfl, ?_⟩, hb⟩
    rw [getD_some hxs] at hd
    have hxn : xs[n]? = some xs[n] := List.getElem?_eq_getElem hd
    have hsm : smAt L t n = xs[n] := by unfold smAt; rw [getD_some hxs]; exact getD_some hxn
    rw [hsm]
    exact (prog_thr P.prog hxs).2 _ _ hxn
  · rw [decide_eq_false (by omega), Bool.false_and]
    refine (snext_no h L k s t w B hP hS hB P ht (by rw [hg]; omega)).mono ?_
    rintro e w' ⟨rfl, hb⟩
    exact ⟨_, rfl, fun h => (by cases h), hb⟩
end Go.Proofs.Ytnadihepgmbhaaa
namespace Go.Proofs.Ytnadihepgmbhaaa
open Go.RowKit Pl Go.BigFrame
set_option maxHeartbeats 4000000
set_option maxRecDepth 100000
set_option linter.unusedVariables false

theorem ownE_no {e : Nat} {b : Nat → List Nat} {t j : Nat} (hj : j < e) (h : (b (t * e + j)).isEmpty = false) : ownE e b t = false := by
  unfold ownE
  rw [List.all_eq_false]
  exact ⟨j, List.mem_range.2 hj, by simp [h]⟩
theorem ownE_yes {e : Nat} {b : Nat → List Nat} {t : Nat} (h : ∀ j, j < e → (b (t * e + j)).isEmpty = true) : ownE e b t = true := by
  unfold ownE
  rw [List.all_eq_true]
  exact fun j hj => h j (List.mem_range.1 hj)
theorem sta_row : RowT 28 5 := ⟨by kernel_rfl, _, Try.underlying28, rfl⟩
theorem sta_cells (a b c d e g : Value) : ∀ j v, (#[a, b, c, d, e] : Array Value)[j]? = some v → (#[a, b, c, d, e, g] : Array Value)[0 + j]? = some v := fun j v hv => by
  rw [Nat.zero_add]
  match j, hv with
  | 0, hv => exact hv
  | 1, hv => exact hv
  | 2, hv => exact hv
  | 3, hv => exact hv
  | 4, hv => exact hv
theorem s8steps_any (h : PgH) (L : Pg) (w : World) (h3 : L.length ≤ 3) (n : Nat) (hn : Hid (L.length * (1 + 3) = n)) :
    Calls Try.prog 79 #[PgV h L] w fun e w' => e = .returned (.int .i64 n) ∧ Below w.heap.size w w' := by
  have hfin : Hid ((L.length : Int) * 4 = (n : Int)) := Lib.hid (by rw [← hn.out]; omega)
  go_enter Try.func79, Try.ntmps79
  go_wp2
  go_ret
  exact ⟨by rw [hfin.out]; rfl, by go_grown⟩
theorem s8empty_any (L : Pg) (k : BufH) (o : Buf) (t : Nat) (w : World) (B : Nat) (hS : BufR w B k o) (hB : B ≤ w.heap.size) (F : SfP L o) (ht : t < L.length) (r : Bool) (hr : Hid (ownE 3 (cdsV o) t = r)) :
    Calls Try.prog 118 #[BufV k o, .int .i64 t] w fun e w' => e = .returned (.bool r) ∧ Below w.heap.size w w' := by
  have n3 := F.P.n3
  obtain ⟨W, hW⟩ : ∃ W, W = w.alloc (.cells #[.slice k.h.A0 o.st.f0.length k.h.c0, .slice k.h.A1 o.st.f1.length k.h.c1, .slice k.h.A2 o.st.f2.length k.h.c2, .slice k.h.A3 o.st.f3.length k.h.c3, .slice k.h.A4 o.st.f4.length k.h.c4, .slice k.k.A o.bs.length k.k.c] 31) := ⟨_, rfl⟩
  have bW : Below w.heap.size w W := by rw [hW]; go_grown
  have k0 : Bk W w.heap.size 31 #[.slice k.h.A0 o.st.f0.length k.h.c0, .slice k.h.A1 o.st.f1.length k.h.c1, .slice k.h.A2 o.st.f2.length k.h.c2, .slice k.h.A3 o.st.f3.length k.h.c3, .slice k.h.A4 o.st.f4.length k.h.c4, .slice k.k.A o.bs.length k.k.c] := by rw [hW]; exact Bk.new w _ _
  have Q := hS.below bW hB
  have rows : Hid (∀ j, j < 3 → ∃ (rb ro : Nat) (Ai : Option Addr) (ci : Nat), k.k.A = some ⟨rb, ro, none⟩ ∧ rb < B ∧ W.cell? ⟨rb, ro + (t * 3 + j), none⟩ = some (.slice Ai (cdsV o (t * 3 + j)).length ci)) := Lib.hid (fun j hj => by
    obtain ⟨hrow, -⟩ := F.row (t := t * 3 + j) (by omega)
    obtain ⟨rb, ro, Ai, ci, hA, hrb, hx0, hrw⟩ := Q.b.v.at_ (vsIss_at hrow)
    rw [ints_length, rowV_length] at hx0
    exact ⟨rb, ro, Ai, ci, hA, hrb, hx0⟩)
  have hlen : t * 3 + 3 ≤ o.bs.length := by have := F.n; omega
  have zW := bW.size
  have c5 : W.cell? ⟨w.heap.size, 5, none⟩ = some (.slice k.k.A o.bs.length k.k.c) := k0.cell 5
  have lk := k0.lt
  have BW := Lib.hid bW
  have HW := Lib.hid hW
  have start : Hid (∀ u, u < 0 → (cdsV o (t * 3 + u)).isEmpty = true) := Lib.hid (fun u hu => absurd hu (by omega))
  obtain ⟨N, hN⟩ : ∃ N, o.bs.length = N := ⟨_, rfl⟩
  obtain ⟨A, hA⟩ : ∃ A, k.k.A = A := ⟨_, rfl⟩
  rw [hN, hA] at c5
  rw [hA] at rows
  rw [hN] at hlen
  clear hW bW k0 Q hS hN hA F
  go_enter Try.func118, Try.ntmps118
  go_wp2_with (rw [← HW.out])
  go_loop [5] (fun i => ∃ j : Nat, j ≤ 3 ∧ i = .int .i64 j ∧ Hid (∀ u, u < j → (cdsV o (t * 3 + u)).isEmpty = true)) (fun i => 3 - (intOf i).toNat)
  case atStart => exact ⟨0, by omega, rfl, start⟩
  case round =>
    obtain ⟨j, hj, rfl, hrest⟩ := hrel
    clear start
    by_cases hlt : j < 3
    · obtain ⟨rb, ro, Ai, ci, rfl, hrb, hx0⟩ := rows.out j hlt
      obtain ⟨i, hi⟩ : ∃ i, t * 3 + j = i := ⟨_, rfl⟩
      have hidx : (t : Int) * 3 + (j : Int) = (i : Int) := by omega
      have hji : (j : Int) < 3 := by omega
      have hiN : (i : Int) < (N : Int) := by omega
      have lrb : rb < W.heap.size := by omega
      rw [hi] at hx0
      have HI := Lib.hid hi
      clear hi
      obtain ⟨n, hn⟩ : ∃ n, (cdsV o i).length = n := ⟨_, rfl⟩
      rw [hn] at hx0
      by_cases h0 : n = 0
      · have hnext : Hid (∀ u, u < j + 1 → (cdsV o (t * 3 + u)).isEmpty = true) := Lib.hid (fun u hu => by
          by_cases e : u = j
          · subst e; rw [HI.out, List.isEmpty_iff_length_eq_zero, hn, h0]
          · exact hrest.out u (by omega))
        subst h0
        clear hn hrest
        go_wp2
        go_round
        case rel => exact ⟨j + 1, by omega, by go_num, hnext⟩
        case measure => simp [intOf]; omega
      · have hfin : Hid (r = false) := Lib.hid (by
          rw [← hr.out]
          exact ownE_no hlt (by rw [HI.out, Bool.eq_false_iff]; intro h; rw [List.isEmpty_iff_length_eq_zero] at h; omega))
        have hpos : (0 : Int) < (n : Int) := by omega
        clear hn hrest h0
        go_wp2
        go_ret
        exact ⟨by rw [hfin.out]; rfl, BW.out⟩
    · have hj3 : j = 3 := by omega
      subst hj3
      have hfin : Hid (r = true) := Lib.hid (by rw [← hr.out]; exact ownE_yes hrest.out)
      go_wp2
      go_ret
      exact ⟨by rw [hfin.out]; rfl, BW.out⟩
theorem s8can_any (h : PgH) (L : Pg) (k : BufH) (o : Buf) (st : Nat) (w : World) (B : Nat) (hP : PgR w B h L) (hS : BufR w B k o) (hB : B ≤ w.heap.size) (F : SfP L o) (hst : st < L.length * 4) (r : Bool) (hr : Hid (canQ 3 L (wdF L o.st) (cdsV o) st = r)) :
    Calls Try.prog 80 #[PgV h L, BufV k o, .int .i64 st] w fun e w' => e = .returned (.bool r) ∧ Below w.heap.size w w' := by
  have n3 := F.P.n3
  have n1 := F.P.n1
  obtain ⟨W, hW⟩ : ∃ W, W = (w.alloc (.cells #[.slice h.A L.length h.c] 36)).alloc (.cells #[.slice k.h.A0 o.st.f0.length k.h.c0, .slice k.h.A1 o.st.f1.length k.h.c1, .slice k.h.A2 o.st.f2.length k.h.c2, .slice k.h.A3 o.st.f3.length k.h.c3, .slice k.h.A4 o.st.f4.length k.h.c4, .slice k.k.A o.bs.length k.k.c] 31) := ⟨_, rfl⟩
  have bW : Below w.heap.size w W := by rw [hW]; go_grown
  have k0 : Bk W w.heap.size 36 #[.slice h.A L.length h.c] := by rw [hW]; exact (Bk.new w _ _).alloc _
  have k1 : Bk W (w.heap.size + 1) 31 #[.slice k.h.A0 o.st.f0.length k.h.c0, .slice k.h.A1 o.st.f1.length k.h.c1, .slice k.h.A2 o.st.f2.length k.h.c2, .slice k.h.A3 o.st.f3.length k.h.c3, .slice k.h.A4 o.st.f4.length k.h.c4, .slice k.k.A o.bs.length k.k.c] := by
    rw [hW]; have := Bk.new (w.alloc (.cells #[.slice h.A L.length h.c] 36)) #[.slice k.h.A0 o.st.f0.length k.h.c0, .slice k.h.A1 o.st.f1.length k.h.c1, .slice k.h.A2 o.st.f2.length k.h.c2, .slice k.h.A3 o.st.f3.length k.h.c3, .slice k.h.A4 o.st.f4.length k.h.c4, .slice k.k.A o.bs.length k.k.c] 31
    rwa [World.size_alloc] at this
  have P0 := Lib.hid (hP.below bW hB)
  have Q0 := Lib.hid (hS.below bW hB)
  have K0 := Lib.hid k0
  have K1 := Lib.hid k1
  have B0 := Lib.hid bW
  have z0 := bW.size
  have HW := Lib.hid hW
  have cP : W.cell? ⟨w.heap.size, 0, none⟩ = some (.slice h.A L.length h.c) := k0.cell 0
  have c5 : W.cell? ⟨w.heap.size + 1, 5, none⟩ = some (.slice k.k.A o.bs.length k.k.c) := k1.cell 5
  have lP := k0.lt
  have lS := k1.lt
  clear hW bW k0 k1 hP hS
  by_cases hs : L.length ≤ st
  · obtain ⟨u, rfl⟩ : ∃ u, st = L.length + u := ⟨st - L.length, by omega⟩
    have hul : u < L.length * 3 := by omega
    obtain ⟨hrow, -⟩ := F.row hul
    have hfin : Hid ((!(cdsV o u).isEmpty) = r) := Lib.hid (by rw [← hr.out, canQ_hi hul])
    obtain ⟨rb, ro, Ai, ci, hA, hrb, hx0, hrw⟩ := Q0.out.b.v.at_ (vsIss_at hrow)
    rw [ints_length, rowV_length] at hx0
    have hlo : u < o.bs.length := by have := F.n; omega
    have lrb : rb < W.heap.size := by omega
    obtain ⟨S, hS⟩ : ∃ S : Int, ((L.length + u : Nat) : Int) = S := ⟨_, rfl⟩
    have hge : (L.length : Int) ≤ S := by omega
    have hsub : S - (L.length : Int) = (u : Int) := by omega
    have hti : (u : Int) < (o.bs.length : Int) := by omega
    have hpos : Hid (decide (0 < (cdsV o u).length) = r) := Lib.hid (by
      rw [← hfin.out]
      cases cdsV o u with
      | nil => rfl
      | cons c q => simp)
    generalize (cdsV o u).length = n at hx0 hpos
    rw [hS]
    rw [hA] at c5
    clear hr hrow hrw hs hfin hS F hA
    go_enter Try.func80, Try.ntmps80
    go_wp2_with (rw [← HW.out])
    go_ret
    exact ⟨by rw [← hpos.out]; rfl, B0.out⟩
  · have hlt : st < L.length := by omega
    have hnge : ¬ (L.length : Int) ≤ (st : Int) := by omega
    have hr1 : Hid ((canF L (wdF L o.st) st && (ownE 3 (cdsV o) st || weakB (smAt L st (wdF L o.st (3 + st))))) = r) := Lib.hid (by rw [← hr.out, canQ_lo hlt])
    have HF := Lib.hid F
    obtain ⟨cf, hcf⟩ : ∃ cf, canF L (wdF L o.st) st = cf := ⟨_, rfl⟩
    rw [hcf] at hr1
    clear hr hs F c5
    go_enter Try.func80, Try.ntmps80
    go_wp2_with (first | (rw [← HW.out]) | (refine ld_r sta_row rfl _ rfl (w.heap.size + 1) 0 rfl #[.slice k.h.A0 o.st.f0.length k.h.c0, .slice k.h.A1 o.st.f1.length k.h.c1, .slice k.h.A2 o.st.f2.length k.h.c2, .slice k.h.A3 o.st.f3.length k.h.c3, .slice k.h.A4 o.st.f4.length k.h.c4] (K1.out.rangeOf 0 _ (sta_cells _ _ _ _ _ _)) rfl ?_))
    have key := snext_P h L k.h o.st st W B P0.out Q0.out.s (by omega) HF.out.P hlt
    rw [hcf] at key
    refine key.mono ?_
    clear key
    rintro e w1 ⟨x, rfl, hx, hb⟩
    have B1 := Lib.hid (below_on B0.out hb)
    have Q1 := Lib.hid (Q0.out.below hb (by omega))
    have K11 := Lib.hid (K1.out.below hb K1.out.lt)
    have z1 := hb.size
    clear hb cP
    cases cf with
    | false =>
      have hfin : Hid (r = false) := Lib.hid (by rw [← hr1.out]; rfl)
      clear hx
      go_wp2
      go_ret
      exact ⟨by rw [hfin.out]; rfl, B1.out.alloc (by omega) _⟩
    | true =>
      obtain ⟨hx1, hxo⟩ := hx rfl
      clear hx
      have hr2 : Hid ((ownE 3 (cdsV o) st || weakB x) = r) := Lib.hid (by rw [hx1, ← hr1.out]; rfl)
      clear hx1
      rcases Bool.eq_false_or_eq_true (weakB x) with hw | hw
      · have hfin : Hid (r = true) := Lib.hid (by rw [← hr2.out, hw, Bool.or_true])
        have HWk := Lib.hid hw
        clear hw
        go_wp2_with fail
        refine (weak7_any x _ hxo true HWk).mono ?_
        rintro e w2 ⟨rfl, hb2⟩
        have B2 := Lib.hid (below_on (B1.out.alloc (by omega) _) hb2)
        clear hb2
        go_wp2
        go_ret
        exact ⟨by rw [hfin.out]; rfl, B2.out⟩
      · have hfin : Hid (ownE 3 (cdsV o) st = r) := Lib.hid (by rw [← hr2.out, hw, Bool.or_false])
        have HWk := Lib.hid hw
        clear hw
        go_wp2_with fail
        refine (weak7_any x _ hxo false HWk).mono ?_
        rintro e w2 ⟨rfl, hb2⟩
        have b12 : Below w1.heap.size w1 w2 := ((Below.refl _ _).alloc (Nat.le_refl _) _).trans (hb2.mono (by simp))
        have B2 := Lib.hid (below_on B1.out b12)
        have Q2 := Lib.hid (Q1.out.below b12 (by omega))
        have K12 := Lib.hid (K11.out.below b12 K11.out.lt)
        have z2 := b12.size
        clear hb2 b12
        go_wp2_with (refine ld_r spr_row rfl _ rfl (w.heap.size + 1) 0 rfl _ K12.out.range rfl ?_)
        refine (s8empty_any L k o st w2 B Q2.out (by omega) HF.out hlt r hfin).mono ?_
        rintro e w3 ⟨rfl, hb3⟩
        have B3 := Lib.hid (below_on B2.out hb3)
        clear hb3
        go_wp2
        go_ret
        exact ⟨rfl, B3.out⟩
end Go.Proofs.Ytnadihepgmbhaaa
