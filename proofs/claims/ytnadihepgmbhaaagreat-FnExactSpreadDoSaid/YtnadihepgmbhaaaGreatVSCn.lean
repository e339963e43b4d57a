/-
  What the reference model's l8Empty, l8Steps, l8Can and SpreadCan come to.
-/
import Derived.Test.YtnadihepgmbhaaaGreatVCan
namespace Go.Proofs.YtnadihepgmbhaaaGreat
open Go.RowKit Pl Go.BigFrame
set_option maxHeartbeats 4000000
set_option maxRecDepth 100000
set_option linter.unusedVariables false

theorem ownE_no {e : Nat} {b : Nat → List Nat} {t j : Nat} (hj : j < e) (h : (b (t * e + j)).isEmpty = false) : ownE e b t = false := by
  unfold ownE
  rw [List.all_eq_false]
  exact ⟨j, List.mem_range.2 hj, by simp [h]⟩
theorem ownE_yes {e : Nat} {b : Nat → List Nat} {t : Nat} (h : ∀ j, j < e → (b (t * e + j)).isEmpty = true) : ownE e b t = true := by
  unfold ownE
  rw [List.all_eq_true]
  exact fun j hj => h j (List.mem_range.1 hj)
theorem sta_row : RowT 33 5 := ⟨by kernel_rfl, _, Tryz.underlying33, rfl⟩
theorem sta_cells (a b c d e g : Value) : ∀ j v, (#[a, b, c, d, e] : Array Value)[j]? = some v → (#[a, b, c, d, e, g] : Array Value)[0 + j]? = some v := fun j v hv => by
  rw [Nat.zero_add]
  match j, hv with
  | 0, hv => exact hv
  | 1, hv => exact hv
  | 2, hv => exact hv
  | 3, hv => exact hv
  | 4, hv => exact hv
theorem s8steps_any (h : PgH) (L : Pg) (w : World) (h3 : L.length ≤ 3) (n : Nat) (hn : Hid (L.length * (1 + 3) = n)) :
    Calls Tryz.prog 52 #[PgV h L] w fun e w' => e = .returned (.int .i64 n) ∧ Below w.heap.size w w' := by
  have hfin : Hid ((L.length : Int) * 4 = (n : Int)) := Lib.hid (by rw [← hn.out]; omega)
  go_enter Tryz.func52, Tryz.ntmps52
  go_wp2
  go_ret
  exact ⟨by rw [hfin.out]; rfl, by go_grown⟩
theorem s8empty_any (L : Pg) (k : BufH) (o : Buf) (t : Nat) (w : World) (B : Nat) (hS : BufR w B k o) (hB : B ≤ w.heap.size) (F : SfP L o) (ht : t < L.length) (r : Bool) (hr : Hid (ownE 3 (cdsV o) t = r)) :
    Calls Tryz.prog 96 #[BufV k o, .int .i64 t] w fun e w' => e = .returned (.bool r) ∧ Below w.heap.size w w' := by
  have n3 := F.P.n3
  obtain ⟨W, hW⟩ : ∃ W, W = w.alloc (.cells #[.slice k.h.A0 o.st.f0.length k.h.c0, .slice k.h.A1 o.st.f1.length k.h.c1, .slice k.h.A2 o.st.f2.length k.h.c2, .slice k.h.A3 o.st.f3.length k.h.c3, .slice k.h.A4 o.st.f4.length k.h.c4, .slice k.k.A o.bs.length k.k.c] 35) := ⟨_, rfl⟩
  have bW : Below w.heap.size w W := by rw [hW]; go_grown
  have k0 : Bk W w.heap.size 35 #[.slice k.h.A0 o.st.f0.length k.h.c0, .slice k.h.A1 o.st.f1.length k.h.c1, .slice k.h.A2 o.st.f2.length k.h.c2, .slice k.h.A3 o.st.f3.length k.h.c3, .slice k.h.A4 o.st.f4.length k.h.c4, .slice k.k.A o.bs.length k.k.c] := by rw [hW]; exact Bk.new w _ _
  have Q := hS.below bW hB
  have rows : Hid (∀ j, j < 3 → ∃ (rb ro : Nat) (Ai : Option Addr) (ci : Nat), k.k.A = some ⟨rb, ro, none⟩ ∧ rb < B ∧ W.cell? ⟨rb, ro + (t * 3 + j), none⟩ = some (.slice Ai (cdsV o (t * 3 + j)).length ci)) := Lib.hid (fun j hj => by
    obtain ⟨hrow, -⟩ := F.row (t := t * 3 + j) (by omega)
    obtain ⟨rb, ro, Ai, ci, hA, hrb, hx0, hrw⟩ := Q.b.v.at_ (vsIss_at hrow)
    rw [ints_length, rowV_length] at hx0
    exact ⟨rb, ro, Ai, ci, hA, hrb, hx0⟩)
  have hlen : t * 3 + 3 ≤ o.bs.length := by have := F.n; omega
  have zW := bW.size
  have c5 : W.cell? ⟨w.heap.size, 5, none⟩ = some (.slice k.k.A o.bs.length k.k.c) := k0.cell 5
  have lk := k0.lt
  have BW := Lib.hid bW
  have HW := Lib.hid hW
  have start : Hid (∀ u, u < 0 → (cdsV o (t * 3 + u)).isEmpty = true) := Lib.hid (fun u hu => absurd hu (by omega))
  obtain ⟨N, hN⟩ : ∃ N, o.bs.length = N := ⟨_, rfl⟩
  obtain ⟨A, hA⟩ : ∃ A, k.k.A = A := ⟨_, rfl⟩
  rw [hN, hA] at c5
  rw [hA] at rows
  rw [hN] at hlen
  clear hW bW k0 Q hS hN hA F
  go_enter Tryz.func96, Tryz.ntmps96
  go_wp2_with (rw [← HW.out])
  go_loop [5] (fun i => ∃ j : Nat, j ≤ 3 ∧ i = .int .i64 j ∧ Hid (∀ u, u < j → (cdsV o (t * 3 + u)).isEmpty = true)) (fun i => 3 - (intOf i).toNat)
  case atStart => exact ⟨0, by omega, rfl, start⟩
  case round =>
    obtain ⟨j, hj, rfl, hrest⟩ := hrel
    clear start
    by_cases hlt : j < 3
    · obtain ⟨rb, ro, Ai, ci, rfl, hrb, hx0⟩ := rows.out j hlt
      obtain ⟨i, hi⟩ : ∃ i, t * 3 + j = i := ⟨_, rfl⟩
      have hidx : (t : Int) * 3 + (j : Int) = (i : Int) := by omega
      have hji : (j : Int) < 3 := by omega
      have hiN : (i : Int) < (N : Int) := by omega
      have lrb : rb < W.heap.size := by omega
      rw [hi] at hx0
      have HI := Lib.hid hi
      clear hi
      obtain ⟨n, hn⟩ : ∃ n, (cdsV o i).length = n := ⟨_, rfl⟩
      rw [hn] at hx0
      by_cases h0 : n = 0
      · have hnext : Hid (∀ u, u < j + 1 → (cdsV o (t * 3 + u)).isEmpty = true) := Lib.hid (fun u hu => by
          by_cases e : u = j
          · subst e; rw [HI.out, List.isEmpty_iff_length_eq_zero, hn, h0]
          · exact hrest.out u (by omega))
        subst h0
        clear hn hrest
        go_wp2
        go_round
        case rel => exact ⟨j + 1, by omega, by go_num, hnext⟩
        case measure => simp [intOf]; omega
      · have hfin : Hid (r = false) := Lib.hid (by
          rw [← hr.out]
          exact ownE_no hlt (by rw [HI.out, Bool.eq_false_iff]; intro h; rw [List.isEmpty_iff_length_eq_zero] at h; omega))
        have hpos : (0 : Int) < (n : Int) := by omega
        clear hn hrest h0
        go_wp2
        go_ret
        exact ⟨by rw [hfin.out]; rfl, BW.out⟩
    · have hj3 : j = 3 := by omega
      subst hj3
      have hfin : Hid (r = true) := Lib.hid (by rw [← hr.out]; exact ownE_yes hrest.out)
      go_wp2
      go_ret
      exact ⟨by rw [hfin.out]; rfl, BW.out⟩
theorem s8can_any (h : PgH) (L : Pg) (k : BufH) (o : Buf) (st : Nat) (w : World) (B : Nat) (hP : PgR w B h L) (hS : BufR w B k o) (hB : B ≤ w.heap.size) (F : SfP L o) (hst : st < L.length * 4) (r : Bool) (hr : Hid (canQ 3 L (wdF L o.st) (cdsV o) st = r)) :
    Calls Tryz.prog 53 #[PgV h L, BufV k o, .int .i64 st] w fun e w' => e = .returned (.bool r) ∧ Below w.heap.size w w' := by
  have n3 := F.P.n3
  have n1 := F.P.n1
  obtain ⟨W, hW⟩ : ∃ W, W = (w.alloc (.cells #[.slice h.A L.length h.c] 40)).alloc (.cells #[.slice k.h.A0 o.st.f0.length k.h.c0, .slice k.h.A1 o.st.f1.length k.h.c1, .slice k.h.A2 o.st.f2.length k.h.c2, .slice k.h.A3 o.st.f3.length k.h.c3, .slice k.h.A4 o.st.f4.length k.h.c4, .slice k.k.A o.bs.length k.k.c] 35) := ⟨_, rfl⟩
  have bW : Below w.heap.size w W := by rw [hW]; go_grown
  have k0 : Bk W w.heap.size 40 #[.slice h.A L.length h.c] := by rw [hW]; exact (Bk.new w _ _).alloc _
  have k1 : Bk W (w.heap.size + 1) 35 #[.slice k.h.A0 o.st.f0.length k.h.c0, .slice k.h.A1 o.st.f1.length k.h.c1, .slice k.h.A2 o.st.f2.length k.h.c2, .slice k.h.A3 o.st.f3.length k.h.c3, .slice k.h.A4 o.st.f4.length k.h.c4, .slice k.k.A o.bs.length k.k.c] := by
    rw [hW]; have := Bk.new (w.alloc (.cells #[.slice h.A L.length h.c] 40)) #[.slice k.h.A0 o.st.f0.length k.h.c0, .slice k.h.A1 o.st.f1.length k.h.c1, .slice k.h.A2 o.st.f2.length k.h.c2, .slice k.h.A3 o.st.f3.length k.h.c3, .slice k.h.A4 o.st.f4.length k.h.c4, .slice k.k.A o.bs.length k.k.c] 35
    rwa [World.size_alloc] at this
  have P0 := Lib.hid (hP.below bW hB)
  have Q0 := Lib.hid (hS.below bW hB)
  have K0 := Lib.hid k0
  have K1 := Lib.hid k1
  have B0 := Lib.hid bW
  have z0 := bW.size
  have HW := Lib.hid hW
  have cP : W.cell? ⟨w.heap.size, 0, none⟩ = some (.slice h.A L.length h.c) := k0.cell 0
  have c5 : W.cell? ⟨w.heap.size + 1, 5, none⟩ = some (.slice k.k.A o.bs.length k.k.c) := k1.cell 5
  have lP := k0.lt
  have lS := k1.lt
  clear hW bW k0 k1 hP hS
  by_cases hs : L.length ≤ st
  · obtain ⟨u, rfl⟩ : ∃ u, st = L.length + u := ⟨st - L.length, by omega⟩
    have hul : u < L.length * 3 := by omega
    obtain ⟨hrow, -⟩ := F.row hul
    have hfin : Hid ((!(cdsV o u).isEmpty) = r) := Lib.hid (by rw [← hr.out, canQ_hi hul])
    obtain ⟨rb, ro, Ai, ci, hA, hrb, hx0, hrw⟩ := Q0.out.b.v.at_ (vsIss_at hrow)
    rw [ints_length, rowV_length] at hx0
    have hlo : u < o.bs.length := by have := F.n; omega
    have lrb : rb < W.heap.size := by omega
    obtain ⟨S, hS⟩ : ∃ S : Int, ((L.length + u : Nat) : Int) = S := ⟨_, rfl⟩
    have hge : (L.length : Int) ≤ S := by omega
    have hsub : S - (L.length : Int) = (u : Int) := by omega
    have hti : (u : Int) < (o.bs.length : Int) := by omega
    have hpos : Hid (decide (0 < (cdsV o u).length) = r) := Lib.hid (by
      rw [← hfin.out]
      cases cdsV o u with
      | nil => rfl
      | cons c q => simp)
    generalize (cdsV o u).length = n at hx0 hpos
    rw [hS]
    rw [hA] at c5
    clear hr hrow hrw hs hfin hS F hA
    go_enter Tryz.func53, Tryz.ntmps53
    go_wp2_with (rw [← HW.out])
    go_ret
    exact ⟨by rw [← hpos.out]; rfl, B0.out⟩
  · have hlt : st < L.length := by omega
    have hnge : ¬ (L.length : Int) ≤ (st : Int) := by omega
    have hr1 : Hid ((canF L (wdF L o.st) st && (ownE 3 (cdsV o) st || weakB (smAt L st (wdF L o.st (3 + st))))) = r) := Lib.hid (by rw [← hr.out, canQ_lo hlt])
    have HF := Lib.hid F
    obtain ⟨cf, hcf⟩ : ∃ cf, canF L (wdF L o.st) st = cf := ⟨_, rfl⟩
    rw [hcf] at hr1
    clear hr hs F c5
    go_enter Tryz.func53, Tryz.ntmps53
    go_wp2_with (first | (rw [← HW.out]) | (refine ld_r sta_row rfl _ rfl (w.heap.size + 1) 0 rfl #[.slice k.h.A0 o.st.f0.length k.h.c0, .slice k.h.A1 o.st.f1.length k.h.c1, .slice k.h.A2 o.st.f2.length k.h.c2, .slice k.h.A3 o.st.f3.length k.h.c3, .slice k.h.A4 o.st.f4.length k.h.c4] (K1.out.rangeOf 0 _ (sta_cells _ _ _ _ _ _)) rfl ?_))
    have key := snext_P h L k.h o.st st W B P0.out Q0.out.s (by omega) HF.out.P hlt
    rw [hcf] at key
    refine key.mono ?_
    clear key
    rintro e w1 ⟨x, rfl, hx, hb⟩
    have B1 := Lib.hid (below_on B0.out hb)
    have Q1 := Lib.hid (Q0.out.below hb (by omega))
    have K11 := Lib.hid (K1.out.below hb K1.out.lt)
    have z1 := hb.size
    clear hb cP
    cases cf with
    | false =>
      have hfin : Hid (r = false) := Lib.hid (by rw [← hr1.out]; rfl)
      clear hx
      go_wp2
      go_ret
      exact ⟨by rw [hfin.out]; rfl, B1.out.alloc (by omega) _⟩
    | true =>
      obtain ⟨hx1, hxo⟩ := hx rfl
      clear hx
      have hr2 : Hid ((ownE 3 (cdsV o) st || weakB x) = r) := Lib.hid (by rw [hx1, ← hr1.out]; rfl)
      clear hx1
      rcases Bool.eq_false_or_eq_true (weakB x) with hw | hw
      · have hfin : Hid (r = true) := Lib.hid (by rw [← hr2.out, hw, Bool.or_true])
        have HWk := Lib.hid hw
        clear hw
        go_wp2_with fail
        refine (weak7_any x _ hxo true HWk).mono ?_
        rintro e w2 ⟨rfl, hb2⟩
        have B2 := Lib.hid (below_on (B1.out.alloc (by omega) _) hb2)
        clear hb2
        go_wp2
        go_ret
        exact ⟨by rw [hfin.out]; rfl, B2.out⟩
      · have hfin : Hid (ownE 3 (cdsV o) st = r) := Lib.hid (by rw [← hr2.out, hw, Bool.or_false])
        have HWk := Lib.hid hw
        clear hw
        go_wp2_with fail
        refine (weak7_any x _ hxo false HWk).mono ?_
        rintro e w2 ⟨rfl, hb2⟩
        have b12 : Below w1.heap.size w1 w2 := ((Below.refl _ _).alloc (Nat.le_refl _) _).trans (hb2.mono (by simp))
        have B2 := Lib.hid (below_on B1.out b12)
        have Q2 := Lib.hid (Q1.out.below b12 (by omega))
        have K12 := Lib.hid (K11.out.below b12 K11.out.lt)
        have z2 := b12.size
        clear hb2 b12
        go_wp2_with (refine ld_r spr_row rfl _ rfl (w.heap.size + 1) 0 rfl _ K12.out.range rfl ?_)
        refine (s8empty_any L k o st w2 B Q2.out (by omega) HF.out hlt r hfin).mono ?_
        rintro e w3 ⟨rfl, hb3⟩
        have B3 := Lib.hid (below_on B2.out hb3)
        clear hb3
        go_wp2
        go_ret
        exact ⟨rfl, B3.out⟩
theorem ssprcan_any (h : PgH) (L : Pg) (k : BufH) (o : Buf) (st : Int) (w : World) (B : Nat) (hP : PgR w B h L) (hS : BufR w B k o) (hB : B ≤ w.heap.size) (SP : PgS L) (LS : BufS o) (r : Bool) (hr : Hid (vcanB L o st = r)) :
    Calls Tryz.prog 26 #[PgV h L, BufV k o, .int .i64 st] w fun e w' => e = .returned (.bool r) ∧ Below w.heap.size w w' := by
  obtain ⟨W, hW⟩ : ∃ W, W = (w.alloc (.cells #[.slice h.A L.length h.c] 40)).alloc (.cells #[.slice k.h.A0 o.st.f0.length k.h.c0, .slice k.h.A1 o.st.f1.length k.h.c1, .slice k.h.A2 o.st.f2.length k.h.c2, .slice k.h.A3 o.st.f3.length k.h.c3, .slice k.h.A4 o.st.f4.length k.h.c4, .slice k.k.A o.bs.length k.k.c] 35) := ⟨_, rfl⟩
  have bW : Below w.heap.size w W := by rw [hW]; go_grown
  have k0 : Bk W w.heap.size 40 #[.slice h.A L.length h.c] := by rw [hW]; exact (Bk.new w _ _).alloc _
  have k1 : Bk W (w.heap.size + 1) 35 #[.slice k.h.A0 o.st.f0.length k.h.c0, .slice k.h.A1 o.st.f1.length k.h.c1, .slice k.h.A2 o.st.f2.length k.h.c2, .slice k.h.A3 o.st.f3.length k.h.c3, .slice k.h.A4 o.st.f4.length k.h.c4, .slice k.k.A o.bs.length k.k.c] := by
    rw [hW]; have := Bk.new (w.alloc (.cells #[.slice h.A L.length h.c] 40)) #[.slice k.h.A0 o.st.f0.length k.h.c0, .slice k.h.A1 o.st.f1.length k.h.c1, .slice k.h.A2 o.st.f2.length k.h.c2, .slice k.h.A3 o.st.f3.length k.h.c3, .slice k.h.A4 o.st.f4.length k.h.c4, .slice k.k.A o.bs.length k.k.c] 35
    rwa [World.size_alloc] at this
  have P0 := Lib.hid (hP.below bW hB)
  have Q0 := Lib.hid (hS.below bW hB)
  have K0 := Lib.hid k0
  have K1 := Lib.hid k1
  have B0 := Lib.hid bW
  have z0 := bW.size
  have HW := Lib.hid hW
  have cP : W.cell? ⟨w.heap.size, 0, none⟩ = some (.slice h.A L.length h.c) := k0.cell 0
  have lP := k0.lt
  clear hW bW k0 k1 hP hS
  obtain ⟨g, hg⟩ : ∃ g, sprB L o = g := ⟨_, rfl⟩
  have HG := Lib.hid hg
  go_enter Tryz.func26, Tryz.ntmps26
  go_wp2_with (first | (rw [← HW.out]) | (refine ld_r spr_row rfl _ rfl (w.heap.size + 1) 0 rfl _ K1.out.range rfl ?_))
  refine (ssprok_any h L k o W B P0.out Q0.out (by omega) SP LS g HG).mono ?_
  rintro e w1 ⟨rfl, hb⟩
  have B1 := Lib.hid (below_on B0.out hb)
  have z1 := hb.size
  have K01 := Lib.hid (K0.out.below hb K0.out.lt)
  have K11 := Lib.hid (K1.out.below hb K1.out.lt)
  have P1 := Lib.hid (P0.out.below hb (by omega))
  have Q1 := Lib.hid (Q0.out.below hb (by omega))
  clear hb cP lP
  rcases Bool.eq_false_or_eq_true g with hgb | hgb
  rotate_left
  · subst hgb
    have hfin : Hid (r = false) := Lib.hid (by rw [← hr.out, vcanB, hg]; rfl)
    clear hr hg
    go_wp2
    go_ret
    exact ⟨by rw [hfin.out]; rfl, B1.out⟩
  subst hgb
  have F := sprB_parts hg
  have HF := Lib.hid F
  have n3 := F.P.n3
  have hr1 : Hid (canQ 3 L (wdF L o.st) (cdsV o) st = r) := Lib.hid (by rw [← hr.out, vcanB, hg, Bool.true_and])
  obtain ⟨N, hN⟩ : ∃ N, L.length * (1 + 3) = N := ⟨_, rfl⟩
  have SS := Lib.hid (fun v => s8steps_any h L v n3 N (Lib.hid hN))
  have hN12 : N ≤ 12 := by omega
  have cP : w1.cell? ⟨w.heap.size, 0, none⟩ = some (.slice h.A L.length h.c) := K01.out.cell 0
  have lP := K01.out.lt
  obtain ⟨s, hs⟩ : ∃ s, inB st 0 ((N : Int) - 1) = s := ⟨_, rfl⟩
  have HI := Lib.hid hs
  have HN := Lib.hid hN
  clear hr hg F hN
  go_wp2_with fail
  refine (SS.out _).mono ?_
  rintro e w2 ⟨rfl, hb2⟩
  have B2 := Lib.hid (below_on B1.out hb2)
  have z2 := hb2.size
  have K02 := Lib.hid (K01.out.below hb2 K01.out.lt)
  have K12 := Lib.hid (K11.out.below hb2 K11.out.lt)
  have P2 := Lib.hid (P1.out.below hb2 (by omega))
  have Q2 := Lib.hid (Q1.out.below hb2 (by omega))
  clear hb2 cP lP
  go_wp2_with fail
  refine (l1In_b st 0 ((N : Int) - 1) _ s HI).mono ?_
  rintro e w' ⟨rfl, rfl⟩
  cases s with
  | false =>
    have hfin : Hid (r = false) := Lib.hid (by rw [← hr1.out, canQ_out (e := 3) (by rw [HN.out]; exact hs)])
    clear hs
    go_wp2
    go_ret
    exact ⟨by rw [hfin.out]; rfl, B2.out⟩
  | true =>
    obtain ⟨t, rfl⟩ : ∃ t : Nat, st = t := ⟨st.toNat, by simp [inB] at hs; omega⟩
    have ht2 : t < L.length * 4 := by have := HN.out; simp [inB] at hs; omega
    have cP : w2.cell? ⟨w.heap.size, 0, none⟩ = some (.slice h.A L.length h.c) := K02.out.cell 0
    have lP := K02.out.lt
    clear hs
    go_wp2_with (refine ld_r spr_row rfl _ rfl (w.heap.size + 1) 0 rfl _ K12.out.range rfl ?_)
    refine (s8can_any h L k o t w2 B P2.out Q2.out (by omega) HF.out ht2 r hr1).mono ?_
    rintro e w3 ⟨rfl, hb3⟩
    have B3 := Lib.hid (below_on B2.out hb3)
    clear hb3 cP
    go_wp2
    go_ret
    exact ⟨rfl, B3.out⟩
end Go.Proofs.YtnadihepgmbhaaaGreat
