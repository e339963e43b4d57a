/-
  What BufReads and SpreadReads come to, in the program and in the reference model.
-/
import Derived.Test.YtnadihepgmbhaaaVPk
import Derived.Test.YtnadihepgmbhaaaWithout
import Derived.Deep.RegionHeld3
namespace Go.Proofs.Ytnadihepgmbhaaa
open Go.RowKit Pl Go.BigFrame
set_option maxHeartbeats 4000000
set_option maxRecDepth 100000
set_option linter.unusedVariables false

theorem s7reads_any (k : BufH) (o : Buf) (t p : Nat) (w : World) (B : Nat) (hS : BufR w B k o) (hB : B ≤ w.heap.size) (cs : List Nat) (hrow : o.bs[t]? = some (rowS cs)) (hc : okS cs) (hl : cs.length ≤ 1000) (m : Nat) (hm : o.st.f2[p]? = some (m : Int)) (r : Nat) (hr : Hid (rdC cs p m = r)) :
    Calls Try.prog 87 #[BufV k o, .int .i64 t, .int .i64 p] w fun e w' => e = .returned (.int .i64 r) ∧ Below w.heap.size w w' := by
  obtain ⟨W, hW⟩ : ∃ W, W = w.alloc (.cells #[.slice k.h.A0 o.st.f0.length k.h.c0, .slice k.h.A1 o.st.f1.length k.h.c1, .slice k.h.A2 o.st.f2.length k.h.c2, .slice k.h.A3 o.st.f3.length k.h.c3, .slice k.h.A4 o.st.f4.length k.h.c4, .slice k.k.A o.bs.length k.k.c] 59) := ⟨_, rfl⟩
  have bW : Below w.heap.size w W := by rw [hW]; go_grown
  have k0 : Bk W w.heap.size 59 #[.slice k.h.A0 o.st.f0.length k.h.c0, .slice k.h.A1 o.st.f1.length k.h.c1, .slice k.h.A2 o.st.f2.length k.h.c2, .slice k.h.A3 o.st.f3.length k.h.c3, .slice k.h.A4 o.st.f4.length k.h.c4, .slice k.k.A o.bs.length k.k.c] := by rw [hW]; exact Bk.new _ _ _
  have Q := hS.below bW hB
  have zW := bW.size
  obtain ⟨rb, ro, Ai, ci, hA, hrb, hx0, hrw⟩ := Q.b.v.at_ (vsIss_at hrow)
  rw [ints_length] at hx0
  obtain ⟨mb, mo, hM, hmb, hmc⟩ := Q.s.r2 (by rw [ints_length]; have := (List.getElem?_eq_some_iff.1 hm).1; omega)
  have cm : W.cell? ⟨mb, mo + p, none⟩ = some (.int .i64 (m : Int)) := hmc p _ (ints_at hm)
  have hti : (t : Int) < (o.bs.length : Int) := by have := (List.getElem?_eq_some_iff.1 hrow).1; omega
  have hpi : (p : Int) < (o.st.f2.length : Int) := by have := (List.getElem?_eq_some_iff.1 hm).1; omega
  have c2 : W.cell? ⟨w.heap.size, 2, none⟩ = some (.slice (some ⟨mb, mo, none⟩) o.st.f2.length k.h.c2) := by rw [← hM]; exact k0.cell 2
  have c5 : W.cell? ⟨w.heap.size, 5, none⟩ = some (.slice (some ⟨rb, ro, none⟩) o.bs.length k.k.c) := by rw [← hA]; exact k0.cell 5
  have lk := k0.lt
  have lrb : rb < W.heap.size := by omega
  have lmb : mb < W.heap.size := by omega
  obtain ⟨n, hn⟩ : ∃ n, (rowS cs).length = n := ⟨_, rfl⟩
  have hn2 : n = 2 * cs.length := by rw [← hn, rowS_length]
  rw [hn] at hx0
  have HRow := Lib.hid hrw
  have BW := Lib.hid bW
  have HW := Lib.hid hW
  have HN := Lib.hid hn2
  have hx0l := hx0
  have c2l := c2
  have c5l := c5
  have cml := cm
  rw [hW] at hx0l c2l c5l cml
  have HX := Lib.hid hx0
  have HM := Lib.hid cm
  have H2 := Lib.hid c2
  clear hW bW k0 hrow hm hS Q hM hA hmc hrw hn hx0 c2 c5 cm
  go_enter Try.func87, Try.ntmps87
  go_wp2_with fail
  rw [← HW.out]
  clear hx0l c2l c5l cml
  go_loopw [8] (fun i wr => ∃ j : Nat, W = wr ∧ j ≤ cs.length ∧ i = .int .i64 (2 * (j : Int) - 2) ∧ Hid (rdC (cs.take j) p m = r)) (fun i _ => (intOf i + 2).toNat)
  case atStart => exact ⟨cs.length, rfl, Nat.le_refl _, by first | rfl | (rw [hn2]; congr 1; omega), by rw [List.take_length]; exact hr⟩
  case round =>
    obtain ⟨j, rfl, hj, rfl, hrest⟩ := hrel
    clear hr
    cases j with
    | zero =>
      have e : 2 * ((0 : Nat) : Int) - 2 = -2 := rfl
      rw [e]
      have hfin : Hid (m = r) := Lib.hid (by rw [← hrest.out]; rfl)
      have c2 := H2.out
      have cm := HM.out
      go_wp2
      go_ret
      exact ⟨by rw [← hfin.out]; rfl, BW.out⟩
    | succ q =>
      have e : 2 * ((q + 1 : Nat) : Int) - 2 = ((2 * q : Nat) : Int) := by omega
      rw [e]
      obtain ⟨x, hx, -⟩ := drop_at (show q < cs.length by omega)
      have hx12 := hc x (List.mem_of_getElem? hx)
      have htk : cs.take (q + 1) = cs.take q ++ [x] := by rw [List.take_add_one, hx]; rfl
      obtain ⟨ab, ao, hAi, hab, hcell⟩ := HRow.out (by rw [ints_length, rowS_length]; omega)
      subst hAi
      have c0 : W.cell? ⟨ab, ao + 2 * q, none⟩ = some (.int .i64 ((x / 4 : Nat) : Int)) := hcell _ _ (ints_at (rowS_at0 hx))
      have c1 : W.cell? ⟨ab, ao + (2 * q + 1), none⟩ = some (.int .i64 ((x % 4 : Nat) : Int)) := hcell _ _ (ints_at (rowS_at1 hx))
      have habw : ab < W.heap.size := by omega
      have hi1 : ((2 * q : Nat) : Int) < (n : Int) := by omega
      have hi2 : ((2 * q : Nat) : Int) + 1 < (n : Int) := by omega
      have hr2 : Hid ((if x / 4 = p then x % 4 else rdC (cs.take q) p m) = r) := Lib.hid (by rw [← rdC_snoc, ← htk]; exact hrest.out)
      clear hcell hx htk hrest
      by_cases he : x / 4 = p
      · have heq : (((x / 4 : Nat) : Int) == (p : Int)) = true := by rw [beq_iff_eq]; omega
        have hfin : Hid (x % 4 = r) := Lib.hid (by rw [← hr2.out, if_pos he])
        clear he
        go_wp2
        go_ret
        exact ⟨by rw [← hfin.out]; rfl, BW.out⟩
      · have heq : (((x / 4 : Nat) : Int) == (p : Int)) = false := by rw [beq_eq_false_iff_ne]; omega
        have hfin : Hid (rdC (cs.take q) p m = r) := Lib.hid (by rw [← hr2.out, if_neg he])
        clear he
        go_wp2
        go_roundw
        case rel => exact ⟨q, by first | rfl | trivial, by omega, by first | (congr 1; omega) | (go_num), hfin⟩
        case measure => simp [intOf]; omega

theorem rdC_all {cs : List Nat} {p m : Nat} (h : ∀ c ∈ cs, c / 4 = p) : rdC cs p m = match cs.getLast? with | some c => c % 4 | none => m := by
  rcases List.eq_nil_or_concat cs with rfl | ⟨d, c, rfl⟩
  · rfl
  · rw [List.concat_eq_append] at h ⊢
    rw [rdC_snoc, if_pos (h c (by simp)), List.getLast?_append]
    rfl
theorem s8reads_any (k : BufH) (o : Buf) (t p : Nat) (w : World) (B : Nat) (hS : BufR w B k o) (hB : B ≤ w.heap.size) (cs : List Nat) (ht : t < 3) (hp : p < 3) (hrow : o.bs[t * 3 + p]? = some (rowV cs)) (hcp : ∀ c ∈ cs, c / 4 = p) (hl : cs.length ≤ 1000) (m : Nat) (hm : o.st.f2[p]? = some (m : Int)) (r : Nat) (hr : Hid (rdC cs p m = r)) :
    Calls Try.prog 74 #[BufV k o, .int .i64 t, .int .i64 p] w fun e w' => e = .returned (.int .i64 r) ∧ Below w.heap.size w w' := by
  obtain ⟨W, hW⟩ : ∃ W, W = w.alloc (.cells #[.slice k.h.A0 o.st.f0.length k.h.c0, .slice k.h.A1 o.st.f1.length k.h.c1, .slice k.h.A2 o.st.f2.length k.h.c2, .slice k.h.A3 o.st.f3.length k.h.c3, .slice k.h.A4 o.st.f4.length k.h.c4, .slice k.k.A o.bs.length k.k.c] 31) := ⟨_, rfl⟩
  have bW : Below w.heap.size w W := by rw [hW]; go_grown
  have k0 : Bk W w.heap.size 31 #[.slice k.h.A0 o.st.f0.length k.h.c0, .slice k.h.A1 o.st.f1.length k.h.c1, .slice k.h.A2 o.st.f2.length k.h.c2, .slice k.h.A3 o.st.f3.length k.h.c3, .slice k.h.A4 o.st.f4.length k.h.c4, .slice k.k.A o.bs.length k.k.c] := by rw [hW]; exact Bk.new w _ _
  have Q := hS.below bW hB
  have zW := bW.size
  have hrl := (List.getElem?_eq_some_iff.1 hrow).1
  obtain ⟨i, hi⟩ : ∃ i, t * 3 + p = i := ⟨_, rfl⟩
  rw [hi] at hrow hrl
  have hidx : (t : Int) * 3 + (p : Int) = (i : Int) := by omega
  obtain ⟨rb, ro, Ai, ci, hA, hrb, hx0, hrw⟩ := Q.b.v.at_ (vsIss_at hrow)
  rw [ints_length] at hx0
  obtain ⟨mb, mo, hM, hmb, hmc⟩ := Q.s.r2 (by rw [ints_length]; have := (List.getElem?_eq_some_iff.1 hm).1; omega)
  have cm : W.cell? ⟨mb, mo + p, none⟩ = some (.int .i64 (m : Int)) := hmc p _ (ints_at hm)
  have hti : (i : Int) < (o.bs.length : Int) := by omega
  have hpi : (p : Int) < (o.st.f2.length : Int) := by have := (List.getElem?_eq_some_iff.1 hm).1; omega
  have c2 : W.cell? ⟨w.heap.size, 2, none⟩ = some (.slice (some ⟨mb, mo, none⟩) o.st.f2.length k.h.c2) := by rw [← hM]; exact k0.cell 2
  have c5 : W.cell? ⟨w.heap.size, 5, none⟩ = some (.slice (some ⟨rb, ro, none⟩) o.bs.length k.k.c) := by rw [← hA]; exact k0.cell 5
  have lk := k0.lt
  have lrb : rb < W.heap.size := by omega
  have lmb : mb < W.heap.size := by omega
  have BW := Lib.hid bW
  have HW := Lib.hid hW
  rw [rdC_all hcp] at hr
  clear hW bW k0 hrow hm hS Q hM hA hmc hi hcp hrl
  rcases List.eq_nil_or_concat cs with rfl | ⟨d, c, rfl⟩
  · have hfin : Hid (m = r) := Lib.hid (by rw [← hr.out]; rfl)
    have hx0 : W.cell? ⟨rb, ro + i, none⟩ = some (.slice Ai 0 ci) := hx0
    clear hr hrw
    go_enter Try.func74, Try.ntmps74
    go_wp2_with (rw [← HW.out])
    go_ret
    exact ⟨by rw [← hfin.out]; rfl, BW.out⟩
  · rw [List.concat_eq_append] at *
    have hfin : Hid (c % 4 = r) := Lib.hid (by rw [← hr.out, List.getLast?_append]; rfl)
    obtain ⟨ab, ao, hAi, hab, hcell⟩ := hrw (by rw [ints_length, rowV_length]; simp)
    subst hAi
    have hlen : (rowV (d ++ [c])).length = d.length + 1 := by rw [rowV_length]; simp
    rw [hlen] at hx0
    have c0 : W.cell? ⟨ab, ao + d.length, none⟩ = some (.int .i64 ((c % 4 : Nat) : Int)) := hcell _ _ (ints_at (rowV_at (by simp)))
    have habw : ab < W.heap.size := by omega
    rw [List.length_append] at hl
    obtain ⟨n, hn⟩ : ∃ n, d.length = n := ⟨_, rfl⟩
    rw [hn] at hx0 c0 hl
    simp only [List.length_singleton] at hl
    clear hr hcell hlen hn
    go_enter Try.func74, Try.ntmps74
    go_wp2_with (rw [← HW.out])
    go_ret
    exact ⟨by rw [← hfin.out]; rfl, BW.out⟩
/-- What BufReads answers. -/
def brdZ (L : Pg) (o : Buf) (th pl : Int) : Int := if (bufB L o && inB th 0 ((L.length : Int) - 1)) && inB pl 0 2 then (rdC (cdsB o th.toNat) pl.toNat (o.st.f2.getD pl.toNat 0).toNat : Nat) else -1
structure BfP (L : Pg) (o : Buf) : Prop where
  P : StP L o.st
  n : o.bs.length = L.length
  ok : ∀ xs ∈ o.bs, lokB xs = true
theorem bufB_parts {L : Pg} {o : Buf} (h : bufB L o = true) : BfP L o := by
  simp only [bufB, Bool.and_eq_true, decide_eq_true_eq, List.all_eq_true] at h
  exact ⟨stB_parts h.1.1, h.1.2, h.2⟩
theorem BfP.row {L : Pg} {o : Buf} (h : BfP L o) {t : Nat} (ht : t < L.length) : o.bs[t]? = some (rowS (cdsB o t)) ∧ okS (cdsB o t) ∧ (cdsB o t).length ≤ 6 := by
  have hl : t < o.bs.length := by have := h.n; omega
  have hx : o.bs[t]? = some o.bs[t] := List.getElem?_eq_getElem hl
  obtain ⟨h1, h2, h3⟩ := cdsB_row h.ok hx
  exact ⟨by rw [h1]; exact hx, h2, h3⟩
theorem BfP.mem {L : Pg} {o : Buf} (h : BfP L o) {p : Nat} (hp : p < 3) : o.st.f2[p]? = some (((o.st.f2.getD p 0).toNat : Nat) : Int) ∧ wdF L o.st (15 + p) = (o.st.f2.getD p 0).toNat := by
  have hl : p < o.st.f2.length := by have := h.P.m2; omega
  have hx : o.st.f2[p]? = some o.st.f2[p] := List.getElem?_eq_getElem hl
  have hv := h.P.v2 p _ hx
  have hd : o.st.f2.getD p 0 = o.st.f2[p] := by simp [List.getD, hx]
  rw [wdF_hi h.P (by omega), pk_mem h.P hp, hd]
  exact ⟨by rw [hx]; congr 1; omega, rfl⟩
theorem ibufreads_any (h : PgH) (L : Pg) (k : BufH) (o : Buf) (th pl : Int) (w : World) (B : Nat) (hP : PgR w B h L) (hS : BufR w B k o) (hB : B ≤ w.heap.size) (SP : PgS L) (LS : BufS o) (r : Int) (hr : Hid (brdZ L o th pl = r)) :
    Calls Try.prog 43 #[PgV h L, BufV k o, .int .i64 th, .int .i64 pl] w fun e w' => e = .returned (.int .i64 r) ∧ Below w.heap.size w w' := by
  have LL := SP.l
  obtain ⟨W, hW⟩ : ∃ W, W = (w.alloc (.cells #[.slice h.A L.length h.c] 36)).alloc (.cells #[.slice k.h.A0 o.st.f0.length k.h.c0, .slice k.h.A1 o.st.f1.length k.h.c1, .slice k.h.A2 o.st.f2.length k.h.c2, .slice k.h.A3 o.st.f3.length k.h.c3, .slice k.h.A4 o.st.f4.length k.h.c4, .slice k.k.A o.bs.length k.k.c] 59) := ⟨_, rfl⟩
  have bW : Below w.heap.size w W := by rw [hW]; go_grown
  have k0 : Bk W w.heap.size 36 #[.slice h.A L.length h.c] := by rw [hW]; exact (Bk.new w _ _).alloc _
  have k1 : Bk W (w.heap.size + 1) 59 #[.slice k.h.A0 o.st.f0.length k.h.c0, .slice k.h.A1 o.st.f1.length k.h.c1, .slice k.h.A2 o.st.f2.length k.h.c2, .slice k.h.A3 o.st.f3.length k.h.c3, .slice k.h.A4 o.st.f4.length k.h.c4, .slice k.k.A o.bs.length k.k.c] := by
    rw [hW]; have := Bk.new (w.alloc (.cells #[.slice h.A L.length h.c] 36)) #[.slice k.h.A0 o.st.f0.length k.h.c0, .slice k.h.A1 o.st.f1.length k.h.c1, .slice k.h.A2 o.st.f2.length k.h.c2, .slice k.h.A3 o.st.f3.length k.h.c3, .slice k.h.A4 o.st.f4.length k.h.c4, .slice k.k.A o.bs.length k.k.c] 59
    rwa [World.size_alloc] at this
  have P0 := Lib.hid (hP.below bW hB)
  have Q0 := Lib.hid (hS.below bW hB)
  have K0 := Lib.hid k0
  have K1 := Lib.hid k1
  have B0 := Lib.hid bW
  have z0 := bW.size
  have HW := Lib.hid hW
  clear hW bW k0 k1 hP hS
  rcases Bool.eq_false_or_eq_true (bufB L o) with hst | hst
  rotate_left
  · have hfin : Hid (r = -1) := Lib.hid (by rw [← hr.out, brdZ, hst]; rfl)
    have HST := Lib.hid hst
    clear hr hst
    go_enter Try.func43, Try.ntmps43
    go_wp2_with fail
    rw [← HW.out]
    refine (ibufok_any h L k o W B P0.out Q0.out (by omega) SP LS false HST).mono ?_
    rintro e w1 ⟨rfl, hb⟩
    have B1 := Lib.hid (below_on B0.out hb)
    have z1 := hb.size
    have k01 := K0.out.below hb K0.out.lt
    have k11 := K1.out.below hb K1.out.lt
    have P1 := Lib.hid (P0.out.below hb (by omega))
    have Q1 := Lib.hid (Q0.out.below hb (by omega))
    have K01 := Lib.hid k01
    have K11 := Lib.hid k11
    have cP : w1.cell? ⟨w.heap.size, 0, none⟩ = some (.slice h.A L.length h.c) := k01.cell 0
    have lP := k01.lt
    have cS0 : w1.cell? ⟨w.heap.size + 1, 0, none⟩ = some (.slice k.h.A0 o.st.f0.length k.h.c0) := k11.cell 0
    have cS1 : w1.cell? ⟨w.heap.size + 1, 1, none⟩ = some (.slice k.h.A1 o.st.f1.length k.h.c1) := k11.cell 1
    have cS2 : w1.cell? ⟨w.heap.size + 1, 2, none⟩ = some (.slice k.h.A2 o.st.f2.length k.h.c2) := k11.cell 2
    have cS3 : w1.cell? ⟨w.heap.size + 1, 3, none⟩ = some (.slice k.h.A3 o.st.f3.length k.h.c3) := k11.cell 3
    have cS4 : w1.cell? ⟨w.heap.size + 1, 4, none⟩ = some (.slice k.h.A4 o.st.f4.length k.h.c4) := k11.cell 4
    have cS5 : w1.cell? ⟨w.heap.size + 1, 5, none⟩ = some (.slice k.k.A o.bs.length k.k.c) := k11.cell 5
    clear hb k01 k11
    go_wp2
    go_ret
    exact ⟨by rw [hfin.out]; rfl, B1.out⟩
  have HST := Lib.hid hst
  have F := bufB_parts hst
  have hprog := F.P.prog
  rcases Bool.eq_false_or_eq_true (inB th 0 ((L.length : Int) - 1)) with ht | ht
  rotate_left
  · have hfin : Hid (r = -1) := Lib.hid (by rw [← hr.out, brdZ, ht, Bool.and_false]; rfl)
    have HT := Lib.hid ht
    have HH : Hid (hasB L th = false) := Lib.hid (by unfold hasB; rw [ht]; simp)
    clear hr hst ht
    go_enter Try.func43, Try.ntmps43
    go_wp2_with fail
    rw [← HW.out]
    refine (ibufok_any h L k o W B P0.out Q0.out (by omega) SP LS true HST).mono ?_
    rintro e w1 ⟨rfl, hb⟩
    have B1 := Lib.hid (below_on B0.out hb)
    have z1 := hb.size
    have k01 := K0.out.below hb K0.out.lt
    have k11 := K1.out.below hb K1.out.lt
    have P1 := Lib.hid (P0.out.below hb (by omega))
    have Q1 := Lib.hid (Q0.out.below hb (by omega))
    have K01 := Lib.hid k01
    have K11 := Lib.hid k11
    have cP : w1.cell? ⟨w.heap.size, 0, none⟩ = some (.slice h.A L.length h.c) := k01.cell 0
    have lP := k01.lt
    have cS0 : w1.cell? ⟨w.heap.size + 1, 0, none⟩ = some (.slice k.h.A0 o.st.f0.length k.h.c0) := k11.cell 0
    have cS1 : w1.cell? ⟨w.heap.size + 1, 1, none⟩ = some (.slice k.h.A1 o.st.f1.length k.h.c1) := k11.cell 1
    have cS2 : w1.cell? ⟨w.heap.size + 1, 2, none⟩ = some (.slice k.h.A2 o.st.f2.length k.h.c2) := k11.cell 2
    have cS3 : w1.cell? ⟨w.heap.size + 1, 3, none⟩ = some (.slice k.h.A3 o.st.f3.length k.h.c3) := k11.cell 3
    have cS4 : w1.cell? ⟨w.heap.size + 1, 4, none⟩ = some (.slice k.h.A4 o.st.f4.length k.h.c4) := k11.cell 4
    have cS5 : w1.cell? ⟨w.heap.size + 1, 5, none⟩ = some (.slice k.k.A o.bs.length k.k.c) := k11.cell 5
    clear hb k01 k11
    go_wp2_with fail
    refine (ihas_any h.A L h.c th w1 B P1.out (by omega) LL false HH).mono ?_
    rintro e w2 ⟨rfl, hb2⟩
    have B2 := Lib.hid (B1.out.trans (hb2.mono (by omega)))
    clear hb2 cP cS0 cS1 cS2 cS3 cS4 cS5
    go_wp2
    go_ret
    exact ⟨by rw [hfin.out]; rfl, B2.out⟩
  have HT := Lib.hid ht
  have HH : Hid (hasB L th = true) := Lib.hid (by unfold hasB; rw [ht, hprog]; rfl)
  rcases Bool.eq_false_or_eq_true (inB pl 0 2) with hp | hp
  rotate_left
  · have hfin : Hid (r = -1) := Lib.hid (by rw [← hr.out, brdZ, hp, Bool.and_false]; rfl)
    have HPl := Lib.hid hp
    clear hr hst ht hp
    go_enter Try.func43, Try.ntmps43
    go_wp2_with fail
    rw [← HW.out]
    refine (ibufok_any h L k o W B P0.out Q0.out (by omega) SP LS true HST).mono ?_
    rintro e w1 ⟨rfl, hb⟩
    have B1 := Lib.hid (below_on B0.out hb)
    have z1 := hb.size
    have k01 := K0.out.below hb K0.out.lt
    have k11 := K1.out.below hb K1.out.lt
    have P1 := Lib.hid (P0.out.below hb (by omega))
    have Q1 := Lib.hid (Q0.out.below hb (by omega))
    have K01 := Lib.hid k01
    have K11 := Lib.hid k11
    have cP : w1.cell? ⟨w.heap.size, 0, none⟩ = some (.slice h.A L.length h.c) := k01.cell 0
    have lP := k01.lt
    have cS0 : w1.cell? ⟨w.heap.size + 1, 0, none⟩ = some (.slice k.h.A0 o.st.f0.length k.h.c0) := k11.cell 0
    have cS1 : w1.cell? ⟨w.heap.size + 1, 1, none⟩ = some (.slice k.h.A1 o.st.f1.length k.h.c1) := k11.cell 1
    have cS2 : w1.cell? ⟨w.heap.size + 1, 2, none⟩ = some (.slice k.h.A2 o.st.f2.length k.h.c2) := k11.cell 2
    have cS3 : w1.cell? ⟨w.heap.size + 1, 3, none⟩ = some (.slice k.h.A3 o.st.f3.length k.h.c3) := k11.cell 3
    have cS4 : w1.cell? ⟨w.heap.size + 1, 4, none⟩ = some (.slice k.h.A4 o.st.f4.length k.h.c4) := k11.cell 4
    have cS5 : w1.cell? ⟨w.heap.size + 1, 5, none⟩ = some (.slice k.k.A o.bs.length k.k.c) := k11.cell 5
    clear hb k01 k11
    go_wp2_with fail
    refine (ihas_any h.A L h.c th w1 B P1.out (by omega) LL true HH).mono ?_
    rintro e w2 ⟨rfl, hb2⟩
    have B2 := Lib.hid (B1.out.trans (hb2.mono (by omega)))
    clear hb2 cP cS0 cS1 cS2 cS3 cS4 cS5
    go_wp2_with fail
    refine (within_b pl 0 2 _ _ HPl).mono ?_
    rintro e w' ⟨rfl, rfl⟩
    go_wp2
    go_ret
    exact ⟨by rw [hfin.out]; rfl, B2.out⟩
  have HPl := Lib.hid hp
  obtain ⟨t, rfl⟩ : ∃ t : Nat, th = t := ⟨th.toNat, by simp [inB] at ht; omega⟩
  obtain ⟨p, rfl⟩ : ∃ p : Nat, pl = p := ⟨pl.toNat, by simp [inB] at hp; omega⟩
  have htl : t < L.length := by simp [inB] at ht; omega
  have hp3 : p < 3 := by simp [inB] at hp; omega
  obtain ⟨hrow, hok, hl6⟩ := F.row htl
  obtain ⟨hm1, hm2⟩ := F.mem hp3
  obtain ⟨v, hv⟩ : ∃ v, rdC (cdsB o t) p (o.st.f2.getD p 0).toNat = v := ⟨_, rfl⟩
  have hfin : Hid (r = (v : Int)) := Lib.hid (by rw [← hr.out, brdZ, hst, ht, hp, if_pos (by rfl), Int.toNat_natCast, Int.toNat_natCast, hv])
  have HV : Hid (rdC (cdsB o (bfi 1 t p)) p (wdF L o.st (15 + p)) = v) := Lib.hid (by rw [hm2, bfi1]; exact hv)
  have HF := Lib.hid F
  have n3 := F.P.n3
  have HRow := Lib.hid hrow
  have HM := Lib.hid hm1
  clear hr hst ht hp F hprog hrow hm1 hm2 hv
  go_enter Try.func43, Try.ntmps43
  go_wp2_with fail
  rw [← HW.out]
  refine (ibufok_any h L k o W B P0.out Q0.out (by omega) SP LS true HST).mono ?_
  rintro e w1 ⟨rfl, hb⟩
  have B1 := Lib.hid (below_on B0.out hb)
  have z1 := hb.size
  have k01 := K0.out.below hb K0.out.lt
  have k11 := K1.out.below hb K1.out.lt
  have P1 := Lib.hid (P0.out.below hb (by omega))
  have Q1 := Lib.hid (Q0.out.below hb (by omega))
  have K01 := Lib.hid k01
  have K11 := Lib.hid k11
  have cP : w1.cell? ⟨w.heap.size, 0, none⟩ = some (.slice h.A L.length h.c) := k01.cell 0
  have lP := k01.lt
  have cS0 : w1.cell? ⟨w.heap.size + 1, 0, none⟩ = some (.slice k.h.A0 o.st.f0.length k.h.c0) := k11.cell 0
  have cS1 : w1.cell? ⟨w.heap.size + 1, 1, none⟩ = some (.slice k.h.A1 o.st.f1.length k.h.c1) := k11.cell 1
  have cS2 : w1.cell? ⟨w.heap.size + 1, 2, none⟩ = some (.slice k.h.A2 o.st.f2.length k.h.c2) := k11.cell 2
  have cS3 : w1.cell? ⟨w.heap.size + 1, 3, none⟩ = some (.slice k.h.A3 o.st.f3.length k.h.c3) := k11.cell 3
  have cS4 : w1.cell? ⟨w.heap.size + 1, 4, none⟩ = some (.slice k.h.A4 o.st.f4.length k.h.c4) := k11.cell 4
  have cS5 : w1.cell? ⟨w.heap.size + 1, 5, none⟩ = some (.slice k.k.A o.bs.length k.k.c) := k11.cell 5
  clear hb k01 k11
  go_wp2_with fail
  refine (ihas_any h.A L h.c (t : Int) w1 B P1.out (by omega) LL true HH).mono ?_
  rintro e w2 ⟨rfl, hb2⟩
  have B2 := Lib.hid (B1.out.trans (hb2.mono (by omega)))
  have P2 := Lib.hid (P1.out.below hb2 (by omega))
  have Q2 := Lib.hid (Q1.out.below hb2 (by omega))
  have k02 := K01.out.below hb2 K01.out.lt
  have k12 := K11.out.below hb2 K11.out.lt
  have z2 := hb2.size
  clear hb2 cP cS0 cS1 cS2 cS3 cS4 cS5 lP
  have cP : w2.cell? ⟨w.heap.size, 0, none⟩ = some (.slice h.A L.length h.c) := k02.cell 0
  have lP := k02.lt
  have cS0 : w2.cell? ⟨w.heap.size + 1, 0, none⟩ = some (.slice k.h.A0 o.st.f0.length k.h.c0) := k12.cell 0
  have cS1 : w2.cell? ⟨w.heap.size + 1, 1, none⟩ = some (.slice k.h.A1 o.st.f1.length k.h.c1) := k12.cell 1
  have cS2 : w2.cell? ⟨w.heap.size + 1, 2, none⟩ = some (.slice k.h.A2 o.st.f2.length k.h.c2) := k12.cell 2
  have cS3 : w2.cell? ⟨w.heap.size + 1, 3, none⟩ = some (.slice k.h.A3 o.st.f3.length k.h.c3) := k12.cell 3
  have cS4 : w2.cell? ⟨w.heap.size + 1, 4, none⟩ = some (.slice k.h.A4 o.st.f4.length k.h.c4) := k12.cell 4
  have cS5 : w2.cell? ⟨w.heap.size + 1, 5, none⟩ = some (.slice k.k.A o.bs.length k.k.c) := k12.cell 5
  clear k02 k12
  go_wp2_with fail
  refine (within_b (p : Int) 0 2 _ _ HPl).mono ?_
  rintro e w' ⟨rfl, rfl⟩
  go_wp2_with fail
  refine (packbuf_any h L k o w2 B P2.out Q2.out (by omega) HF.out.P HF.out.n HF.out.ok).mono ?_
  rintro e w3 ⟨rfl, hb3⟩
  have B3 := Lib.hid (B2.out.trans (hb3.mono (by omega)))
  clear hb3 cP cS0 cS1 cS2 cS3 cS4 cS5
  go_wp2_with fail
  refine (readat_any 1 (wdF L o.st) (cdsB o) t p w3 (Or.inl rfl) (wdF_ok HF.out.P) (fun u hu => ⟨(cdsB_ok HF.out.ok u hu).1, by have := (cdsB_ok HF.out.ok u hu).2; omega⟩) (by omega) hp3 v HV).mono ?_
  rintro e w4 ⟨rfl, hb4⟩
  have B4 := Lib.hid (below_on B3.out hb4)
  clear hb4
  go_wp2
  go_ret
  exact ⟨by rw [hfin.out]; rfl, B4.out⟩
theorem sbufreads_any (h : PgH) (L : Pg) (k : BufH) (o : Buf) (th pl : Int) (w : World) (B : Nat) (hP : PgR w B h L) (hS : BufR w B k o) (hB : B ≤ w.heap.size) (SP : PgS L) (LS : BufS o) (r : Int) (hr : Hid (brdZ L o th pl = r)) :
    Calls Try.prog 41 #[PgV h L, BufV k o, .int .i64 th, .int .i64 pl] w fun e w' => e = .returned (.int .i64 r) ∧ Below w.heap.size w w' := by
  have LL := SP.l
  obtain ⟨W, hW⟩ : ∃ W, W = (w.alloc (.cells #[.slice h.A L.length h.c] 36)).alloc (.cells #[.slice k.h.A0 o.st.f0.length k.h.c0, .slice k.h.A1 o.st.f1.length k.h.c1, .slice k.h.A2 o.st.f2.length k.h.c2, .slice k.h.A3 o.st.f3.length k.h.c3, .slice k.h.A4 o.st.f4.length k.h.c4, .slice k.k.A o.bs.length k.k.c] 59) := ⟨_, rfl⟩
  have bW : Below w.heap.size w W := by rw [hW]; go_grown
  have k0 : Bk W w.heap.size 36 #[.slice h.A L.length h.c] := by rw [hW]; exact (Bk.new w _ _).alloc _
  have k1 : Bk W (w.heap.size + 1) 59 #[.slice k.h.A0 o.st.f0.length k.h.c0, .slice k.h.A1 o.st.f1.length k.h.c1, .slice k.h.A2 o.st.f2.length k.h.c2, .slice k.h.A3 o.st.f3.length k.h.c3, .slice k.h.A4 o.st.f4.length k.h.c4, .slice k.k.A o.bs.length k.k.c] := by
    rw [hW]; have := Bk.new (w.alloc (.cells #[.slice h.A L.length h.c] 36)) #[.slice k.h.A0 o.st.f0.length k.h.c0, .slice k.h.A1 o.st.f1.length k.h.c1, .slice k.h.A2 o.st.f2.length k.h.c2, .slice k.h.A3 o.st.f3.length k.h.c3, .slice k.h.A4 o.st.f4.length k.h.c4, .slice k.k.A o.bs.length k.k.c] 59
    rwa [World.size_alloc] at this
  have P0 := Lib.hid (hP.below bW hB)
  have Q0 := Lib.hid (hS.below bW hB)
  have K0 := Lib.hid k0
  have K1 := Lib.hid k1
  have B0 := Lib.hid bW
  have z0 := bW.size
  have HW := Lib.hid hW
  clear hW bW k0 k1 hP hS
  rcases Bool.eq_false_or_eq_true (bufB L o) with hst | hst
  rotate_left
  · have hfin : Hid (r = -1) := Lib.hid (by rw [← hr.out, brdZ, hst]; rfl)
    have HST := Lib.hid hst
    clear hr hst
    go_enter Try.func41, Try.ntmps41
    go_wp2_with fail
    rw [← HW.out]
    refine (sbufok_any h L k o W B P0.out Q0.out (by omega) SP LS false HST).mono ?_
    rintro e w1 ⟨rfl, hb⟩
    have B1 := Lib.hid (below_on B0.out hb)
    have z1 := hb.size
    have k01 := K0.out.below hb K0.out.lt
    have k11 := K1.out.below hb K1.out.lt
    have P1 := Lib.hid (P0.out.below hb (by omega))
    have Q1 := Lib.hid (Q0.out.below hb (by omega))
    have K01 := Lib.hid k01
    have K11 := Lib.hid k11
    have cP : w1.cell? ⟨w.heap.size, 0, none⟩ = some (.slice h.A L.length h.c) := k01.cell 0
    have lP := k01.lt
    have cS0 : w1.cell? ⟨w.heap.size + 1, 0, none⟩ = some (.slice k.h.A0 o.st.f0.length k.h.c0) := k11.cell 0
    have cS1 : w1.cell? ⟨w.heap.size + 1, 1, none⟩ = some (.slice k.h.A1 o.st.f1.length k.h.c1) := k11.cell 1
    have cS2 : w1.cell? ⟨w.heap.size + 1, 2, none⟩ = some (.slice k.h.A2 o.st.f2.length k.h.c2) := k11.cell 2
    have cS3 : w1.cell? ⟨w.heap.size + 1, 3, none⟩ = some (.slice k.h.A3 o.st.f3.length k.h.c3) := k11.cell 3
    have cS4 : w1.cell? ⟨w.heap.size + 1, 4, none⟩ = some (.slice k.h.A4 o.st.f4.length k.h.c4) := k11.cell 4
    have cS5 : w1.cell? ⟨w.heap.size + 1, 5, none⟩ = some (.slice k.k.A o.bs.length k.k.c) := k11.cell 5
    clear hb k01 k11
    go_wp2
    go_ret
    exact ⟨by rw [hfin.out]; rfl, B1.out⟩
  have HST := Lib.hid hst
  have F := bufB_parts hst
  have hprog := F.P.prog
  rcases Bool.eq_false_or_eq_true (inB th 0 ((L.length : Int) - 1)) with ht | ht
  rotate_left
  · have hfin : Hid (r = -1) := Lib.hid (by rw [← hr.out, brdZ, ht, Bool.and_false]; rfl)
    have HT := Lib.hid ht
    have HH : Hid (hasB L th = false) := Lib.hid (by unfold hasB; rw [ht]; simp)
    clear hr hst ht
    go_enter Try.func41, Try.ntmps41
    go_wp2_with fail
    rw [← HW.out]
    refine (sbufok_any h L k o W B P0.out Q0.out (by omega) SP LS true HST).mono ?_
    rintro e w1 ⟨rfl, hb⟩
    have B1 := Lib.hid (below_on B0.out hb)
    have z1 := hb.size
    have k01 := K0.out.below hb K0.out.lt
    have k11 := K1.out.below hb K1.out.lt
    have P1 := Lib.hid (P0.out.below hb (by omega))
    have Q1 := Lib.hid (Q0.out.below hb (by omega))
    have K01 := Lib.hid k01
    have K11 := Lib.hid k11
    have cP : w1.cell? ⟨w.heap.size, 0, none⟩ = some (.slice h.A L.length h.c) := k01.cell 0
    have lP := k01.lt
    have cS0 : w1.cell? ⟨w.heap.size + 1, 0, none⟩ = some (.slice k.h.A0 o.st.f0.length k.h.c0) := k11.cell 0
    have cS1 : w1.cell? ⟨w.heap.size + 1, 1, none⟩ = some (.slice k.h.A1 o.st.f1.length k.h.c1) := k11.cell 1
    have cS2 : w1.cell? ⟨w.heap.size + 1, 2, none⟩ = some (.slice k.h.A2 o.st.f2.length k.h.c2) := k11.cell 2
    have cS3 : w1.cell? ⟨w.heap.size + 1, 3, none⟩ = some (.slice k.h.A3 o.st.f3.length k.h.c3) := k11.cell 3
    have cS4 : w1.cell? ⟨w.heap.size + 1, 4, none⟩ = some (.slice k.h.A4 o.st.f4.length k.h.c4) := k11.cell 4
    have cS5 : w1.cell? ⟨w.heap.size + 1, 5, none⟩ = some (.slice k.k.A o.bs.length k.k.c) := k11.cell 5
    clear hb k01 k11
    go_wp2_with fail
    refine (l1In_b th 0 _ _ _ HT).mono ?_
    rintro e w' ⟨rfl, rfl⟩
    have B2 := B1
    go_wp2
    go_ret
    exact ⟨by rw [hfin.out]; rfl, B2.out⟩
  have HT := Lib.hid ht
  have HH : Hid (hasB L th = true) := Lib.hid (by unfold hasB; rw [ht, hprog]; rfl)
  rcases Bool.eq_false_or_eq_true (inB pl 0 2) with hp | hp
  rotate_left
  · have hfin : Hid (r = -1) := Lib.hid (by rw [← hr.out, brdZ, hp, Bool.and_false]; rfl)
    have HPl := Lib.hid hp
    clear hr hst ht hp
    go_enter Try.func41, Try.ntmps41
    go_wp2_with fail
    rw [← HW.out]
    refine (sbufok_any h L k o W B P0.out Q0.out (by omega) SP LS true HST).mono ?_
    rintro e w1 ⟨rfl, hb⟩
    have B1 := Lib.hid (below_on B0.out hb)
    have z1 := hb.size
    have k01 := K0.out.below hb K0.out.lt
    have k11 := K1.out.below hb K1.out.lt
    have P1 := Lib.hid (P0.out.below hb (by omega))
    have Q1 := Lib.hid (Q0.out.below hb (by omega))
    have K01 := Lib.hid k01
    have K11 := Lib.hid k11
    have cP : w1.cell? ⟨w.heap.size, 0, none⟩ = some (.slice h.A L.length h.c) := k01.cell 0
    have lP := k01.lt
    have cS0 : w1.cell? ⟨w.heap.size + 1, 0, none⟩ = some (.slice k.h.A0 o.st.f0.length k.h.c0) := k11.cell 0
    have cS1 : w1.cell? ⟨w.heap.size + 1, 1, none⟩ = some (.slice k.h.A1 o.st.f1.length k.h.c1) := k11.cell 1
    have cS2 : w1.cell? ⟨w.heap.size + 1, 2, none⟩ = some (.slice k.h.A2 o.st.f2.length k.h.c2) := k11.cell 2
    have cS3 : w1.cell? ⟨w.heap.size + 1, 3, none⟩ = some (.slice k.h.A3 o.st.f3.length k.h.c3) := k11.cell 3
    have cS4 : w1.cell? ⟨w.heap.size + 1, 4, none⟩ = some (.slice k.h.A4 o.st.f4.length k.h.c4) := k11.cell 4
    have cS5 : w1.cell? ⟨w.heap.size + 1, 5, none⟩ = some (.slice k.k.A o.bs.length k.k.c) := k11.cell 5
    clear hb k01 k11
    go_wp2_with fail
    refine (l1In_b th 0 _ _ _ HT).mono ?_
    rintro e w' ⟨rfl, rfl⟩
    have B2 := B1
    go_wp2_with fail
    refine (l1In_b pl 0 2 _ _ HPl).mono ?_
    rintro e w' ⟨rfl, rfl⟩
    go_wp2
    go_ret
    exact ⟨by rw [hfin.out]; rfl, B2.out⟩
  have HPl := Lib.hid hp
  obtain ⟨t, rfl⟩ : ∃ t : Nat, th = t := ⟨th.toNat, by simp [inB] at ht; omega⟩
  obtain ⟨p, rfl⟩ : ∃ p : Nat, pl = p := ⟨pl.toNat, by simp [inB] at hp; omega⟩
  have htl : t < L.length := by simp [inB] at ht; omega
  have hp3 : p < 3 := by simp [inB] at hp; omega
  obtain ⟨hrow, hok, hl6⟩ := F.row htl
  obtain ⟨hm1, hm2⟩ := F.mem hp3
  obtain ⟨v, hv⟩ : ∃ v, rdC (cdsB o t) p (o.st.f2.getD p 0).toNat = v := ⟨_, rfl⟩
  have hfin : Hid (r = (v : Int)) := Lib.hid (by rw [← hr.out, brdZ, hst, ht, hp, if_pos (by rfl), Int.toNat_natCast, Int.toNat_natCast, hv])
  have HV := Lib.hid hv
  have HF := Lib.hid F
  have n3 := F.P.n3
  have HRow := Lib.hid hrow
  have HM := Lib.hid hm1
  clear hr hst ht hp F hprog hrow hm1 hm2 hv
  go_enter Try.func41, Try.ntmps41
  go_wp2_with fail
  rw [← HW.out]
  refine (sbufok_any h L k o W B P0.out Q0.out (by omega) SP LS true HST).mono ?_
  rintro e w1 ⟨rfl, hb⟩
  have B1 := Lib.hid (below_on B0.out hb)
  have z1 := hb.size
  have k01 := K0.out.below hb K0.out.lt
  have k11 := K1.out.below hb K1.out.lt
  have P1 := Lib.hid (P0.out.below hb (by omega))
  have Q1 := Lib.hid (Q0.out.below hb (by omega))
  have K01 := Lib.hid k01
  have K11 := Lib.hid k11
  have cP : w1.cell? ⟨w.heap.size, 0, none⟩ = some (.slice h.A L.length h.c) := k01.cell 0
  have lP := k01.lt
  have cS0 : w1.cell? ⟨w.heap.size + 1, 0, none⟩ = some (.slice k.h.A0 o.st.f0.length k.h.c0) := k11.cell 0
  have cS1 : w1.cell? ⟨w.heap.size + 1, 1, none⟩ = some (.slice k.h.A1 o.st.f1.length k.h.c1) := k11.cell 1
  have cS2 : w1.cell? ⟨w.heap.size + 1, 2, none⟩ = some (.slice k.h.A2 o.st.f2.length k.h.c2) := k11.cell 2
  have cS3 : w1.cell? ⟨w.heap.size + 1, 3, none⟩ = some (.slice k.h.A3 o.st.f3.length k.h.c3) := k11.cell 3
  have cS4 : w1.cell? ⟨w.heap.size + 1, 4, none⟩ = some (.slice k.h.A4 o.st.f4.length k.h.c4) := k11.cell 4
  have cS5 : w1.cell? ⟨w.heap.size + 1, 5, none⟩ = some (.slice k.k.A o.bs.length k.k.c) := k11.cell 5
  clear hb k01 k11
  go_wp2_with fail
  refine (l1In_b (t : Int) 0 _ _ _ HT).mono ?_
  rintro e w' ⟨rfl, rfl⟩
  go_wp2_with fail
  refine (l1In_b (p : Int) 0 2 _ _ HPl).mono ?_
  rintro e w' ⟨rfl, rfl⟩
  go_wp2_with fail
  refine (s7reads_any k o t p w1 B Q1.out (by omega) (cdsB o t) HRow.out hok (by omega) _ HM.out v HV).mono ?_
  rintro e w4 ⟨rfl, hb4⟩
  have B4 := Lib.hid (below_on B1.out hb4)
  clear hb4 cP cS0 cS1 cS2 cS3 cS4 cS5
  go_wp2
  go_ret
  exact ⟨by rw [hfin.out]; rfl, B4.out⟩
/-- What SpreadReads answers. -/
def vrdZ (L : Pg) (o : Buf) (th pl : Int) : Int := if (sprB L o && inB th 0 ((L.length : Int) - 1)) && inB pl 0 2 then (rdC (cdsV o (bfi 3 th.toNat pl.toNat)) pl.toNat (o.st.f2.getD pl.toNat 0).toNat : Nat) else -1
structure SfP (L : Pg) (o : Buf) : Prop where
  P : StP L o.st
  n : o.bs.length = L.length * 3
  ok : ∀ xs ∈ o.bs, vokB xs = true
theorem sprB_parts {L : Pg} {o : Buf} (h : sprB L o = true) : SfP L o := by
  simp only [sprB, Bool.and_eq_true, decide_eq_true_eq, List.all_eq_true] at h
  exact ⟨stB_parts h.1.1, h.1.2, h.2⟩
theorem SfP.row {L : Pg} {o : Buf} (h : SfP L o) {t : Nat} (ht : t < L.length * 3) : o.bs[t]? = some (rowV (cdsV o t)) ∧ okS (cdsV o t) ∧ (cdsV o t).length ≤ 6 ∧ ∀ c ∈ cdsV o t, c / 4 = t % 3 := by
  have hl : t < o.bs.length := by have := h.n; omega
  have hx : o.bs[t]? = some o.bs[t] := List.getElem?_eq_getElem hl
  obtain ⟨h1, h2, h3, h4, _⟩ := cdsV_row h.ok hx
  exact ⟨by rw [h1]; exact hx, h2, h3, h4⟩
theorem SfP.mem {L : Pg} {o : Buf} (h : SfP L o) {p : Nat} (hp : p < 3) : o.st.f2[p]? = some (((o.st.f2.getD p 0).toNat : Nat) : Int) ∧ wdF L o.st (15 + p) = (o.st.f2.getD p 0).toNat := by
  have hl : p < o.st.f2.length := by have := h.P.m2; omega
  have hx : o.st.f2[p]? = some o.st.f2[p] := List.getElem?_eq_getElem hl
  have hv := h.P.v2 p _ hx
  have hd : o.st.f2.getD p 0 = o.st.f2[p] := by simp [List.getD, hx]
  rw [wdF_hi h.P (by omega), pk_mem h.P hp, hd]
  exact ⟨by rw [hx]; congr 1; omega, rfl⟩
theorem isprreads_any (h : PgH) (L : Pg) (k : BufH) (o : Buf) (th pl : Int) (w : World) (B : Nat) (hP : PgR w B h L) (hS : BufR w B k o) (hB : B ≤ w.heap.size) (SP : PgS L) (LS : BufS o) (r : Int) (hr : Hid (vrdZ L o th pl = r)) :
    Calls Try.prog 27 #[PgV h L, BufV k o, .int .i64 th, .int .i64 pl] w fun e w' => e = .returned (.int .i64 r) ∧ Below w.heap.size w w' := by
  have LL := SP.l
  obtain ⟨W, hW⟩ : ∃ W, W = (w.alloc (.cells #[.slice h.A L.length h.c] 36)).alloc (.cells #[.slice k.h.A0 o.st.f0.length k.h.c0, .slice k.h.A1 o.st.f1.length k.h.c1, .slice k.h.A2 o.st.f2.length k.h.c2, .slice k.h.A3 o.st.f3.length k.h.c3, .slice k.h.A4 o.st.f4.length k.h.c4, .slice k.k.A o.bs.length k.k.c] 31) := ⟨_, rfl⟩
  have bW : Below w.heap.size w W := by rw [hW]; go_grown
  have k0 : Bk W w.heap.size 36 #[.slice h.A L.length h.c] := by rw [hW]; exact (Bk.new w _ _).alloc _
  have k1 : Bk W (w.heap.size + 1) 31 #[.slice k.h.A0 o.st.f0.length k.h.c0, .slice k.h.A1 o.st.f1.length k.h.c1, .slice k.h.A2 o.st.f2.length k.h.c2, .slice k.h.A3 o.st.f3.length k.h.c3, .slice k.h.A4 o.st.f4.length k.h.c4, .slice k.k.A o.bs.length k.k.c] := by
    rw [hW]; have := Bk.new (w.alloc (.cells #[.slice h.A L.length h.c] 36)) #[.slice k.h.A0 o.st.f0.length k.h.c0, .slice k.h.A1 o.st.f1.length k.h.c1, .slice k.h.A2 o.st.f2.length k.h.c2, .slice k.h.A3 o.st.f3.length k.h.c3, .slice k.h.A4 o.st.f4.length k.h.c4, .slice k.k.A o.bs.length k.k.c] 31
    rwa [World.size_alloc] at this
  have P0 := Lib.hid (hP.below bW hB)
  have Q0 := Lib.hid (hS.below bW hB)
  have K0 := Lib.hid k0
  have K1 := Lib.hid k1
  have B0 := Lib.hid bW
  have z0 := bW.size
  have HW := Lib.hid hW
  clear hW bW k0 k1 hP hS
  rcases Bool.eq_false_or_eq_true (sprB L o) with hst | hst
  rotate_left
  · have hfin : Hid (r = -1) := Lib.hid (by rw [← hr.out, vrdZ, hst]; rfl)
    have HST := Lib.hid hst
    clear hr hst
    go_enter Try.func27, Try.ntmps27
    go_wp2_with fail
    rw [← HW.out]
    refine (isprok_any h L k o W B P0.out Q0.out (by omega) SP LS false HST).mono ?_
    rintro e w1 ⟨rfl, hb⟩
    have B1 := Lib.hid (below_on B0.out hb)
    have z1 := hb.size
    have k01 := K0.out.below hb K0.out.lt
    have k11 := K1.out.below hb K1.out.lt
    have P1 := Lib.hid (P0.out.below hb (by omega))
    have Q1 := Lib.hid (Q0.out.below hb (by omega))
    have K01 := Lib.hid k01
    have K11 := Lib.hid k11
    have cP : w1.cell? ⟨w.heap.size, 0, none⟩ = some (.slice h.A L.length h.c) := k01.cell 0
    have lP := k01.lt
    have cS0 : w1.cell? ⟨w.heap.size + 1, 0, none⟩ = some (.slice k.h.A0 o.st.f0.length k.h.c0) := k11.cell 0
    have cS1 : w1.cell? ⟨w.heap.size + 1, 1, none⟩ = some (.slice k.h.A1 o.st.f1.length k.h.c1) := k11.cell 1
    have cS2 : w1.cell? ⟨w.heap.size + 1, 2, none⟩ = some (.slice k.h.A2 o.st.f2.length k.h.c2) := k11.cell 2
    have cS3 : w1.cell? ⟨w.heap.size + 1, 3, none⟩ = some (.slice k.h.A3 o.st.f3.length k.h.c3) := k11.cell 3
    have cS4 : w1.cell? ⟨w.heap.size + 1, 4, none⟩ = some (.slice k.h.A4 o.st.f4.length k.h.c4) := k11.cell 4
    have cS5 : w1.cell? ⟨w.heap.size + 1, 5, none⟩ = some (.slice k.k.A o.bs.length k.k.c) := k11.cell 5
    clear hb k01 k11
    go_wp2
    go_ret
    exact ⟨by rw [hfin.out]; rfl, B1.out⟩
  have HST := Lib.hid hst
  have F := sprB_parts hst
  have hprog := F.P.prog
  rcases Bool.eq_false_or_eq_true (inB th 0 ((L.length : Int) - 1)) with ht | ht
  rotate_left
  · have hfin : Hid (r = -1) := Lib.hid (by rw [← hr.out, vrdZ, ht, Bool.and_false]; rfl)
    have HT := Lib.hid ht
    have HH : Hid (hasB L th = false) := Lib.hid (by unfold hasB; rw [ht]; simp)
    clear hr hst ht
    go_enter Try.func27, Try.ntmps27
    go_wp2_with fail
    rw [← HW.out]
    refine (isprok_any h L k o W B P0.out Q0.out (by omega) SP LS true HST).mono ?_
    rintro e w1 ⟨rfl, hb⟩
    have B1 := Lib.hid (below_on B0.out hb)
    have z1 := hb.size
    have k01 := K0.out.below hb K0.out.lt
    have k11 := K1.out.below hb K1.out.lt
    have P1 := Lib.hid (P0.out.below hb (by omega))
    have Q1 := Lib.hid (Q0.out.below hb (by omega))
    have K01 := Lib.hid k01
    have K11 := Lib.hid k11
    have cP : w1.cell? ⟨w.heap.size, 0, none⟩ = some (.slice h.A L.length h.c) := k01.cell 0
    have lP := k01.lt
    have cS0 : w1.cell? ⟨w.heap.size + 1, 0, none⟩ = some (.slice k.h.A0 o.st.f0.length k.h.c0) := k11.cell 0
    have cS1 : w1.cell? ⟨w.heap.size + 1, 1, none⟩ = some (.slice k.h.A1 o.st.f1.length k.h.c1) := k11.cell 1
    have cS2 : w1.cell? ⟨w.heap.size + 1, 2, none⟩ = some (.slice k.h.A2 o.st.f2.length k.h.c2) := k11.cell 2
    have cS3 : w1.cell? ⟨w.heap.size + 1, 3, none⟩ = some (.slice k.h.A3 o.st.f3.length k.h.c3) := k11.cell 3
    have cS4 : w1.cell? ⟨w.heap.size + 1, 4, none⟩ = some (.slice k.h.A4 o.st.f4.length k.h.c4) := k11.cell 4
    have cS5 : w1.cell? ⟨w.heap.size + 1, 5, none⟩ = some (.slice k.k.A o.bs.length k.k.c) := k11.cell 5
    clear hb k01 k11
    go_wp2_with fail
    refine (ihas_any h.A L h.c th w1 B P1.out (by omega) LL false HH).mono ?_
    rintro e w2 ⟨rfl, hb2⟩
    have B2 := Lib.hid (B1.out.trans (hb2.mono (by omega)))
    clear hb2 cP cS0 cS1 cS2 cS3 cS4 cS5
    go_wp2
    go_ret
    exact ⟨by rw [hfin.out]; rfl, B2.out⟩
  have HT := Lib.hid ht
  have HH : Hid (hasB L th = true) := Lib.hid (by unfold hasB; rw [ht, hprog]; rfl)
  rcases Bool.eq_false_or_eq_true (inB pl 0 2) with hp | hp
  rotate_left
  · have hfin : Hid (r = -1) := Lib.hid (by rw [← hr.out, vrdZ, hp, Bool.and_false]; rfl)
    have HPl := Lib.hid hp
    clear hr hst ht hp
    go_enter Try.func27, Try.ntmps27
    go_wp2_with fail
    rw [← HW.out]
    refine (isprok_any h L k o W B P0.out Q0.out (by omega) SP LS true HST).mono ?_
    rintro e w1 ⟨rfl, hb⟩
    have B1 := Lib.hid (below_on B0.out hb)
    have z1 := hb.size
    have k01 := K0.out.below hb K0.out.lt
    have k11 := K1.out.below hb K1.out.lt
    have P1 := Lib.hid (P0.out.below hb (by omega))
    have Q1 := Lib.hid (Q0.out.below hb (by omega))
    have K01 := Lib.hid k01
    have K11 := Lib.hid k11
    have cP : w1.cell? ⟨w.heap.size, 0, none⟩ = some (.slice h.A L.length h.c) := k01.cell 0
    have lP := k01.lt
    have cS0 : w1.cell? ⟨w.heap.size + 1, 0, none⟩ = some (.slice k.h.A0 o.st.f0.length k.h.c0) := k11.cell 0
    have cS1 : w1.cell? ⟨w.heap.size + 1, 1, none⟩ = some (.slice k.h.A1 o.st.f1.length k.h.c1) := k11.cell 1
    have cS2 : w1.cell? ⟨w.heap.size + 1, 2, none⟩ = some (.slice k.h.A2 o.st.f2.length k.h.c2) := k11.cell 2
    have cS3 : w1.cell? ⟨w.heap.size + 1, 3, none⟩ = some (.slice k.h.A3 o.st.f3.length k.h.c3) := k11.cell 3
    have cS4 : w1.cell? ⟨w.heap.size + 1, 4, none⟩ = some (.slice k.h.A4 o.st.f4.length k.h.c4) := k11.cell 4
    have cS5 : w1.cell? ⟨w.heap.size + 1, 5, none⟩ = some (.slice k.k.A o.bs.length k.k.c) := k11.cell 5
    clear hb k01 k11
    go_wp2_with fail
    refine (ihas_any h.A L h.c th w1 B P1.out (by omega) LL true HH).mono ?_
    rintro e w2 ⟨rfl, hb2⟩
    have B2 := Lib.hid (B1.out.trans (hb2.mono (by omega)))
    clear hb2 cP cS0 cS1 cS2 cS3 cS4 cS5
    go_wp2_with fail
    refine (within_b pl 0 2 _ _ HPl).mono ?_
    rintro e w' ⟨rfl, rfl⟩
    go_wp2
    go_ret
    exact ⟨by rw [hfin.out]; rfl, B2.out⟩
  have HPl := Lib.hid hp
  obtain ⟨t, rfl⟩ : ∃ t : Nat, th = t := ⟨th.toNat, by simp [inB] at ht; omega⟩
  obtain ⟨p, rfl⟩ : ∃ p : Nat, pl = p := ⟨pl.toNat, by simp [inB] at hp; omega⟩
  have htl : t < L.length := by simp [inB] at ht; omega
  have hp3 : p < 3 := by simp [inB] at hp; omega
  obtain ⟨hrow, hok, hl6, hcp⟩ := F.row (t := t * 3 + p) (by omega)
  rw [show (t * 3 + p) % 3 = p by omega] at hcp
  obtain ⟨hm1, hm2⟩ := F.mem hp3
  obtain ⟨v, hv⟩ : ∃ v, rdC (cdsV o (t * 3 + p)) p (o.st.f2.getD p 0).toNat = v := ⟨_, rfl⟩
  have hfin : Hid (r = (v : Int)) := Lib.hid (by rw [← hr.out, vrdZ, hst, ht, hp, if_pos (by rfl), Int.toNat_natCast, Int.toNat_natCast, bfi3 t p hp3, hv])
  have HV : Hid (rdC (cdsV o (bfi 3 t p)) p (wdF L o.st (15 + p)) = v) := Lib.hid (by rw [hm2, bfi3 t p hp3]; exact hv)
  have HF := Lib.hid F
  have n3 := F.P.n3
  have HRow := Lib.hid hrow
  have HM := Lib.hid hm1
  clear hr hst ht hp F hprog hrow hm1 hm2 hv
  go_enter Try.func27, Try.ntmps27
  go_wp2_with fail
  rw [← HW.out]
  refine (isprok_any h L k o W B P0.out Q0.out (by omega) SP LS true HST).mono ?_
  rintro e w1 ⟨rfl, hb⟩
  have B1 := Lib.hid (below_on B0.out hb)
  have z1 := hb.size
  have k01 := K0.out.below hb K0.out.lt
  have k11 := K1.out.below hb K1.out.lt
  have P1 := Lib.hid (P0.out.below hb (by omega))
  have Q1 := Lib.hid (Q0.out.below hb (by omega))
  have K01 := Lib.hid k01
  have K11 := Lib.hid k11
  have cP : w1.cell? ⟨w.heap.size, 0, none⟩ = some (.slice h.A L.length h.c) := k01.cell 0
  have lP := k01.lt
  have cS0 : w1.cell? ⟨w.heap.size + 1, 0, none⟩ = some (.slice k.h.A0 o.st.f0.length k.h.c0) := k11.cell 0
  have cS1 : w1.cell? ⟨w.heap.size + 1, 1, none⟩ = some (.slice k.h.A1 o.st.f1.length k.h.c1) := k11.cell 1
  have cS2 : w1.cell? ⟨w.heap.size + 1, 2, none⟩ = some (.slice k.h.A2 o.st.f2.length k.h.c2) := k11.cell 2
  have cS3 : w1.cell? ⟨w.heap.size + 1, 3, none⟩ = some (.slice k.h.A3 o.st.f3.length k.h.c3) := k11.cell 3
  have cS4 : w1.cell? ⟨w.heap.size + 1, 4, none⟩ = some (.slice k.h.A4 o.st.f4.length k.h.c4) := k11.cell 4
  have cS5 : w1.cell? ⟨w.heap.size + 1, 5, none⟩ = some (.slice k.k.A o.bs.length k.k.c) := k11.cell 5
  clear hb k01 k11
  go_wp2_with fail
  refine (ihas_any h.A L h.c (t : Int) w1 B P1.out (by omega) LL true HH).mono ?_
  rintro e w2 ⟨rfl, hb2⟩
  have B2 := Lib.hid (B1.out.trans (hb2.mono (by omega)))
  have P2 := Lib.hid (P1.out.below hb2 (by omega))
  have Q2 := Lib.hid (Q1.out.below hb2 (by omega))
  have k02 := K01.out.below hb2 K01.out.lt
  have k12 := K11.out.below hb2 K11.out.lt
  have z2 := hb2.size
  clear hb2 cP cS0 cS1 cS2 cS3 cS4 cS5 lP
  have cP : w2.cell? ⟨w.heap.size, 0, none⟩ = some (.slice h.A L.length h.c) := k02.cell 0
  have lP := k02.lt
  have cS0 : w2.cell? ⟨w.heap.size + 1, 0, none⟩ = some (.slice k.h.A0 o.st.f0.length k.h.c0) := k12.cell 0
  have cS1 : w2.cell? ⟨w.heap.size + 1, 1, none⟩ = some (.slice k.h.A1 o.st.f1.length k.h.c1) := k12.cell 1
  have cS2 : w2.cell? ⟨w.heap.size + 1, 2, none⟩ = some (.slice k.h.A2 o.st.f2.length k.h.c2) := k12.cell 2
  have cS3 : w2.cell? ⟨w.heap.size + 1, 3, none⟩ = some (.slice k.h.A3 o.st.f3.length k.h.c3) := k12.cell 3
  have cS4 : w2.cell? ⟨w.heap.size + 1, 4, none⟩ = some (.slice k.h.A4 o.st.f4.length k.h.c4) := k12.cell 4
  have cS5 : w2.cell? ⟨w.heap.size + 1, 5, none⟩ = some (.slice k.k.A o.bs.length k.k.c) := k12.cell 5
  clear k02 k12
  go_wp2_with fail
  refine (within_b (p : Int) 0 2 _ _ HPl).mono ?_
  rintro e w' ⟨rfl, rfl⟩
  go_wp2_with fail
  refine (packspr_any h L k o w2 B P2.out Q2.out (by omega) HF.out.P HF.out.n HF.out.ok).mono ?_
  rintro e w3 ⟨rfl, hb3⟩
  have B3 := Lib.hid (B2.out.trans (hb3.mono (by omega)))
  clear hb3 cP cS0 cS1 cS2 cS3 cS4 cS5
  go_wp2_with fail
  refine (readat_any 3 (wdF L o.st) (cdsV o) t p w3 (Or.inr rfl) (wdF_ok HF.out.P) (fun u hu => ⟨(cdsV_ok HF.out.ok u hu).1, by have := (cdsV_ok HF.out.ok u hu).2; omega⟩) (by omega) hp3 v HV).mono ?_
  rintro e w4 ⟨rfl, hb4⟩
  have B4 := Lib.hid (below_on B3.out hb4)
  clear hb4
  go_wp2
  go_ret
  exact ⟨by rw [hfin.out]; rfl, B4.out⟩
theorem ssprreads_any (h : PgH) (L : Pg) (k : BufH) (o : Buf) (th pl : Int) (w : World) (B : Nat) (hP : PgR w B h L) (hS : BufR w B k o) (hB : B ≤ w.heap.size) (SP : PgS L) (LS : BufS o) (r : Int) (hr : Hid (vrdZ L o th pl = r)) :
    Calls Try.prog 26 #[PgV h L, BufV k o, .int .i64 th, .int .i64 pl] w fun e w' => e = .returned (.int .i64 r) ∧ Below w.heap.size w w' := by
  have LL := SP.l
  obtain ⟨W, hW⟩ : ∃ W, W = (w.alloc (.cells #[.slice h.A L.length h.c] 36)).alloc (.cells #[.slice k.h.A0 o.st.f0.length k.h.c0, .slice k.h.A1 o.st.f1.length k.h.c1, .slice k.h.A2 o.st.f2.length k.h.c2, .slice k.h.A3 o.st.f3.length k.h.c3, .slice k.h.A4 o.st.f4.length k.h.c4, .slice k.k.A o.bs.length k.k.c] 31) := ⟨_, rfl⟩
  have bW : Below w.heap.size w W := by rw [hW]; go_grown
  have k0 : Bk W w.heap.size 36 #[.slice h.A L.length h.c] := by rw [hW]; exact (Bk.new w _ _).alloc _
  have k1 : Bk W (w.heap.size + 1) 31 #[.slice k.h.A0 o.st.f0.length k.h.c0, .slice k.h.A1 o.st.f1.length k.h.c1, .slice k.h.A2 o.st.f2.length k.h.c2, .slice k.h.A3 o.st.f3.length k.h.c3, .slice k.h.A4 o.st.f4.length k.h.c4, .slice k.k.A o.bs.length k.k.c] := by
    rw [hW]; have := Bk.new (w.alloc (.cells #[.slice h.A L.length h.c] 36)) #[.slice k.h.A0 o.st.f0.length k.h.c0, .slice k.h.A1 o.st.f1.length k.h.c1, .slice k.h.A2 o.st.f2.length k.h.c2, .slice k.h.A3 o.st.f3.length k.h.c3, .slice k.h.A4 o.st.f4.length k.h.c4, .slice k.k.A o.bs.length k.k.c] 31
    rwa [World.size_alloc] at this
  have P0 := Lib.hid (hP.below bW hB)
  have Q0 := Lib.hid (hS.below bW hB)
  have K0 := Lib.hid k0
  have K1 := Lib.hid k1
  have B0 := Lib.hid bW
  have z0 := bW.size
  have HW := Lib.hid hW
  clear hW bW k0 k1 hP hS
  rcases Bool.eq_false_or_eq_true (sprB L o) with hst | hst
  rotate_left
  · have hfin : Hid (r = -1) := Lib.hid (by rw [← hr.out, vrdZ, hst]; rfl)
    have HST := Lib.hid hst
    clear hr hst
    go_enter Try.func26, Try.ntmps26
    go_wp2_with fail
    rw [← HW.out]
    refine (ssprok_any h L k o W B P0.out Q0.out (by omega) SP LS false HST).mono ?_
    rintro e w1 ⟨rfl, hb⟩
    have B1 := Lib.hid (below_on B0.out hb)
    have z1 := hb.size
    have k01 := K0.out.below hb K0.out.lt
    have k11 := K1.out.below hb K1.out.lt
    have P1 := Lib.hid (P0.out.below hb (by omega))
    have Q1 := Lib.hid (Q0.out.below hb (by omega))
    have K01 := Lib.hid k01
    have K11 := Lib.hid k11
    have cP : w1.cell? ⟨w.heap.size, 0, none⟩ = some (.slice h.A L.length h.c) := k01.cell 0
    have lP := k01.lt
    have cS0 : w1.cell? ⟨w.heap.size + 1, 0, none⟩ = some (.slice k.h.A0 o.st.f0.length k.h.c0) := k11.cell 0
    have cS1 : w1.cell? ⟨w.heap.size + 1, 1, none⟩ = some (.slice k.h.A1 o.st.f1.length k.h.c1) := k11.cell 1
    have cS2 : w1.cell? ⟨w.heap.size + 1, 2, none⟩ = some (.slice k.h.A2 o.st.f2.length k.h.c2) := k11.cell 2
    have cS3 : w1.cell? ⟨w.heap.size + 1, 3, none⟩ = some (.slice k.h.A3 o.st.f3.length k.h.c3) := k11.cell 3
    have cS4 : w1.cell? ⟨w.heap.size + 1, 4, none⟩ = some (.slice k.h.A4 o.st.f4.length k.h.c4) := k11.cell 4
    have cS5 : w1.cell? ⟨w.heap.size + 1, 5, none⟩ = some (.slice k.k.A o.bs.length k.k.c) := k11.cell 5
    clear hb k01 k11
    go_wp2
    go_ret
    exact ⟨by rw [hfin.out]; rfl, B1.out⟩
  have HST := Lib.hid hst
  have F := sprB_parts hst
  have hprog := F.P.prog
  rcases Bool.eq_false_or_eq_true (inB th 0 ((L.length : Int) - 1)) with ht | ht
  rotate_left
  · have hfin : Hid (r = -1) := Lib.hid (by rw [← hr.out, vrdZ, ht, Bool.and_false]; rfl)
    have HT := Lib.hid ht
    have HH : Hid (hasB L th = false) := Lib.hid (by unfold hasB; rw [ht]; simp)
    clear hr hst ht
    go_enter Try.func26, Try.ntmps26
    go_wp2_with fail
    rw [← HW.out]
    refine (ssprok_any h L k o W B P0.out Q0.out (by omega) SP LS true HST).mono ?_
    rintro e w1 ⟨rfl, hb⟩
    have B1 := Lib.hid (below_on B0.out hb)
    have z1 := hb.size
    have k01 := K0.out.below hb K0.out.lt
    have k11 := K1.out.below hb K1.out.lt
    have P1 := Lib.hid (P0.out.below hb (by omega))
    have Q1 := Lib.hid (Q0.out.below hb (by omega))
    have K01 := Lib.hid k01
    have K11 := Lib.hid k11
    have cP : w1.cell? ⟨w.heap.size, 0, none⟩ = some (.slice h.A L.length h.c) := k01.cell 0
    have lP := k01.lt
    have cS0 : w1.cell? ⟨w.heap.size + 1, 0, none⟩ = some (.slice k.h.A0 o.st.f0.length k.h.c0) := k11.cell 0
    have cS1 : w1.cell? ⟨w.heap.size + 1, 1, none⟩ = some (.slice k.h.A1 o.st.f1.length k.h.c1) := k11.cell 1
    have cS2 : w1.cell? ⟨w.heap.size + 1, 2, none⟩ = some (.slice k.h.A2 o.st.f2.length k.h.c2) := k11.cell 2
    have cS3 : w1.cell? ⟨w.heap.size + 1, 3, none⟩ = some (.slice k.h.A3 o.st.f3.length k.h.c3) := k11.cell 3
    have cS4 : w1.cell? ⟨w.heap.size + 1, 4, none⟩ = some (.slice k.h.A4 o.st.f4.length k.h.c4) := k11.cell 4
    have cS5 : w1.cell? ⟨w.heap.size + 1, 5, none⟩ = some (.slice k.k.A o.bs.length k.k.c) := k11.cell 5
    clear hb k01 k11
    go_wp2_with fail
    refine (l1In_b th 0 _ _ _ HT).mono ?_
    rintro e w' ⟨rfl, rfl⟩
    have B2 := B1
    go_wp2
    go_ret
    exact ⟨by rw [hfin.out]; rfl, B2.out⟩
  have HT := Lib.hid ht
  have HH : Hid (hasB L th = true) := Lib.hid (by unfold hasB; rw [ht, hprog]; rfl)
  rcases Bool.eq_false_or_eq_true (inB pl 0 2) with hp | hp
  rotate_left
  · have hfin : Hid (r = -1) := Lib.hid (by rw [← hr.out, vrdZ, hp, Bool.and_false]; rfl)
    have HPl := Lib.hid hp
    clear hr hst ht hp
    go_enter Try.func26, Try.ntmps26
    go_wp2_with fail
    rw [← HW.out]
    refine (ssprok_any h L k o W B P0.out Q0.out (by omega) SP LS true HST).mono ?_
    rintro e w1 ⟨rfl, hb⟩
    have B1 := Lib.hid (below_on B0.out hb)
    have z1 := hb.size
    have k01 := K0.out.below hb K0.out.lt
    have k11 := K1.out.below hb K1.out.lt
    have P1 := Lib.hid (P0.out.below hb (by omega))
    have Q1 := Lib.hid (Q0.out.below hb (by omega))
    have K01 := Lib.hid k01
    have K11 := Lib.hid k11
    have cP : w1.cell? ⟨w.heap.size, 0, none⟩ = some (.slice h.A L.length h.c) := k01.cell 0
    have lP := k01.lt
    have cS0 : w1.cell? ⟨w.heap.size + 1, 0, none⟩ = some (.slice k.h.A0 o.st.f0.length k.h.c0) := k11.cell 0
    have cS1 : w1.cell? ⟨w.heap.size + 1, 1, none⟩ = some (.slice k.h.A1 o.st.f1.length k.h.c1) := k11.cell 1
    have cS2 : w1.cell? ⟨w.heap.size + 1, 2, none⟩ = some (.slice k.h.A2 o.st.f2.length k.h.c2) := k11.cell 2
    have cS3 : w1.cell? ⟨w.heap.size + 1, 3, none⟩ = some (.slice k.h.A3 o.st.f3.length k.h.c3) := k11.cell 3
    have cS4 : w1.cell? ⟨w.heap.size + 1, 4, none⟩ = some (.slice k.h.A4 o.st.f4.length k.h.c4) := k11.cell 4
    have cS5 : w1.cell? ⟨w.heap.size + 1, 5, none⟩ = some (.slice k.k.A o.bs.length k.k.c) := k11.cell 5
    clear hb k01 k11
    go_wp2_with fail
    refine (l1In_b th 0 _ _ _ HT).mono ?_
    rintro e w' ⟨rfl, rfl⟩
    have B2 := B1
    go_wp2_with fail
    refine (l1In_b pl 0 2 _ _ HPl).mono ?_
    rintro e w' ⟨rfl, rfl⟩
    go_wp2
    go_ret
    exact ⟨by rw [hfin.out]; rfl, B2.out⟩
  have HPl := Lib.hid hp
  obtain ⟨t, rfl⟩ : ∃ t : Nat, th = t := ⟨th.toNat, by simp [inB] at ht; omega⟩
  obtain ⟨p, rfl⟩ : ∃ p : Nat, pl = p := ⟨pl.toNat, by simp [inB] at hp; omega⟩
  have htl : t < L.length := by simp [inB] at ht; omega
  have hp3 : p < 3 := by simp [inB] at hp; omega
  obtain ⟨hrow, hok, hl6, hcp⟩ := F.row (t := t * 3 + p) (by omega)
  rw [show (t * 3 + p) % 3 = p by omega] at hcp
  obtain ⟨hm1, hm2⟩ := F.mem hp3
  obtain ⟨v, hv⟩ : ∃ v, rdC (cdsV o (t * 3 + p)) p (o.st.f2.getD p 0).toNat = v := ⟨_, rfl⟩
  have hfin : Hid (r = (v : Int)) := Lib.hid (by rw [← hr.out, vrdZ, hst, ht, hp, if_pos (by rfl), Int.toNat_natCast, Int.toNat_natCast, bfi3 t p hp3, hv])
  have HV := Lib.hid hv
  have HF := Lib.hid F
  have n3 := F.P.n3
  have HRow := Lib.hid hrow
  have HM := Lib.hid hm1
  clear hr hst ht hp F hprog hrow hm1 hm2 hv
  go_enter Try.func26, Try.ntmps26
  go_wp2_with fail
  rw [← HW.out]
  refine (ssprok_any h L k o W B P0.out Q0.out (by omega) SP LS true HST).mono ?_
  rintro e w1 ⟨rfl, hb⟩
  have B1 := Lib.hid (below_on B0.out hb)
  have z1 := hb.size
  have k01 := K0.out.below hb K0.out.lt
  have k11 := K1.out.below hb K1.out.lt
  have P1 := Lib.hid (P0.out.below hb (by omega))
  have Q1 := Lib.hid (Q0.out.below hb (by omega))
  have K01 := Lib.hid k01
  have K11 := Lib.hid k11
  have cP : w1.cell? ⟨w.heap.size, 0, none⟩ = some (.slice h.A L.length h.c) := k01.cell 0
  have lP := k01.lt
  have cS0 : w1.cell? ⟨w.heap.size + 1, 0, none⟩ = some (.slice k.h.A0 o.st.f0.length k.h.c0) := k11.cell 0
  have cS1 : w1.cell? ⟨w.heap.size + 1, 1, none⟩ = some (.slice k.h.A1 o.st.f1.length k.h.c1) := k11.cell 1
  have cS2 : w1.cell? ⟨w.heap.size + 1, 2, none⟩ = some (.slice k.h.A2 o.st.f2.length k.h.c2) := k11.cell 2
  have cS3 : w1.cell? ⟨w.heap.size + 1, 3, none⟩ = some (.slice k.h.A3 o.st.f3.length k.h.c3) := k11.cell 3
  have cS4 : w1.cell? ⟨w.heap.size + 1, 4, none⟩ = some (.slice k.h.A4 o.st.f4.length k.h.c4) := k11.cell 4
  have cS5 : w1.cell? ⟨w.heap.size + 1, 5, none⟩ = some (.slice k.k.A o.bs.length k.k.c) := k11.cell 5
  clear hb k01 k11
  go_wp2_with fail
  refine (l1In_b (t : Int) 0 _ _ _ HT).mono ?_
  rintro e w' ⟨rfl, rfl⟩
  go_wp2_with fail
  refine (l1In_b (p : Int) 0 2 _ _ HPl).mono ?_
  rintro e w' ⟨rfl, rfl⟩
  go_wp2_with fail
  refine (s8reads_any k o t p w1 B Q1.out (by omega) (cdsV o (t * 3 + p)) (by omega) hp3 HRow.out hcp (by omega) _ HM.out v HV).mono ?_
  rintro e w4 ⟨rfl, hb4⟩
  have B4 := Lib.hid (below_on B1.out hb4)
  clear hb4 cP cS0 cS1 cS2 cS3 cS4 cS5
  go_wp2
  go_ret
  exact ⟨by rw [hfin.out]; rfl, B4.out⟩
end Go.Proofs.Ytnadihepgmbhaaa
