/-
  What the reference model's Can comes to: the same as the program's.
-/
import Derived.Test.YtmnpndmjheippaaSNext
namespace Go.Proofs.Ytmnpndmjheippaa
open Go.RowKit Pl Go.BigFrame
set_option maxHeartbeats 4000000
set_option maxRecDepth 100000
set_option linter.unusedVariables false

theorem getD_lim {xs : List Int} {lo hi : Int} (h : ∀ (k : Nat) (x : Int), xs[k]? = some x → lo ≤ x ∧ x ≤ hi) {i : Nat} (hi_ : i < xs.length) : lo ≤ xs.getD i 0 ∧ xs.getD i 0 ≤ hi := by
  have h1 : xs[i]? = some xs[i] := List.getElem?_eq_getElem hi_
  rw [getD_at h1]
  exact h i _ h1
theorem wait_ok {L : Pg} {s : Sta} (P : StP L s) {t : Nat} {x : Sm} (hx : x.okb = true) : waitF (pkF s) t x = !okZ s t x := by
  unfold waitF okZ
  by_cases h6 : x.k = 6
  · rw [if_pos h6, if_pos h6]
    obtain ⟨n, hn, ha⟩ := ok_lock hx (Or.inl h6)
    rw [ha, Int.toNat_natCast, pk_own P hn]
    have := getD_lim P.v3 (i := n) (by have := P.m3; omega)
    rw [Bool.eq_iff_iff]; simp; omega
  rw [if_neg h6, if_neg h6]
  by_cases h7 : x.k = 7
  · rw [if_pos h7, if_pos h7]
    obtain ⟨n, hn, ha⟩ := ok_lock hx (Or.inr (Or.inl h7))
    rw [ha, Int.toNat_natCast, pk_own P hn]
    have := getD_lim P.v3 (i := n) (by have := P.m3; omega)
    rw [Bool.eq_iff_iff]; simp; omega
  rw [if_neg h7, if_neg h7]
  by_cases h8 : x.k = 8
  · rw [if_pos h8, if_pos h8]
    obtain ⟨n, hn, ha⟩ := ok_lock hx (Or.inr (Or.inr h8))
    rw [ha, Int.toNat_natCast, pk_chan P hn]
    have := getD_lim P.v4 (i := n) (by have := P.m4; omega)
    rw [Bool.eq_iff_iff]; simp; omega
  rw [if_neg h8, if_neg h8]
  by_cases h9 : x.k = 9
  · rw [if_pos h9, if_pos h9]
    obtain ⟨n, hn, hb⟩ := ok_get hx h9
    rw [hb, Int.toNat_natCast, pk_chan P hn]
    have := getD_lim P.v4 (i := n) (by have := P.m4; omega)
    rw [Bool.eq_iff_iff]; simp; omega
  rw [if_neg h9, if_neg h9]
  rfl
theorem can_nx {L : Pg} {s : Sta} (P : StP L s) {t : Nat} (ht : t < L.length) : canF L (pkF s) t = nxZ L s t := by
  have hx : L[t]? = some L[t] := List.getElem?_eq_getElem ht
  obtain ⟨xs, hxs⟩ : ∃ xs, L[t]? = some xs := ⟨_, hx⟩
  obtain ⟨i, hi, h0, h1⟩ := atZ_at P.at_ hxs
  unfold canF nxZ
  rw [pk_at P ht, getD_at hi, getD_some hxs]
  by_cases hl : i < (xs.length : Int)
  · have hn : i.toNat < xs.length := by omega
    have hxi : xs[i.toNat]? = some xs[i.toNat] := List.getElem?_eq_getElem hn
    have hsm : smAt L t i.toNat = xs[i.toNat] := by unfold smAt; rw [getD_some hxs]; exact getD_some hxi
    have hok := (prog_thr P.prog hxs).2 _ _ hxi
    rw [hsm, wait_ok P hok]
    have e : (i.toNat == xs.length) = false := by rw [beq_eq_false_iff_ne]; omega
    rw [e]; simp [hl]
  · have e : i.toNat = xs.length := by omega
    simp [e, hl]
theorem scan_any (h : PgH) (L : Pg) (k : StaH) (s : Sta) (th : Int) (w : World) (B : Nat) (hP : PgR w B h L) (hS : StaR w B k s) (hB : B ≤ w.heap.size) (SP : PgS L) (LS : StaS s) (r : Bool) (hr : Hid (canB L s th = r)) :
    Calls Try.prog 69 #[PgV h L, StaV k s, .int .i64 th] w fun e w' => e = .returned (.bool r) ∧ Below w.heap.size w w' := by
  obtain ⟨W, hW⟩ : ∃ W, W = (w.alloc (.cells #[.slice h.A L.length h.c] 35)).alloc (.cells #[.slice k.A0 s.f0.length k.c0, .slice k.A1 s.f1.length k.c1, .slice k.A2 s.f2.length k.c2, .slice k.A3 s.f3.length k.c3, .slice k.A4 s.f4.length k.c4] 30) := ⟨_, rfl⟩
  have bW : Below w.heap.size w W := by rw [hW]; go_grown
  have k0 : Bk W w.heap.size 35 #[.slice h.A L.length h.c] := by rw [hW]; exact (Bk.new w _ _).alloc _
  have k1 : Bk W (w.heap.size + 1) 30 #[.slice k.A0 s.f0.length k.c0, .slice k.A1 s.f1.length k.c1, .slice k.A2 s.f2.length k.c2, .slice k.A3 s.f3.length k.c3, .slice k.A4 s.f4.length k.c4] := by
    rw [hW]; have := Bk.new (w.alloc (.cells #[.slice h.A L.length h.c] 35)) #[.slice k.A0 s.f0.length k.c0, .slice k.A1 s.f1.length k.c1, .slice k.A2 s.f2.length k.c2, .slice k.A3 s.f3.length k.c3, .slice k.A4 s.f4.length k.c4] 30
    rwa [World.size_alloc] at this
  have P0 := Lib.hid (hP.below bW hB)
  have Q0 := Lib.hid (hS.below bW hB)
  have K0 := Lib.hid k0
  have K1 := Lib.hid k1
  have B0 := Lib.hid bW
  have z0 := bW.size
  have HW := Lib.hid hW
  clear hW bW k0 k1 hP hS
  rcases Bool.eq_false_or_eq_true (stB L s) with hst | hst
  rotate_left
  · have hfin : Hid (r = false) := Lib.hid (by rw [← hr.out, canB, hst]; rfl)
    have HST := Lib.hid hst
    clear hr hst
    go_enter Try.func69, Try.ntmps69
    go_wp2_with fail
    rw [← HW.out]
    refine (sstok_any h L k s W B P0.out Q0.out (by omega) SP LS false HST).mono ?_
    rintro e w1 ⟨rfl, hb⟩
    have B1 := Lib.hid (below_on B0.out hb)
    clear hb
    go_wp2
    go_ret
    exact ⟨by rw [hfin.out]; rfl, B1.out⟩
  have P := stB_parts hst
  have p31 := P.n1
  have p32 := P.n3
  have HP := Lib.hid P
  have HST := Lib.hid hst
  have hr' := hr.out
  rw [canB, hst, Bool.true_and] at hr'
  clear hr hst P
  rcases Bool.eq_false_or_eq_true (inB th 0 ((L.length : Int) - 1)) with h1 | h1
  rotate_left
  · have hfin : Hid (r = false) := Lib.hid (by rw [← hr', h1]; rfl)
    have H1 := Lib.hid h1
    clear hr' h1
    go_enter Try.func69, Try.ntmps69
    go_wp2_with fail
    rw [← HW.out]
    refine (sstok_any h L k s W B P0.out Q0.out (by omega) SP LS true HST).mono ?_
    rintro e w1 ⟨rfl, hb⟩
    have B1 := Lib.hid (below_on B0.out hb)
    have cp : w1.cell? ⟨w.heap.size, 0, none⟩ = some (.slice h.A L.length h.c) := (K0.out.below hb K0.out.lt).cell 0
    have cs0 : w1.cell? ⟨w.heap.size + 1, 0, none⟩ = some (.slice k.A0 s.f0.length k.c0) := (K1.out.below hb K1.out.lt).cell 0
    have cs1 : w1.cell? ⟨w.heap.size + 1, 1, none⟩ = some (.slice k.A1 s.f1.length k.c1) := (K1.out.below hb K1.out.lt).cell 1
    have cs2 : w1.cell? ⟨w.heap.size + 1, 2, none⟩ = some (.slice k.A2 s.f2.length k.c2) := (K1.out.below hb K1.out.lt).cell 2
    have cs3 : w1.cell? ⟨w.heap.size + 1, 3, none⟩ = some (.slice k.A3 s.f3.length k.c3) := (K1.out.below hb K1.out.lt).cell 3
    have cs4 : w1.cell? ⟨w.heap.size + 1, 4, none⟩ = some (.slice k.A4 s.f4.length k.c4) := (K1.out.below hb K1.out.lt).cell 4
    have P1 := Lib.hid (P0.out.below hb (by omega))
    have Q1 := Lib.hid (Q0.out.below hb (by omega))
    have z1 := hb.size
    clear hb
    go_wp2_with fail
    refine (l1In_b _ _ _ _ false H1).mono ?_
    rintro e w' ⟨rfl, rfl⟩
    go_wp2
    go_ret
    exact ⟨by rw [hfin.out]; rfl, B1.out⟩
  have h1' := h1
  simp [inB] at h1'
  obtain ⟨t, rfl⟩ := Int.eq_ofNat_of_zero_le h1'.1
  have ht : t < L.length := by omega
  rw [h1, Bool.true_and, Int.toNat_natCast, can_nx HP.out ht] at hr'
  have hx : L[t]? = some L[t] := List.getElem?_eq_getElem ht
  obtain ⟨i, hi, g0, g1⟩ := atZ_at HP.out.at_ hx
  have hgd : s.f0.getD t 0 = i := getD_at hi
  have H1 := Lib.hid h1
  clear h1 hx hi h1'
  by_cases hl : i < ((L.getD t []).length : Int)
  · obtain ⟨m, rfl⟩ := Int.eq_ofNat_of_zero_le g0
    have HOK : Hid (okZ s t (smAt L t m) = r) := Lib.hid (by rw [← hr', nxZ, hgd, decide_eq_true hl, Bool.true_and, Int.toNat_natCast])
    have hml : m < (L.getD t []).length := by omega
    have HG := Lib.hid hgd
    have HML := Lib.hid hml
    clear hr' hgd hl hml g1
    go_enter Try.func69, Try.ntmps69
    go_wp2_with fail
    rw [← HW.out]
    refine (sstok_any h L k s W B P0.out Q0.out (by omega) SP LS true HST).mono ?_
    rintro e w1 ⟨rfl, hb⟩
    have B1 := Lib.hid (below_on B0.out hb)
    have cp : w1.cell? ⟨w.heap.size, 0, none⟩ = some (.slice h.A L.length h.c) := (K0.out.below hb K0.out.lt).cell 0
    have cs0 : w1.cell? ⟨w.heap.size + 1, 0, none⟩ = some (.slice k.A0 s.f0.length k.c0) := (K1.out.below hb K1.out.lt).cell 0
    have cs1 : w1.cell? ⟨w.heap.size + 1, 1, none⟩ = some (.slice k.A1 s.f1.length k.c1) := (K1.out.below hb K1.out.lt).cell 1
    have cs2 : w1.cell? ⟨w.heap.size + 1, 2, none⟩ = some (.slice k.A2 s.f2.length k.c2) := (K1.out.below hb K1.out.lt).cell 2
    have cs3 : w1.cell? ⟨w.heap.size + 1, 3, none⟩ = some (.slice k.A3 s.f3.length k.c3) := (K1.out.below hb K1.out.lt).cell 3
    have cs4 : w1.cell? ⟨w.heap.size + 1, 4, none⟩ = some (.slice k.A4 s.f4.length k.c4) := (K1.out.below hb K1.out.lt).cell 4
    have P1 := Lib.hid (P0.out.below hb (by omega))
    have Q1 := Lib.hid (Q0.out.below hb (by omega))
    have z1 := hb.size
    clear hb
    go_wp2_with fail
    refine (l1In_b _ _ _ _ true H1).mono ?_
    rintro e w' ⟨rfl, rfl⟩
    go_wp2_with fail
    refine (snext_yes h L k s t w1 B P1.out Q1.out (by omega) HP.out ht m HG.out HML.out r HOK).mono ?_
    rintro e w2 ⟨rfl, hb2⟩
    have B2 := Lib.hid (below_on B1.out hb2)
    clear hb2 cp cs0 cs1 cs2 cs3 cs4
    go_wp2
    go_ret
    exact ⟨rfl, below_on B2.out ((Below.refl _ _).alloc (Nat.le_refl _) _)⟩
  · have hfin : Hid (r = false) := Lib.hid (by rw [← hr', nxZ, hgd, decide_eq_false hl]; rfl)
    have HD : Hid (((L.getD t []).length : Int) ≤ s.f0.getD t 0) := Lib.hid (by rw [hgd]; omega)
    clear hr' hgd hl g0 g1
    go_enter Try.func69, Try.ntmps69
    go_wp2_with fail
    rw [← HW.out]
    refine (sstok_any h L k s W B P0.out Q0.out (by omega) SP LS true HST).mono ?_
    rintro e w1 ⟨rfl, hb⟩
    have B1 := Lib.hid (below_on B0.out hb)
    have cp : w1.cell? ⟨w.heap.size, 0, none⟩ = some (.slice h.A L.length h.c) := (K0.out.below hb K0.out.lt).cell 0
    have cs0 : w1.cell? ⟨w.heap.size + 1, 0, none⟩ = some (.slice k.A0 s.f0.length k.c0) := (K1.out.below hb K1.out.lt).cell 0
    have cs1 : w1.cell? ⟨w.heap.size + 1, 1, none⟩ = some (.slice k.A1 s.f1.length k.c1) := (K1.out.below hb K1.out.lt).cell 1
    have cs2 : w1.cell? ⟨w.heap.size + 1, 2, none⟩ = some (.slice k.A2 s.f2.length k.c2) := (K1.out.below hb K1.out.lt).cell 2
    have cs3 : w1.cell? ⟨w.heap.size + 1, 3, none⟩ = some (.slice k.A3 s.f3.length k.c3) := (K1.out.below hb K1.out.lt).cell 3
    have cs4 : w1.cell? ⟨w.heap.size + 1, 4, none⟩ = some (.slice k.A4 s.f4.length k.c4) := (K1.out.below hb K1.out.lt).cell 4
    have P1 := Lib.hid (P0.out.below hb (by omega))
    have Q1 := Lib.hid (Q0.out.below hb (by omega))
    have z1 := hb.size
    clear hb
    go_wp2_with fail
    refine (l1In_b _ _ _ _ true H1).mono ?_
    rintro e w' ⟨rfl, rfl⟩
    go_wp2_with fail
    refine (snext_no h L k s t w1 B P1.out Q1.out (by omega) HP.out ht HD.out).mono ?_
    rintro e w2 ⟨rfl, hb2⟩
    have B2 := Lib.hid (below_on B1.out hb2)
    clear hb2 cp cs0 cs1 cs2 cs3 cs4
    go_wp2
    go_ret
    exact ⟨by rw [hfin.out]; rfl, below_on B2.out ((Below.refl _ _).alloc (Nat.le_refl _) _)⟩
end Go.Proofs.Ytmnpndmjheippaa
