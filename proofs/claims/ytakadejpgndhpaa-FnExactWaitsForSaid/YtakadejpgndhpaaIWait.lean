/-
  What the program's ownerOfNext and WaitsFor come to.
-/
import Derived.Test.YtakadejpgndhpaaSixP
import Derived.Deep.RegionHeld3
namespace Go.Proofs.Ytakadejpgndhpaa
open Go.RowKit Pl
set_option maxHeartbeats 4000000
set_option maxRecDepth 100000
set_option linter.unusedVariables false

/-- The statement of an event. -/
theorem ev_stmt (t i k a b c : Int) (s : Bool) (w : World) : (Instr.field 146 (Ev t i k a b c s) 2).run Try.prog w = .ok (.agg #[.int .i64 k, .int .i64 a, .int .i64 b, .int .i64 c, .bool s]) w := by kernel_rfl
theorem ownernext_any (h : PgH) (L : Pg) (f : Nat → Nat) (t : Nat) (w : World) (B : Nat) (hP : PgR w B h L) (hB : B ≤ w.heap.size) (hL : progB L = true) (I : Inv L f) (ht : t < L.length) (r : Int) (hr : Hid (wowF L f t = r)) :
    Calls Try.prog 96 #[PgV h L, .int .u64 (enc WS f : Nat), .int .i64 t] w fun e w' => e = .returned (.int .i64 r) ∧ Below w.heap.size w w' := by
  obtain ⟨W, hW⟩ : ∃ W, W = w.alloc (.cells #[.slice h.A L.length h.c] 30) := ⟨_, rfl⟩
  have bW : Below w.heap.size w W := by rw [hW]; go_grown
  have KW := Lib.hid (show Bk W w.heap.size 30 #[.slice h.A L.length h.c] by rw [hW]; exact Bk.new _ _ _)
  have BW := Lib.hid bW
  have P0 := Lib.hid (hP.below bW hB)
  have HW := Lib.hid hW
  have hz := bW.size
  have lb0 := KW.out.lt
  clear hW bW hP
  have cb0 : W.cell? ⟨w.heap.size, 0, none⟩ = some (.slice h.A L.length h.c) := KW.out.cell 0
  by_cases hd : f (3 + t) = (L.getD t []).length
  · have HD := Lib.hid (show (f (3 + t) == (L.getD t []).length) = true by rw [hd]; simp)
    have hfin : Hid (r = -1) := Lib.hid (by rw [← hr.out, wowF, if_pos hd])
    clear hr hd
    go_enter Try.func96, Try.ntmps96
    go_wp2_with fail
    rw [← HW.out]
    go_wp2_with fail
    refine (isdone_any h L f t W B P0.out (by omega) hL I.good ht true HD).mono ?_
    rintro e w3 ⟨rfl, hb3⟩
    have H3 := Lib.hid (below_on BW.out hb3)
    clear hb3 cb0
    go_wp2
    go_ret
    exact ⟨by rw [hfin.out]; rfl, H3.out⟩
  · have HD := Lib.hid (show (f (3 + t) == (L.getD t []).length) = false by rw [Bool.eq_false_iff]; intro h; exact hd (by simpa using h))
    obtain ⟨hlt, hok⟩ := sm_next hL I.good ht hd
    have hr0 := hr.out
    rw [wowF, if_neg hd] at hr0
    obtain ⟨x, hx⟩ : ∃ x, smAt L t (f (3 + t)) = x := ⟨_, rfl⟩
    have hev := Lib.hid (fun (V : World) (hP : PgR V B h L) (hB : B ≤ V.heap.size) => nextev_any h L f t V B hP hB hL I.good ht hlt)
    unfold evV at hev
    rw [hx] at hok hr0 hev
    obtain ⟨k, a, b, c, s⟩ := x
    have hok : okB k a b c s = true := hok
    have hfd := ev_stmt (t : Int) (f (3 + t) : Nat) k a b c s
    clear hr hd hx hlt
    by_cases h6 : k = 6
    · subst h6
      obtain ⟨n, hn, ha⟩ := ok_lock (x := ⟨6, a, b, c, s⟩) hok (Or.inl rfl)
      have ha : a = (n : Int) := ha
      subst ha
      have HR : Hid ((f (18 + n) : Nat) + fL 3 = r) := Lib.hid (by rw [← hr0]; simp only [if_pos]; rw [Int.toNat_natCast]; have e : fL 3 = -1 := rfl; rw [e]; omega)
      clear hr0
      go_enter Try.func96, Try.ntmps96
      go_wp2_with fail
      rw [← HW.out]
      go_wp2_with fail
      refine (isdone_any h L f t W B P0.out (by omega) hL I.good ht false HD).mono ?_
      rintro e w3 ⟨rfl, hb3⟩
      have H3 := Lib.hid (below_on BW.out hb3)
      have c3 : w3.cell? ⟨w.heap.size, 0, none⟩ = some (.slice h.A L.length h.c) := (hb3.cell (p := ⟨w.heap.size, 0, none⟩) lb0).trans cb0
      have P3 := Lib.hid (P0.out.below hb3 (by omega))
      have z3 := hb3.size
      clear hb3 cb0
      go_wp2_with fail
      refine (hev.out w3 P3.out (by omega)).mono ?_
      rintro e w4 ⟨rfl, hb4⟩
      have H4 := Lib.hid (below_on H3.out hb4)
      have z4 := hb4.size
      clear hb4 c3
      go_wp2_with fail
      refine (entF fld3 I.good.ok n hn _ _ HR).mono ?_
      rintro e w5 ⟨rfl, hb5⟩
      have H5 := Lib.hid (below_on (H4.out.alloc (Nat.le_trans hz (Nat.le_trans z3 z4)) _) hb5)
      clear hb5
      go_wp2
      go_ret
      exact ⟨rfl, H5.out⟩
    · have hfin : Hid (r = -1) := Lib.hid (by rw [← hr0]; exact if_neg h6)
      clear hr0
      go_enter Try.func96, Try.ntmps96
      go_wp2_with fail
      rw [← HW.out]
      go_wp2_with fail
      refine (isdone_any h L f t W B P0.out (by omega) hL I.good ht false HD).mono ?_
      rintro e w3 ⟨rfl, hb3⟩
      have H3 := Lib.hid (below_on BW.out hb3)
      have c3 : w3.cell? ⟨w.heap.size, 0, none⟩ = some (.slice h.A L.length h.c) := (hb3.cell (p := ⟨w.heap.size, 0, none⟩) lb0).trans cb0
      have P3 := Lib.hid (P0.out.below hb3 (by omega))
      have z3 := hb3.size
      clear hb3 cb0
      go_wp2_with fail
      refine (hev.out w3 P3.out (by omega)).mono ?_
      rintro e w4 ⟨rfl, hb4⟩
      have H4 := Lib.hid (below_on H3.out hb4)
      have z4 := hb4.size
      clear hb4 c3
      go_wp2
      go_ret
      exact ⟨by rw [hfin.out]; rfl, H4.out.alloc (Nat.le_trans hz (Nat.le_trans z3 z4)) _⟩

/-- A list of numbers as an answer. -/
def AnsIl1 (w : World) (o : List Int) (e : Ending) (w' : World) : Prop :=
  ∃ k : IlH, e = .returned (IlV k o) ∧ Below w.heap.size w w' ∧ w.heap.size ≤ w'.heap.size ∧ IlO w' w.heap.size w'.heap.size k o
theorem CopyV.call {w wr w4 : World} {t : TypeId} {vs : List Value} {k : Nat} (h : CopyV w wr t vs k) (hb : Below wr.heap.size wr w4) : CopyV w w4 t vs k := by
  obtain ⟨h0, cs, hbk, h1⟩ := h
  exact ⟨below_on h0 hb, cs, hbk.below hb hbk.lt, h1⟩
theorem iwaits_any (h : PgH) (L : Pg) (k : StaH) (s : Sta) (w : World) (B : Nat) (hP : PgR w B h L) (hS : StaR w B k s) (hB : B ≤ w.heap.size) (SP : PgS L) (LS : StaS s) :
    Calls Try.prog 45 #[PgV h L, StaV k s] w (AnsIl1 w (waitE L s)) := by
  have LP := PgS_L SP
  have LS' := StaS_L LS
  obtain ⟨W, hW⟩ : ∃ W, W = (w.alloc (.cells #[.slice h.A L.length h.c] 30)).alloc (.cells #[.slice k.A0 s.f0.length k.c0, .slice k.A1 s.f1.length k.c1, .slice k.A2 s.f2.length k.c2, .slice k.A3 s.f3.length k.c3, .slice k.A4 s.f4.length k.c4] 56) := ⟨_, rfl⟩
  have bW : Below w.heap.size w W := by rw [hW]; go_grown
  have k0 : Bk W w.heap.size 30 #[.slice h.A L.length h.c] := by rw [hW]; exact (Bk.new w _ _).alloc _
  have k1 : Bk W (w.heap.size + 1) 56 #[.slice k.A0 s.f0.length k.c0, .slice k.A1 s.f1.length k.c1, .slice k.A2 s.f2.length k.c2, .slice k.A3 s.f3.length k.c3, .slice k.A4 s.f4.length k.c4] := by
    rw [hW]; have := Bk.new (w.alloc (.cells #[.slice h.A L.length h.c] 30)) #[.slice k.A0 s.f0.length k.c0, .slice k.A1 s.f1.length k.c1, .slice k.A2 s.f2.length k.c2, .slice k.A3 s.f3.length k.c3, .slice k.A4 s.f4.length k.c4] 56
    rwa [World.size_alloc] at this
  have P0 := Lib.hid (hP.below bW hB)
  have Q0 := Lib.hid (hS.below bW hB)
  have K0 := Lib.hid k0
  have K1 := Lib.hid k1
  have B0 := Lib.hid bW
  have z0 := bW.size
  have HW := Lib.hid hW
  clear hW bW k0 k1 hP hS
  rcases Bool.eq_false_or_eq_true (stB L s) with hst | hst
  rotate_left
  · have eE : waitE L s = [] := by unfold waitE; rw [hst]; rfl
    have HST := Lib.hid hst
    rw [eE]
    clear hst eE
    go_enter Try.func45, Try.ntmps45
    go_wp2_with fail
    rw [← HW.out]
    refine (istok_any h L k s W B P0.out Q0.out (by omega) LP LS' false HST).mono ?_
    rintro e w1 ⟨rfl, hb⟩
    have B1 := Lib.hid (below_on B0.out hb)
    clear hb
    go_wp2
    go_ret
    exact ⟨⟨none, 0⟩, rfl, B1.out, B1.out.size, ⟨OwnVs.nil _ _ _ _ _⟩⟩
  have P := stB_parts hst
  have p31 := P.n1
  have p32 := P.n3
  have hLp := P.prog
  have IV := Lib.hid (inv_wd P)
  have HP := Lib.hid P
  have HST := Lib.hid hst
  have eE : waitE L s = waitsL L (wdF L s) := by unfold waitE; rw [hst]; rfl
  rw [eE]
  obtain ⟨Z, hZ⟩ : ∃ Z, waitsL L (wdF L s) = Z := ⟨_, rfl⟩
  have hZl : Z.length = L.length := by rw [← hZ, waitsL_length]
  have HZ := Lib.hid (show ∀ t, t < L.length → Z[t]? = some (wowF L (wdF L s) t) from fun t ht => by rw [← hZ]; exact waitsL_at ht)
  rw [hZ]
  clear hZ
  clear hst P eE
  go_enter Try.func45, Try.ntmps45
  go_wp2_with fail
  rw [← HW.out]
  refine (istok_any h L k s W B P0.out Q0.out (by omega) LP LS' true HST).mono ?_
  rintro e w1 ⟨rfl, hb⟩
  have B1 := Lib.hid (below_on B0.out hb)
  have K01 := Lib.hid (K0.out.below hb K0.out.lt)
  have K11 := Lib.hid (K1.out.below hb K1.out.lt)
  have P1 := Lib.hid (P0.out.below hb (by omega))
  have Q1 := Lib.hid (Q0.out.below hb (by omega))
  have z1 := hb.size
  have cp : w1.cell? ⟨w.heap.size, 0, none⟩ = some (.slice h.A L.length h.c) := K01.out.cell 0
  have cs0 : w1.cell? ⟨w.heap.size + 1, 0, none⟩ = some (.slice k.A0 s.f0.length k.c0) := K11.out.cell 0
  have cs1 : w1.cell? ⟨w.heap.size + 1, 1, none⟩ = some (.slice k.A1 s.f1.length k.c1) := K11.out.cell 1
  have cs2 : w1.cell? ⟨w.heap.size + 1, 2, none⟩ = some (.slice k.A2 s.f2.length k.c2) := K11.out.cell 2
  have cs3 : w1.cell? ⟨w.heap.size + 1, 3, none⟩ = some (.slice k.A3 s.f3.length k.c3) := K11.out.cell 3
  have cs4 : w1.cell? ⟨w.heap.size + 1, 4, none⟩ = some (.slice k.A4 s.f4.length k.c4) := K11.out.cell 4
  clear hb
  go_wp2_with fail
  refine (packed_any h L k s w1 B P1.out Q1.out (by omega) HP.out).mono ?_
  rintro e w2 ⟨rfl, hb⟩
  have B2 := Lib.hid (below_on B1.out hb)
  have K02 := Lib.hid (K01.out.below hb K01.out.lt)
  have P2 := Lib.hid (P1.out.below hb (by omega))
  have z2 := hb.size
  have l2 := K02.out.lt
  clear hb cp cs0 cs1 cs2 cs3 cs4
  have cp : w2.cell? ⟨w.heap.size, 0, none⟩ = some (.slice h.A L.length h.c) := K02.out.cell 0
  obtain ⟨i0, hi, hz0, hz1, hz2⟩ := info_parts Try.info3
  have hmk := make_any Try.underlying51 hi hz0 L.length (by rw [hz2]; omega) (by omega)
  rw [hz1, Nat.mul_one] at hmk
  have start := Lib.hid (show CopyV w2 (w2.alloc (.cells (madeCells #[.int .i64 0] L.length) 3)) 3 (ints Z) 0 from
      ⟨(Below.refl _ _).alloc (Nat.le_refl _) _, _, Bk.new _ _ _, by simp [size_madeCells, hZl], fun j x hj => absurd hj (by omega)⟩)
  go_wp2
  go_loopw [21] (fun i wr => ∃ j : Nat, j ≤ L.length ∧ i = .int .i64 j ∧ CopyV w2 wr 3 (ints Z) j) (fun i _ => L.length - (intOf i).toNat)
  case atStart => exact ⟨0, Nat.zero_le _, rfl, start.out⟩
  case round =>
    obtain ⟨j, hj, rfl, hcp⟩ := hrel
    clear start hmk cp
    by_cases hlt : j < L.length
    · obtain ⟨hbel, -⟩ := id hcp
      have hz := hbel.size
      have hi1 : (j : Int) < (L.length : Int) := by omega
      have cp : wr.cell? ⟨w.heap.size, 0, none⟩ = some (.slice h.A L.length h.c) := (K02.out.below hbel K02.out.lt).cell 0
      have PR := Lib.hid (P2.out.below hbel (by omega))
      have Hcp := Lib.hid hcp
      clear hbel hcp
      go_wp2_with fail
      refine (ownernext_any h L (wdF L s) j wr B PR.out (by omega) hLp IV.out hlt _ (Lib.hid rfl)).mono ?_
      rintro e w4 ⟨rfl, hb4⟩
      have hc4 := Hcp.out.call hb4
      clear hb4 cp Hcp
      obtain ⟨hbel, cs, hbk, hsz, -⟩ := id hc4
      rw [ints_length, hZl] at hsz
      obtain ⟨v0, e0⟩ := hbk.some_ (i := j) (by omega)
      have q0 := hbk.free j
      have hg := hbk.lt
      have Hc4 := Lib.hid hc4
      clear hbk hsz hc4 hbel
      go_wp2
      go_roundw
      case rel => exact ⟨j + 1, by omega, by go_num, Hc4.out.next (ints_at (HZ.out j hlt))⟩
      case measure => simp [intOf]; omega
    · have hjn : j = L.length := by omega
      subst hjn
      have Hcp := Lib.hid hcp
      clear hcp
      go_wp2
      go_ret
      have hc' : CopyV w2 wr 3 (ints Z) (ints Z).length := by rw [ints_length, hZl]; exact Hcp.out
      have hb2 := below_on B2.out hc'.1
      exact ⟨⟨some ⟨w2.heap.size, 0, none⟩, L.length⟩, by show _ = Ending.returned (.slice _ Z.length L.length); rw [hZl]; rfl, hb2, hb2.size, ⟨hc'.done.keep (Nat.le_trans z0 (Nat.le_trans z1 z2)) hc'.lt fun i _ _ => rfl⟩⟩
end Go.Proofs.Ytakadejpgndhpaa
