/-
  What the reference model's l6Stuck and Stuck come to.
-/
import Derived.Test.YtakadejpgndhpaaStfP
import Derived.Deep.RegionHeld3
namespace Go.Proofs.Ytakadejpgndhpaa
open Go.RowKit Pl
set_option maxHeartbeats 4000000
set_option maxRecDepth 100000
set_option linter.unusedVariables false

theorem sstuck0_any (h : PgH) (L : Pg) (k : StaH) (f : Nat → Nat) (w : World) (B : Nat) (hP : PgR w B h L) (hS : StaR w B k (staF L f)) (hB : B ≤ w.heap.size) (hL : progB L = true) (I : Inv L f) (r : Bool) (hr : Hid (stuckF L f = r)) :
    Calls Try.prog 92 #[PgV h L, StaV k (staF L f)] w fun e w' => e = .returned (.bool r) ∧ Below w.heap.size w w' := by
  obtain ⟨h31, h32⟩ := prog_len hL
  obtain ⟨a0, -⟩ := sta_len L f
  obtain ⟨W, hW⟩ : ∃ W, W = (w.alloc (.cells #[.slice h.A L.length h.c] 30)).alloc (.cells #[.slice k.A0 (staF L f).f0.length k.c0, .slice k.A1 (staF L f).f1.length k.c1, .slice k.A2 (staF L f).f2.length k.c2, .slice k.A3 (staF L f).f3.length k.c3, .slice k.A4 (staF L f).f4.length k.c4] 56) := ⟨_, rfl⟩
  have bW : Below w.heap.size w W := by rw [hW]; go_grown
  have sW : W.heap.size = w.heap.size + 1 + 1 := by rw [hW]; simp
  have k0 : Bk W w.heap.size 30 #[.slice h.A L.length h.c] := by rw [hW]; exact (Bk.new w _ _).alloc _
  have k1 : Bk W (w.heap.size + 1) 56 #[.slice k.A0 (staF L f).f0.length k.c0, .slice k.A1 (staF L f).f1.length k.c1, .slice k.A2 (staF L f).f2.length k.c2, .slice k.A3 (staF L f).f3.length k.c3, .slice k.A4 (staF L f).f4.length k.c4] := by
    rw [hW]; have := Bk.new (w.alloc (.cells #[.slice h.A L.length h.c] 30)) #[.slice k.A0 (staF L f).f0.length k.c0, .slice k.A1 (staF L f).f1.length k.c1, .slice k.A2 (staF L f).f2.length k.c2, .slice k.A3 (staF L f).f3.length k.c3, .slice k.A4 (staF L f).f4.length k.c4] 56
    rwa [World.size_alloc] at this
  have P0 := Lib.hid (hP.below bW hB)
  have Q0 := Lib.hid (hS.below bW hB)
  have K0 := Lib.hid k0
  have K1 := Lib.hid k1
  have B0 := Lib.hid bW
  have z0 := bW.size
  have HW := Lib.hid hW
  have sWa := Nat.le_of_eq sW
  have sWb := Nat.le_of_eq sW.symm
  have A0 := Lib.hid a0
  clear hW bW k0 k1 hP hS sW a0
  go_enter Try.func92, Try.ntmps92
  go_wp2
  rw [← HW.out]
  go_loopw [5, 6] (fun sv iv wr => ∃ t : Nat, t ≤ L.length ∧ iv = .int .i64 t ∧ sv = .bool (openK L f t) ∧ Below W.heap.size W wr ∧ Hid (∀ q, q < t → canF L f q = false)) (fun _ iv _ => L.length - (intOf iv).toNat)
  case atStart => exact ⟨0, Nat.zero_le _, rfl, rfl, Below.refl _ _, Lib.hid (fun q hq => absurd hq (by omega))⟩
  case round =>
    obtain ⟨t, ht, rfl, rfl, hbel, hno⟩ := hrel
    have hz := hbel.size
    have HB := Lib.hid (below_on B0.out hbel)
    have K0r := Lib.hid (K0.out.below hbel K0.out.lt)
    have K1r := Lib.hid (K1.out.below hbel K1.out.lt)
    have cp : wr.cell? ⟨w.heap.size, 0, none⟩ = some (.slice h.A L.length h.c) := K0r.out.cell 0
    by_cases hlt : t < L.length
    · have hi1 : (t : Int) < (L.length : Int) := by omega
      have cs0 : wr.cell? ⟨w.heap.size + 1, 0, none⟩ = some (.slice k.A0 (staF L f).f0.length k.c0) := K1r.out.cell 0
      have cs1 : wr.cell? ⟨w.heap.size + 1, 1, none⟩ = some (.slice k.A1 (staF L f).f1.length k.c1) := K1r.out.cell 1
      have cs2 : wr.cell? ⟨w.heap.size + 1, 2, none⟩ = some (.slice k.A2 (staF L f).f2.length k.c2) := K1r.out.cell 2
      have cs3 : wr.cell? ⟨w.heap.size + 1, 3, none⟩ = some (.slice k.A3 (staF L f).f3.length k.c3) := K1r.out.cell 3
      have cs4 : wr.cell? ⟨w.heap.size + 1, 4, none⟩ = some (.slice k.A4 (staF L f).f4.length k.c4) := K1r.out.cell 4
      have PR := Lib.hid (P0.out.below hbel (by omega))
      have QR := Lib.hid (Q0.out.below hbel (by omega))
      have HBel := Lib.hid hbel
      clear hbel
      go_wp2_with fail
      refine (snext_sta h L k f t wr B PR.out QR.out (by omega) hL I hlt).mono ?_
      rintro e w2 ⟨x, rfl, -, hb2⟩
      have H2 := Lib.hid (below_on HBel.out hb2)
      have K02 := Lib.hid (K0r.out.below hb2 K0r.out.lt)
      have K12 := Lib.hid (K1r.out.below hb2 K1r.out.lt)
      have P2 := Lib.hid (PR.out.below hb2 (by omega))
      have Q2 := Lib.hid (QR.out.below hb2 (by omega))
      have z2 := hb2.size
      clear hb2 cp cs0 cs1 cs2 cs3 cs4
      obtain ⟨g', hg'⟩ : ∃ g', canF L f t = g' := ⟨_, rfl⟩
      rw [hg']
      cases g' with
      | true =>
        have hfin : Hid (r = false) := Lib.hid (by rw [← hr.out, stuckF, endB_not hlt (by rw [go_can hlt]; exact hg'), Bool.and_false])
        clear hg'
        go_wp2
        go_ret
        exact ⟨by rw [hfin.out]; rfl, below_on B0.out (H2.out.alloc (Nat.le_trans hz z2) _)⟩
      | false =>
        have HN := Lib.hid (show ∀ q, q < t + 1 → canF L f q = false from fun q hq => by
          by_cases e : q = t
          · subst e; exact hg'
          · exact hno.out q (by omega))
        clear hg'
        obtain ⟨b, off, xs, Ai, ci, hA, hb, hx, hc, -, hmi, -⟩ := pg_at P2.out hlt
        obtain ⟨b2, off2, y, hA2, hb2, hy, -, hc2⟩ := Q2.out.r0.int_ (k := t) (by rw [A0.out]; exact hlt)
        have hyv : y = (f (3 + t) : Int) := by
          have e : fL 0 = 0 := rfl
          have hy2 : (staF L f).f0[t]? = some ((f (3 + t) : Int) + fL 0) := fldI_at hlt
          rw [hy2] at hy
          injection hy with hy
          rw [← hy, e, Int.add_zero]
        have hle := I.good.at_ t xs hx
        have hop : openK L f (t + 1) = (openK L f t || decide (y < (xs.length : Int))) := by
          rw [openK_next, getD_some hx]
          congr 1
          rw [hyv, Bool.eq_iff_iff]
          simp
          omega
        have HOP := Lib.hid hop
        have hti2 : (t : Int) < ((staF L f).f0.length : Int) := by rw [A0.out]; omega
        have e0 : w2.cell? ⟨w.heap.size, 0, none⟩ = some (.slice (some ⟨b, off, none⟩) L.length h.c) := by rw [← hA]; exact K02.out.cell 0
        have e1 : w2.cell? ⟨w.heap.size + 1, 0, none⟩ = some (.slice (some ⟨b2, off2, none⟩) (staF L f).f0.length k.c0) := by rw [← hA2]; exact K12.out.cell 0
        have l0 := K02.out.lt
        have l1 := K12.out.lt
        have hbw : b < w2.heap.size := by omega
        have hb2w : b2 < w2.heap.size := by omega
        have hm2 : ci ≤ 9223372036854775807 := by unfold maxLen at hmi; omega
        obtain ⟨o', ho'⟩ : ∃ o', openK L f t = o' := ⟨_, rfl⟩
        have HO := Lib.hid ho'
        rw [ho']
        clear hx hy hyv hle hop hA hA2 ho' hno
        by_cases hyx : y < (xs.length : Int)
        · have HD : Hid (openK L f (t + 1) = true) := Lib.hid (by rw [HOP.out, decide_eq_true hyx, Bool.or_true])
          cases o'
          all_goals
            go_wp2_with fail
            go_quiet (fail)
            go_wp2
            go_roundw
            case rel => exact ⟨t + 1, by omega, by go_num, by (rw [HD.out]; try simp [hyx]), below_drewN (H2.out.alloc (Nat.le_trans hz z2) _) _, HN⟩
            case measure => simp [intOf]; omega
        · have HD : Hid (openK L f (t + 1) = o') := Lib.hid (by rw [HOP.out, decide_eq_false hyx, Bool.or_false, HO.out])
          cases o'
          all_goals
            go_wp2_with fail
            go_quiet (fail)
            go_wp2
            go_roundw
            case rel => exact ⟨t + 1, by omega, by go_num, by (rw [HD.out]; try simp [hyx]), below_drewN (H2.out.alloc (Nat.le_trans hz z2) _) _, HN⟩
            case measure => simp [intOf]; omega
    · have htl : t = L.length := by omega
      subst htl
      have he : endB L f = true := endB_at fun q hq => by rw [go_can hq]; exact hno.out q hq
      have hfin : Hid (openK L f L.length = r) := Lib.hid (by rw [← hr.out, stuckF, he, Bool.and_true]; rfl)
      clear he hbel hno
      go_wp2
      go_ret
      exact ⟨by rw [hfin.out]; rfl, HB.out⟩
theorem sstuck_any (h : PgH) (L : Pg) (k : StaH) (s : Sta) (w : World) (B : Nat) (hP : PgR w B h L) (hS : StaR w B k s) (hB : B ≤ w.heap.size) (SP : PgS L) (LS : StaS s) (r : Bool) (hr : Hid (stuckB L s = r)) :
    Calls Try.prog 40 #[PgV h L, StaV k s] w fun e w' => e = .returned (.bool r) ∧ Below w.heap.size w w' := by
  obtain ⟨W, hW⟩ : ∃ W, W = (w.alloc (.cells #[.slice h.A L.length h.c] 30)).alloc (.cells #[.slice k.A0 s.f0.length k.c0, .slice k.A1 s.f1.length k.c1, .slice k.A2 s.f2.length k.c2, .slice k.A3 s.f3.length k.c3, .slice k.A4 s.f4.length k.c4] 56) := ⟨_, rfl⟩
  have bW : Below w.heap.size w W := by rw [hW]; go_grown
  have k0 : Bk W w.heap.size 30 #[.slice h.A L.length h.c] := by rw [hW]; exact (Bk.new w _ _).alloc _
  have k1 : Bk W (w.heap.size + 1) 56 #[.slice k.A0 s.f0.length k.c0, .slice k.A1 s.f1.length k.c1, .slice k.A2 s.f2.length k.c2, .slice k.A3 s.f3.length k.c3, .slice k.A4 s.f4.length k.c4] := by
    rw [hW]; have := Bk.new (w.alloc (.cells #[.slice h.A L.length h.c] 30)) #[.slice k.A0 s.f0.length k.c0, .slice k.A1 s.f1.length k.c1, .slice k.A2 s.f2.length k.c2, .slice k.A3 s.f3.length k.c3, .slice k.A4 s.f4.length k.c4] 56
    rwa [World.size_alloc] at this
  have P0 := Lib.hid (hP.below bW hB)
  have Q0 := Lib.hid (hS.below bW hB)
  have K0 := Lib.hid k0
  have K1 := Lib.hid k1
  have B0 := Lib.hid bW
  have z0 := bW.size
  have HW := Lib.hid hW
  clear hW bW k0 k1 hP hS
  rcases Bool.eq_false_or_eq_true (stB L s) with hst | hst
  rotate_left
  · have hfin : Hid (r = false) := Lib.hid (by rw [← hr.out, stuckB, hst]; rfl)
    have HST := Lib.hid hst
    clear hr hst
    go_enter Try.func40, Try.ntmps40
    go_wp2_with fail
    rw [← HW.out]
    refine (sstok_any h L k s W B P0.out Q0.out (by omega) SP LS false HST).mono ?_
    rintro e w1 ⟨rfl, hb⟩
    have B1 := Lib.hid (below_on B0.out hb)
    clear hb
    go_wp2
    go_ret
    exact ⟨by rw [hfin.out]; rfl, B1.out⟩
  have P := stB_parts hst
  have hLp := P.prog
  have IV := Lib.hid (inv_wd P)
  have HST := Lib.hid hst
  have HR : Hid (stuckF L (wdF L s) = r) := Lib.hid (by rw [← hr.out, stuckB, hst, Bool.true_and])
  have ES := Lib.hid (staF_wd P)
  clear hr hst P
  go_enter Try.func40, Try.ntmps40
  go_wp2_with fail
  rw [← HW.out]
  refine (sstok_any h L k s W B P0.out Q0.out (by omega) SP LS true HST).mono ?_
  rintro e w1 ⟨rfl, hb⟩
  have B1 := Lib.hid (below_on B0.out hb)
  have cp : w1.cell? ⟨w.heap.size, 0, none⟩ = some (.slice h.A L.length h.c) := (K0.out.below hb K0.out.lt).cell 0
  have cs0 : w1.cell? ⟨w.heap.size + 1, 0, none⟩ = some (.slice k.A0 s.f0.length k.c0) := (K1.out.below hb K1.out.lt).cell 0
  have cs1 : w1.cell? ⟨w.heap.size + 1, 1, none⟩ = some (.slice k.A1 s.f1.length k.c1) := (K1.out.below hb K1.out.lt).cell 1
  have cs2 : w1.cell? ⟨w.heap.size + 1, 2, none⟩ = some (.slice k.A2 s.f2.length k.c2) := (K1.out.below hb K1.out.lt).cell 2
  have cs3 : w1.cell? ⟨w.heap.size + 1, 3, none⟩ = some (.slice k.A3 s.f3.length k.c3) := (K1.out.below hb K1.out.lt).cell 3
  have cs4 : w1.cell? ⟨w.heap.size + 1, 4, none⟩ = some (.slice k.A4 s.f4.length k.c4) := (K1.out.below hb K1.out.lt).cell 4
  have P1 := Lib.hid (P0.out.below hb (by omega))
  have Q1 := Lib.hid (Q0.out.below hb (by omega))
  have z1 := hb.size
  have HC := Lib.hid (show Calls Try.prog 92 #[PgV h L, StaV k s] w1 (fun e w' => e = .returned (.bool r) ∧ Below w1.heap.size w1 w') from by
    have := sstuck0_any h L k (wdF L s) w1 B P1.out (by rw [ES.out]; exact Q1.out) (by omega) hLp IV.out r HR
    rwa [ES.out] at this)
  clear hb
  go_wp2_with fail
  refine HC.out.mono ?_
  rintro e w2 ⟨rfl, hb2⟩
  have B2 := Lib.hid (below_on B1.out hb2)
  clear hb2 cp cs0 cs1 cs2 cs3 cs4
  go_wp2
  go_ret
  exact ⟨rfl, B2.out⟩
end Go.Proofs.Ytakadejpgndhpaa
