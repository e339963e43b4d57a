/-
  What the program's Can comes to.
-/
import Derived.Test.YtaghidaamcnpkabNOk
import Derived.Test.YtaghidaamcnpkabPack
import Derived.Deep.QuietTactic
import Derived.BigQuiet
namespace Go.Proofs.Ytaghidaamcnpkab
open Go.RowKit Pl Go.BigFrame
set_option maxHeartbeats 4000000
set_option maxRecDepth 100000
set_option linter.unusedVariables false

theorem iviewok_any (h : PgH) (L : Pg) (k : VwdH) (o : Vwd) (w : World) (B : Nat) (hP : PgR w B h L) (hS : VwdR w B k o) (hB : B ≤ w.heap.size) (SP : PgS L) (LS : VwdS o) (r : Bool) (hr : Hid (vwB L o = r)) :
    Calls Try.prog 52 #[PgV h L, VwdV k o] w fun e w' => e = .returned (.bool r) ∧ Below w.heap.size w w' := by
  have LP := PgS_L SP
  have LL := VwdS_L LS
  obtain ⟨Ls, Ln, Lv, Ll, Lk, Lf⟩ := LL
  have hll := LP.l
  have hl5 := Ls.l2
  unfold maxLen at hll
  obtain ⟨W, hW⟩ : ∃ W, W = (w.alloc (.cells #[.slice h.A L.length h.c] 32)).alloc (.cells #[.slice k.h.A0 o.st.f0.length k.h.c0, .slice k.h.A1 o.st.f1.length k.h.c1, .slice k.h.A2 o.st.f2.length k.h.c2, .slice k.h.A3 o.st.f3.length k.h.c3, .slice k.h.A4 o.st.f4.length k.h.c4, .slice k.n.A o.n.length k.n.c, .slice k.v.A o.v.length k.v.c, .slice k.l.A o.l.length k.l.c, .slice k.k.A o.k.length k.k.c, .slice k.f.A o.f.length k.f.c] 53) := ⟨_, rfl⟩
  have bW : Below w.heap.size w W := by rw [hW]; go_grown
  have k0 : Bk W w.heap.size 32 #[.slice h.A L.length h.c] := by rw [hW]; exact (Bk.new w _ _).alloc _
  have k1 : Bk W (w.heap.size + 1) 53 #[.slice k.h.A0 o.st.f0.length k.h.c0, .slice k.h.A1 o.st.f1.length k.h.c1, .slice k.h.A2 o.st.f2.length k.h.c2, .slice k.h.A3 o.st.f3.length k.h.c3, .slice k.h.A4 o.st.f4.length k.h.c4, .slice k.n.A o.n.length k.n.c, .slice k.v.A o.v.length k.v.c, .slice k.l.A o.l.length k.l.c, .slice k.k.A o.k.length k.k.c, .slice k.f.A o.f.length k.f.c] := by
    rw [hW]; have := Bk.new (w.alloc (.cells #[.slice h.A L.length h.c] 32)) #[.slice k.h.A0 o.st.f0.length k.h.c0, .slice k.h.A1 o.st.f1.length k.h.c1, .slice k.h.A2 o.st.f2.length k.h.c2, .slice k.h.A3 o.st.f3.length k.h.c3, .slice k.h.A4 o.st.f4.length k.h.c4, .slice k.n.A o.n.length k.n.c, .slice k.v.A o.v.length k.v.c, .slice k.l.A o.l.length k.l.c, .slice k.k.A o.k.length k.k.c, .slice k.f.A o.f.length k.f.c] 53
    rwa [World.size_alloc] at this
  have P0 := Lib.hid (hP.below bW hB)
  have Q0 := Lib.hid (hS.below bW hB)
  have K0 := Lib.hid k0
  have J0 := Lib.hid k1
  have B0 := Lib.hid bW
  have z0 := bW.size
  have HW := Lib.hid hW
  clear hW bW k0 k1 hP hS
  rcases Bool.eq_false_or_eq_true (stB L o.st) with h0 | h0
  rotate_left
  · have hfin : Hid (r = false) := Lib.hid (by rw [← hr.out, vwB]; simp only [h0, Bool.false_and])
    have G := Lib.hid h0
    clear hr h0
    go_enter Try.func52, Try.ntmps52
    go_wp2_with fail
    rw [← HW.out]
    refine (istok_any h L k.h o.st W B P0.out Q0.out.s (by omega) LP Ls false G).mono ?_
    rintro e w1 ⟨rfl, hb⟩
    have B1 := Lib.hid (below_on B0.out hb)
    have P1 := Lib.hid (P0.out.below hb (by omega))
    have Q1 := Lib.hid (Q0.out.below hb (by omega))
    have K1 := Lib.hid (K0.out.below hb K0.out.lt)
    have J1 := Lib.hid (J0.out.below hb J0.out.lt)
    have z1 := hb.size
    clear hb
    go_wp2
    go_ret
    exact ⟨by rw [hfin.out]; rfl, B1.out⟩
  have H0 := Lib.hid h0
  rcases Bool.eq_false_or_eq_true (numB o.st.f2 3 0 0) with h1 | h1
  rotate_left
  · have hfin : Hid (r = false) := Lib.hid (by rw [← hr.out, vwB]; simp only [h0, h1, Bool.false_and, Bool.and_false])
    have G := Lib.hid h1
    clear hr h0 h1
    go_enter Try.func52, Try.ntmps52
    go_wp2_with fail
    rw [← HW.out]
    refine (istok_any h L k.h o.st W B P0.out Q0.out.s (by omega) LP Ls true H0).mono ?_
    rintro e w1 ⟨rfl, hb⟩
    have B1 := Lib.hid (below_on B0.out hb)
    have P1 := Lib.hid (P0.out.below hb (by omega))
    have Q1 := Lib.hid (Q0.out.below hb (by omega))
    have K1 := Lib.hid (K0.out.below hb K0.out.lt)
    have J1 := Lib.hid (J0.out.below hb J0.out.lt)
    have z1 := hb.size
    clear hb
    have c2 : w1.cell? ⟨w.heap.size + 1, 2, none⟩ = some (.slice k.h.A2 o.st.f2.length k.h.c2) := J1.out.cell 2
    have lJ := J1.out.lt
    go_wp2_with fail
    clear lJ c2
    refine (numok_any k.h.A2 o.st.f2 k.h.c2 3 0 0 w1 B Q1.out.s.r2 hl5 false G).mono ?_
    rintro e w' ⟨rfl, rfl⟩
    go_wp2
    go_ret
    exact ⟨by rw [hfin.out]; rfl, B1.out⟩
  have H1 := Lib.hid h1
  rcases Bool.eq_false_or_eq_true (notesB o.n) with h2 | h2
  rotate_left
  · have hfin : Hid (r = false) := Lib.hid (by rw [← hr.out, vwB]; simp only [h0, h1, h2, Bool.false_and, Bool.and_false])
    have G := Lib.hid h2
    clear hr h0 h1 h2
    go_enter Try.func52, Try.ntmps52
    go_wp2_with fail
    rw [← HW.out]
    refine (istok_any h L k.h o.st W B P0.out Q0.out.s (by omega) LP Ls true H0).mono ?_
    rintro e w1 ⟨rfl, hb⟩
    have B1 := Lib.hid (below_on B0.out hb)
    have P1 := Lib.hid (P0.out.below hb (by omega))
    have Q1 := Lib.hid (Q0.out.below hb (by omega))
    have K1 := Lib.hid (K0.out.below hb K0.out.lt)
    have J1 := Lib.hid (J0.out.below hb J0.out.lt)
    have z1 := hb.size
    clear hb
    have c2 : w1.cell? ⟨w.heap.size + 1, 2, none⟩ = some (.slice k.h.A2 o.st.f2.length k.h.c2) := J1.out.cell 2
    have lJ := J1.out.lt
    go_wp2_with fail
    clear lJ c2
    refine (numok_any k.h.A2 o.st.f2 k.h.c2 3 0 0 w1 B Q1.out.s.r2 hl5 true H1).mono ?_
    rintro e w' ⟨rfl, rfl⟩
    have c5 : w1.cell? ⟨w.heap.size + 1, 5, none⟩ = some (.slice k.n.A o.n.length k.n.c) := J1.out.cell 5
    have lJ := J1.out.lt
    go_wp2_with fail
    clear lJ c5
    refine (inotes_any k.n o.n w1 B Q1.out.n (by omega) Ln false G).mono ?_
    rintro e w3 ⟨rfl, hb⟩
    have B2 := Lib.hid (below_on B1.out hb)
    have P2 := Lib.hid (P1.out.below hb (by omega))
    have Q2 := Lib.hid (Q1.out.below hb (by omega))
    have K2 := Lib.hid (K1.out.below hb K1.out.lt)
    have J2 := Lib.hid (J1.out.below hb J1.out.lt)
    have z2 := hb.size
    clear hb
    go_wp2
    go_ret
    exact ⟨by rw [hfin.out]; rfl, B2.out⟩
  have H2 := Lib.hid h2
  rcases Bool.eq_false_or_eq_true (viewsB o.n o.v (L.length : Int)) with h3 | h3
  rotate_left
  · have hfin : Hid (r = false) := Lib.hid (by rw [← hr.out, vwB]; simp only [h0, h1, h2, h3, Bool.false_and, Bool.and_false])
    have G := Lib.hid h3
    clear hr h0 h1 h2 h3
    go_enter Try.func52, Try.ntmps52
    go_wp2_with fail
    rw [← HW.out]
    refine (istok_any h L k.h o.st W B P0.out Q0.out.s (by omega) LP Ls true H0).mono ?_
    rintro e w1 ⟨rfl, hb⟩
    have B1 := Lib.hid (below_on B0.out hb)
    have P1 := Lib.hid (P0.out.below hb (by omega))
    have Q1 := Lib.hid (Q0.out.below hb (by omega))
    have K1 := Lib.hid (K0.out.below hb K0.out.lt)
    have J1 := Lib.hid (J0.out.below hb J0.out.lt)
    have z1 := hb.size
    clear hb
    have c2 : w1.cell? ⟨w.heap.size + 1, 2, none⟩ = some (.slice k.h.A2 o.st.f2.length k.h.c2) := J1.out.cell 2
    have lJ := J1.out.lt
    go_wp2_with fail
    clear lJ c2
    refine (numok_any k.h.A2 o.st.f2 k.h.c2 3 0 0 w1 B Q1.out.s.r2 hl5 true H1).mono ?_
    rintro e w' ⟨rfl, rfl⟩
    have c5 : w1.cell? ⟨w.heap.size + 1, 5, none⟩ = some (.slice k.n.A o.n.length k.n.c) := J1.out.cell 5
    have lJ := J1.out.lt
    go_wp2_with fail
    clear lJ c5
    refine (inotes_any k.n o.n w1 B Q1.out.n (by omega) Ln true H2).mono ?_
    rintro e w3 ⟨rfl, hb⟩
    have B2 := Lib.hid (below_on B1.out hb)
    have P2 := Lib.hid (P1.out.below hb (by omega))
    have Q2 := Lib.hid (Q1.out.below hb (by omega))
    have K2 := Lib.hid (K1.out.below hb K1.out.lt)
    have J2 := Lib.hid (J1.out.below hb J1.out.lt)
    have z2 := hb.size
    clear hb
    have c5 : w3.cell? ⟨w.heap.size + 1, 5, none⟩ = some (.slice k.n.A o.n.length k.n.c) := J2.out.cell 5
    have c6 : w3.cell? ⟨w.heap.size + 1, 6, none⟩ = some (.slice k.v.A o.v.length k.v.c) := J2.out.cell 6
    have cP : w3.cell? ⟨w.heap.size, 0, none⟩ = some (.slice h.A L.length h.c) := K2.out.cell 0
    have lJ := J2.out.lt
    go_wp2_with fail
    clear lJ c5 c6 cP
    refine (iviews_any k.n o.n k.v o.v (L.length : Int) w3 B Q2.out.n Q2.out.v Ln Lv false G).mono ?_
    rintro e w' ⟨rfl, rfl⟩
    go_wp2
    go_ret
    exact ⟨by rw [hfin.out]; rfl, B2.out⟩
  have H3 := Lib.hid h3
  rcases Bool.eq_false_or_eq_true (viewsB o.n o.l 2) with h4 | h4
  rotate_left
  · have hfin : Hid (r = false) := Lib.hid (by rw [← hr.out, vwB]; simp only [h0, h1, h2, h3, h4, Bool.false_and, Bool.and_false])
    have G := Lib.hid h4
    clear hr h0 h1 h2 h3 h4
    go_enter Try.func52, Try.ntmps52
    go_wp2_with fail
    rw [← HW.out]
    refine (istok_any h L k.h o.st W B P0.out Q0.out.s (by omega) LP Ls true H0).mono ?_
    rintro e w1 ⟨rfl, hb⟩
    have B1 := Lib.hid (below_on B0.out hb)
    have P1 := Lib.hid (P0.out.below hb (by omega))
    have Q1 := Lib.hid (Q0.out.below hb (by omega))
    have K1 := Lib.hid (K0.out.below hb K0.out.lt)
    have J1 := Lib.hid (J0.out.below hb J0.out.lt)
    have z1 := hb.size
    clear hb
    have c2 : w1.cell? ⟨w.heap.size + 1, 2, none⟩ = some (.slice k.h.A2 o.st.f2.length k.h.c2) := J1.out.cell 2
    have lJ := J1.out.lt
    go_wp2_with fail
    clear lJ c2
    refine (numok_any k.h.A2 o.st.f2 k.h.c2 3 0 0 w1 B Q1.out.s.r2 hl5 true H1).mono ?_
    rintro e w' ⟨rfl, rfl⟩
    have c5 : w1.cell? ⟨w.heap.size + 1, 5, none⟩ = some (.slice k.n.A o.n.length k.n.c) := J1.out.cell 5
    have lJ := J1.out.lt
    go_wp2_with fail
    clear lJ c5
    refine (inotes_any k.n o.n w1 B Q1.out.n (by omega) Ln true H2).mono ?_
    rintro e w3 ⟨rfl, hb⟩
    have B2 := Lib.hid (below_on B1.out hb)
    have P2 := Lib.hid (P1.out.below hb (by omega))
    have Q2 := Lib.hid (Q1.out.below hb (by omega))
    have K2 := Lib.hid (K1.out.below hb K1.out.lt)
    have J2 := Lib.hid (J1.out.below hb J1.out.lt)
    have z2 := hb.size
    clear hb
    have c5 : w3.cell? ⟨w.heap.size + 1, 5, none⟩ = some (.slice k.n.A o.n.length k.n.c) := J2.out.cell 5
    have c6 : w3.cell? ⟨w.heap.size + 1, 6, none⟩ = some (.slice k.v.A o.v.length k.v.c) := J2.out.cell 6
    have cP : w3.cell? ⟨w.heap.size, 0, none⟩ = some (.slice h.A L.length h.c) := K2.out.cell 0
    have lJ := J2.out.lt
    go_wp2_with fail
    clear lJ c5 c6 cP
    refine (iviews_any k.n o.n k.v o.v (L.length : Int) w3 B Q2.out.n Q2.out.v Ln Lv true H3).mono ?_
    rintro e w' ⟨rfl, rfl⟩
    have c5 : w3.cell? ⟨w.heap.size + 1, 5, none⟩ = some (.slice k.n.A o.n.length k.n.c) := J2.out.cell 5
    have c7 : w3.cell? ⟨w.heap.size + 1, 7, none⟩ = some (.slice k.l.A o.l.length k.l.c) := J2.out.cell 7
    have lJ := J2.out.lt
    go_wp2_with fail
    clear lJ c5 c7
    refine (iviews_any k.n o.n k.l o.l 2 w3 B Q2.out.n Q2.out.l Ln Ll false G).mono ?_
    rintro e w' ⟨rfl, rfl⟩
    go_wp2
    go_ret
    exact ⟨by rw [hfin.out]; rfl, B2.out⟩
  have H4 := Lib.hid h4
  rcases Bool.eq_false_or_eq_true (viewsB o.n o.k 2) with h5 | h5
  rotate_left
  · have hfin : Hid (r = false) := Lib.hid (by rw [← hr.out, vwB]; simp only [h0, h1, h2, h3, h4, h5, Bool.false_and, Bool.and_false])
    have G := Lib.hid h5
    clear hr h0 h1 h2 h3 h4 h5
    go_enter Try.func52, Try.ntmps52
    go_wp2_with fail
    rw [← HW.out]
    refine (istok_any h L k.h o.st W B P0.out Q0.out.s (by omega) LP Ls true H0).mono ?_
    rintro e w1 ⟨rfl, hb⟩
    have B1 := Lib.hid (below_on B0.out hb)
    have P1 := Lib.hid (P0.out.below hb (by omega))
    have Q1 := Lib.hid (Q0.out.below hb (by omega))
    have K1 := Lib.hid (K0.out.below hb K0.out.lt)
    have J1 := Lib.hid (J0.out.below hb J0.out.lt)
    have z1 := hb.size
    clear hb
    have c2 : w1.cell? ⟨w.heap.size + 1, 2, none⟩ = some (.slice k.h.A2 o.st.f2.length k.h.c2) := J1.out.cell 2
    have lJ := J1.out.lt
    go_wp2_with fail
    clear lJ c2
    refine (numok_any k.h.A2 o.st.f2 k.h.c2 3 0 0 w1 B Q1.out.s.r2 hl5 true H1).mono ?_
    rintro e w' ⟨rfl, rfl⟩
    have c5 : w1.cell? ⟨w.heap.size + 1, 5, none⟩ = some (.slice k.n.A o.n.length k.n.c) := J1.out.cell 5
    have lJ := J1.out.lt
    go_wp2_with fail
    clear lJ c5
    refine (inotes_any k.n o.n w1 B Q1.out.n (by omega) Ln true H2).mono ?_
    rintro e w3 ⟨rfl, hb⟩
    have B2 := Lib.hid (below_on B1.out hb)
    have P2 := Lib.hid (P1.out.below hb (by omega))
    have Q2 := Lib.hid (Q1.out.below hb (by omega))
    have K2 := Lib.hid (K1.out.below hb K1.out.lt)
    have J2 := Lib.hid (J1.out.below hb J1.out.lt)
    have z2 := hb.size
    clear hb
    have c5 : w3.cell? ⟨w.heap.size + 1, 5, none⟩ = some (.slice k.n.A o.n.length k.n.c) := J2.out.cell 5
    have c6 : w3.cell? ⟨w.heap.size + 1, 6, none⟩ = some (.slice k.v.A o.v.length k.v.c) := J2.out.cell 6
    have cP : w3.cell? ⟨w.heap.size, 0, none⟩ = some (.slice h.A L.length h.c) := K2.out.cell 0
    have lJ := J2.out.lt
    go_wp2_with fail
    clear lJ c5 c6 cP
    refine (iviews_any k.n o.n k.v o.v (L.length : Int) w3 B Q2.out.n Q2.out.v Ln Lv true H3).mono ?_
    rintro e w' ⟨rfl, rfl⟩
    have c5 : w3.cell? ⟨w.heap.size + 1, 5, none⟩ = some (.slice k.n.A o.n.length k.n.c) := J2.out.cell 5
    have c7 : w3.cell? ⟨w.heap.size + 1, 7, none⟩ = some (.slice k.l.A o.l.length k.l.c) := J2.out.cell 7
    have lJ := J2.out.lt
    go_wp2_with fail
    clear lJ c5 c7
    refine (iviews_any k.n o.n k.l o.l 2 w3 B Q2.out.n Q2.out.l Ln Ll true H4).mono ?_
    rintro e w' ⟨rfl, rfl⟩
    have c5 : w3.cell? ⟨w.heap.size + 1, 5, none⟩ = some (.slice k.n.A o.n.length k.n.c) := J2.out.cell 5
    have c8 : w3.cell? ⟨w.heap.size + 1, 8, none⟩ = some (.slice k.k.A o.k.length k.k.c) := J2.out.cell 8
    have lJ := J2.out.lt
    go_wp2_with fail
    clear lJ c5 c8
    refine (iviews_any k.n o.n k.k o.k 2 w3 B Q2.out.n Q2.out.k Ln Lk false G).mono ?_
    rintro e w' ⟨rfl, rfl⟩
    go_wp2
    go_ret
    exact ⟨by rw [hfin.out]; rfl, B2.out⟩
  have H5 := Lib.hid h5
  obtain ⟨rl, hrl⟩ : ∃ q, viewB o.n o.f = q := ⟨_, rfl⟩
  have hfin : Hid (r = rl) := Lib.hid (by rw [← hr.out, vwB]; simp only [h0, h1, h2, h3, h4, h5, hrl, Bool.true_and])
  have G := Lib.hid hrl
  clear hr hrl h0 h1 h2 h3 h4 h5
  go_enter Try.func52, Try.ntmps52
  go_wp2_with fail
  rw [← HW.out]
  refine (istok_any h L k.h o.st W B P0.out Q0.out.s (by omega) LP Ls true H0).mono ?_
  rintro e w1 ⟨rfl, hb⟩
  have B1 := Lib.hid (below_on B0.out hb)
  have P1 := Lib.hid (P0.out.below hb (by omega))
  have Q1 := Lib.hid (Q0.out.below hb (by omega))
  have K1 := Lib.hid (K0.out.below hb K0.out.lt)
  have J1 := Lib.hid (J0.out.below hb J0.out.lt)
  have z1 := hb.size
  clear hb
  have c2 : w1.cell? ⟨w.heap.size + 1, 2, none⟩ = some (.slice k.h.A2 o.st.f2.length k.h.c2) := J1.out.cell 2
  have lJ := J1.out.lt
  go_wp2_with fail
  clear lJ c2
  refine (numok_any k.h.A2 o.st.f2 k.h.c2 3 0 0 w1 B Q1.out.s.r2 hl5 true H1).mono ?_
  rintro e w' ⟨rfl, rfl⟩
  have c5 : w1.cell? ⟨w.heap.size + 1, 5, none⟩ = some (.slice k.n.A o.n.length k.n.c) := J1.out.cell 5
  have lJ := J1.out.lt
  go_wp2_with fail
  clear lJ c5
  refine (inotes_any k.n o.n w1 B Q1.out.n (by omega) Ln true H2).mono ?_
  rintro e w3 ⟨rfl, hb⟩
  have B2 := Lib.hid (below_on B1.out hb)
  have P2 := Lib.hid (P1.out.below hb (by omega))
  have Q2 := Lib.hid (Q1.out.below hb (by omega))
  have K2 := Lib.hid (K1.out.below hb K1.out.lt)
  have J2 := Lib.hid (J1.out.below hb J1.out.lt)
  have z2 := hb.size
  clear hb
  have c5 : w3.cell? ⟨w.heap.size + 1, 5, none⟩ = some (.slice k.n.A o.n.length k.n.c) := J2.out.cell 5
  have c6 : w3.cell? ⟨w.heap.size + 1, 6, none⟩ = some (.slice k.v.A o.v.length k.v.c) := J2.out.cell 6
  have cP : w3.cell? ⟨w.heap.size, 0, none⟩ = some (.slice h.A L.length h.c) := K2.out.cell 0
  have lJ := J2.out.lt
  go_wp2_with fail
  clear lJ c5 c6 cP
  refine (iviews_any k.n o.n k.v o.v (L.length : Int) w3 B Q2.out.n Q2.out.v Ln Lv true H3).mono ?_
  rintro e w' ⟨rfl, rfl⟩
  have c5 : w3.cell? ⟨w.heap.size + 1, 5, none⟩ = some (.slice k.n.A o.n.length k.n.c) := J2.out.cell 5
  have c7 : w3.cell? ⟨w.heap.size + 1, 7, none⟩ = some (.slice k.l.A o.l.length k.l.c) := J2.out.cell 7
  have lJ := J2.out.lt
  go_wp2_with fail
  clear lJ c5 c7
  refine (iviews_any k.n o.n k.l o.l 2 w3 B Q2.out.n Q2.out.l Ln Ll true H4).mono ?_
  rintro e w' ⟨rfl, rfl⟩
  have c5 : w3.cell? ⟨w.heap.size + 1, 5, none⟩ = some (.slice k.n.A o.n.length k.n.c) := J2.out.cell 5
  have c8 : w3.cell? ⟨w.heap.size + 1, 8, none⟩ = some (.slice k.k.A o.k.length k.k.c) := J2.out.cell 8
  have lJ := J2.out.lt
  go_wp2_with fail
  clear lJ c5 c8
  refine (iviews_any k.n o.n k.k o.k 2 w3 B Q2.out.n Q2.out.k Ln Lk true H5).mono ?_
  rintro e w' ⟨rfl, rfl⟩
  have c5 : w3.cell? ⟨w.heap.size + 1, 5, none⟩ = some (.slice k.n.A o.n.length k.n.c) := J2.out.cell 5
  have c9 : w3.cell? ⟨w.heap.size + 1, 9, none⟩ = some (.slice k.f.A o.f.length k.f.c) := J2.out.cell 9
  have lJ := J2.out.lt
  go_wp2_with fail
  clear lJ c5 c9
  refine (iview_any k.n o.n k.f.A o.f k.f.c w3 B Q2.out.n Q2.out.f Ln Lf rl G).mono ?_
  rintro e w' ⟨rfl, rfl⟩
  go_wp2
  go_ret
  exact ⟨by rw [hfin.out]; rfl, B2.out⟩
end Go.Proofs.Ytaghidaamcnpkab
namespace Go.Proofs.Ytaghidaamcnpkab
open Go.RowKit Pl Go.BigFrame
set_option maxHeartbeats 4000000
set_option maxRecDepth 100000
set_option linter.unusedVariables false

/-- Whether a thread of a state can do its next statement. -/
def canB (L : Pg) (s : Sta) (th : Int) : Bool := stB L s && (inB th 0 ((L.length : Int) - 1) && canF L (pkF s) th.toNat)
end Go.Proofs.Ytaghidaamcnpkab
