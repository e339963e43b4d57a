/-
  The record Viewed: whether two are equal, what the laws' marks write into one, and whether they are held.
-/
import Derived.Test.YtaghidaamcnpkabVwd
namespace Go.Proofs.Ytaghidaamcnpkab
open Go.RowKit Pl
set_option maxHeartbeats 4000000
set_option maxRecDepth 100000
set_option linter.unusedVariables false

theorem eqVwd_any (h1 h2 : VwdH) (o1 o2 : Vwd) (w : World) (B : Nat) (r1 : VwdR w B h1 o1) (r2 : VwdR w B h2 o2) (hB : B ≤ w.heap.size) (L1 : VwdL o1 maxLen) (L2 : VwdL o2 maxLen) (r : Bool) (hr : Hid (decide (o1 = o2) = r)) :
    Calls Try.prog 22 #[VwdV h1 o1, VwdV h2 o2] w fun e w' => e = .returned (.bool r) ∧ Below w.heap.size w w' := by
  obtain ⟨l0, l1, l2, l3, l4, l5⟩ := L1
  obtain ⟨m0, m1, m2, m3, m4, m5⟩ := L2
  obtain ⟨W, hW⟩ : ∃ W, W = (w.alloc (.cells #[.slice h1.h.A0 o1.st.f0.length h1.h.c0, .slice h1.h.A1 o1.st.f1.length h1.h.c1, .slice h1.h.A2 o1.st.f2.length h1.h.c2, .slice h1.h.A3 o1.st.f3.length h1.h.c3, .slice h1.h.A4 o1.st.f4.length h1.h.c4, .slice h1.n.A o1.n.length h1.n.c, .slice h1.v.A o1.v.length h1.v.c, .slice h1.l.A o1.l.length h1.l.c, .slice h1.k.A o1.k.length h1.k.c, .slice h1.f.A o1.f.length h1.f.c] 53)).alloc (.cells #[.slice h2.h.A0 o2.st.f0.length h2.h.c0, .slice h2.h.A1 o2.st.f1.length h2.h.c1, .slice h2.h.A2 o2.st.f2.length h2.h.c2, .slice h2.h.A3 o2.st.f3.length h2.h.c3, .slice h2.h.A4 o2.st.f4.length h2.h.c4, .slice h2.n.A o2.n.length h2.n.c, .slice h2.v.A o2.v.length h2.v.c, .slice h2.l.A o2.l.length h2.l.c, .slice h2.k.A o2.k.length h2.k.c, .slice h2.f.A o2.f.length h2.f.c] 53) := ⟨_, rfl⟩
  have bW : Below w.heap.size w W := by rw [hW]; go_grown
  have k0 : Bk W w.heap.size 53 #[.slice h1.h.A0 o1.st.f0.length h1.h.c0, .slice h1.h.A1 o1.st.f1.length h1.h.c1, .slice h1.h.A2 o1.st.f2.length h1.h.c2, .slice h1.h.A3 o1.st.f3.length h1.h.c3, .slice h1.h.A4 o1.st.f4.length h1.h.c4, .slice h1.n.A o1.n.length h1.n.c, .slice h1.v.A o1.v.length h1.v.c, .slice h1.l.A o1.l.length h1.l.c, .slice h1.k.A o1.k.length h1.k.c, .slice h1.f.A o1.f.length h1.f.c] := by rw [hW]; exact (Bk.new w _ _).alloc _
  have k1 : Bk W (w.heap.size + 1) 53 #[.slice h2.h.A0 o2.st.f0.length h2.h.c0, .slice h2.h.A1 o2.st.f1.length h2.h.c1, .slice h2.h.A2 o2.st.f2.length h2.h.c2, .slice h2.h.A3 o2.st.f3.length h2.h.c3, .slice h2.h.A4 o2.st.f4.length h2.h.c4, .slice h2.n.A o2.n.length h2.n.c, .slice h2.v.A o2.v.length h2.v.c, .slice h2.l.A o2.l.length h2.l.c, .slice h2.k.A o2.k.length h2.k.c, .slice h2.f.A o2.f.length h2.f.c] := by
    rw [hW]; have := Bk.new (w.alloc (.cells #[.slice h1.h.A0 o1.st.f0.length h1.h.c0, .slice h1.h.A1 o1.st.f1.length h1.h.c1, .slice h1.h.A2 o1.st.f2.length h1.h.c2, .slice h1.h.A3 o1.st.f3.length h1.h.c3, .slice h1.h.A4 o1.st.f4.length h1.h.c4, .slice h1.n.A o1.n.length h1.n.c, .slice h1.v.A o1.v.length h1.v.c, .slice h1.l.A o1.l.length h1.l.c, .slice h1.k.A o1.k.length h1.k.c, .slice h1.f.A o1.f.length h1.f.c] 53)) #[.slice h2.h.A0 o2.st.f0.length h2.h.c0, .slice h2.h.A1 o2.st.f1.length h2.h.c1, .slice h2.h.A2 o2.st.f2.length h2.h.c2, .slice h2.h.A3 o2.st.f3.length h2.h.c3, .slice h2.h.A4 o2.st.f4.length h2.h.c4, .slice h2.n.A o2.n.length h2.n.c, .slice h2.v.A o2.v.length h2.v.c, .slice h2.l.A o2.l.length h2.l.c, .slice h2.k.A o2.k.length h2.k.c, .slice h2.f.A o2.f.length h2.f.c] 53
    rwa [World.size_alloc] at this
  have P0 := Lib.hid (r1.below bW hB)
  have Q0 := Lib.hid (r2.below bW hB)
  have K0 := Lib.hid k0
  have J0 := Lib.hid k1
  have B0 := Lib.hid bW
  have z0 := bW.size
  have HW := Lib.hid hW
  clear hW bW k0 k1 r1 r2
  by_cases q0 : o1.st = o2.st
  rotate_left
  · have Y0 := Lib.hid q0
    have hfin : Hid (r = false) := Lib.hid (by rw [← hr.out]; exact decide_eq_false (fun e => Y0.out (by rw [e])))
    clear hr q0
    go_enter Try.func22, Try.ntmps22
    go_wp2_with fail
    rw [← HW.out]
    refine (eqSta_any h1.h h2.h o1.st o2.st W B P0.out.s Q0.out.s (by omega) l0 m0 false (Lib.hid (by simpa using Y0.out))).mono ?_
    rintro e u1 ⟨rfl, hb⟩
    have B1 := Lib.hid (below_on B0.out hb)
    clear hb
    go_wp2
    go_ret
    exact ⟨by rw [hfin.out]; rfl, B1.out⟩
  have Y0 := Lib.hid q0
  clear q0
  by_cases q1 : o1.n = o2.n
  rotate_left
  · have Y1 := Lib.hid q1
    have hfin : Hid (r = false) := Lib.hid (by rw [← hr.out]; exact decide_eq_false (fun e => Y1.out (by rw [e])))
    clear hr q1
    go_enter Try.func22, Try.ntmps22
    go_wp2_with fail
    rw [← HW.out]
    refine (eqSta_any h1.h h2.h o1.st o2.st W B P0.out.s Q0.out.s (by omega) l0 m0 true (Lib.hid (by simpa using Y0.out))).mono ?_
    rintro e u1 ⟨rfl, hb⟩
    have B1 := Lib.hid (below_on B0.out hb)
    have P1 := Lib.hid (P0.out.below hb (by omega))
    have Q1 := Lib.hid (Q0.out.below hb (by omega))
    have K1 := Lib.hid (K0.out.below hb K0.out.lt)
    have J1 := Lib.hid (J0.out.below hb J0.out.lt)
    have z1 := hb.size
    clear hb
    have ca : u1.cell? ⟨w.heap.size, 5, none⟩ = some (.slice h1.n.A o1.n.length h1.n.c) := K1.out.cell 5
    have cb : u1.cell? ⟨w.heap.size + 1, 5, none⟩ = some (.slice h2.n.A o2.n.length h2.n.c) := J1.out.cell 5
    go_wp2_with fail
    refine (eqNss_any h1.n h2.n o1.n o2.n u1 B P1.out.n Q1.out.n (by omega) l1 m1 false (Lib.hid (by simpa using Y1.out))).mono ?_
    rintro e u2 ⟨rfl, hb⟩
    have B2 := Lib.hid (below_on B1.out hb)
    clear hb ca cb
    go_wp2
    go_ret
    exact ⟨by rw [hfin.out]; rfl, B2.out⟩
  have Y1 := Lib.hid q1
  clear q1
  by_cases q2 : o1.v = o2.v
  rotate_left
  · have Y2 := Lib.hid q2
    have hfin : Hid (r = false) := Lib.hid (by rw [← hr.out]; exact decide_eq_false (fun e => Y2.out (by rw [e])))
    clear hr q2
    go_enter Try.func22, Try.ntmps22
    go_wp2_with fail
    rw [← HW.out]
    refine (eqSta_any h1.h h2.h o1.st o2.st W B P0.out.s Q0.out.s (by omega) l0 m0 true (Lib.hid (by simpa using Y0.out))).mono ?_
    rintro e u1 ⟨rfl, hb⟩
    have B1 := Lib.hid (below_on B0.out hb)
    have P1 := Lib.hid (P0.out.below hb (by omega))
    have Q1 := Lib.hid (Q0.out.below hb (by omega))
    have K1 := Lib.hid (K0.out.below hb K0.out.lt)
    have J1 := Lib.hid (J0.out.below hb J0.out.lt)
    have z1 := hb.size
    clear hb
    have ca : u1.cell? ⟨w.heap.size, 5, none⟩ = some (.slice h1.n.A o1.n.length h1.n.c) := K1.out.cell 5
    have cb : u1.cell? ⟨w.heap.size + 1, 5, none⟩ = some (.slice h2.n.A o2.n.length h2.n.c) := J1.out.cell 5
    go_wp2_with fail
    refine (eqNss_any h1.n h2.n o1.n o2.n u1 B P1.out.n Q1.out.n (by omega) l1 m1 true (Lib.hid (by simpa using Y1.out))).mono ?_
    rintro e u2 ⟨rfl, hb⟩
    have B2 := Lib.hid (below_on B1.out hb)
    have P2 := Lib.hid (P1.out.below hb (by omega))
    have Q2 := Lib.hid (Q1.out.below hb (by omega))
    have K2 := Lib.hid (K1.out.below hb K1.out.lt)
    have J2 := Lib.hid (J1.out.below hb J1.out.lt)
    have z2 := hb.size
    clear hb ca cb
    have ca : u2.cell? ⟨w.heap.size, 6, none⟩ = some (.slice h1.v.A o1.v.length h1.v.c) := K2.out.cell 6
    have cb : u2.cell? ⟨w.heap.size + 1, 6, none⟩ = some (.slice h2.v.A o2.v.length h2.v.c) := J2.out.cell 6
    go_wp2_with fail
    refine (eqIss_m h1.v h2.v o1.v o2.v u2 B P2.out.v Q2.out.v (by omega) l2 m2 false (Lib.hid (by simpa using Y2.out))).mono ?_
    rintro e u3 ⟨rfl, hb⟩
    have B3 := Lib.hid (below_on B2.out hb)
    clear hb ca cb
    go_wp2
    go_ret
    exact ⟨by rw [hfin.out]; rfl, B3.out⟩
  have Y2 := Lib.hid q2
  clear q2
  by_cases q3 : o1.l = o2.l
  rotate_left
  · have Y3 := Lib.hid q3
    have hfin : Hid (r = false) := Lib.hid (by rw [← hr.out]; exact decide_eq_false (fun e => Y3.out (by rw [e])))
    clear hr q3
    go_enter Try.func22, Try.ntmps22
    go_wp2_with fail
    rw [← HW.out]
    refine (eqSta_any h1.h h2.h o1.st o2.st W B P0.out.s Q0.out.s (by omega) l0 m0 true (Lib.hid (by simpa using Y0.out))).mono ?_
    rintro e u1 ⟨rfl, hb⟩
    have B1 := Lib.hid (below_on B0.out hb)
    have P1 := Lib.hid (P0.out.below hb (by omega))
    have Q1 := Lib.hid (Q0.out.below hb (by omega))
    have K1 := Lib.hid (K0.out.below hb K0.out.lt)
    have J1 := Lib.hid (J0.out.below hb J0.out.lt)
    have z1 := hb.size
    clear hb
    have ca : u1.cell? ⟨w.heap.size, 5, none⟩ = some (.slice h1.n.A o1.n.length h1.n.c) := K1.out.cell 5
    have cb : u1.cell? ⟨w.heap.size + 1, 5, none⟩ = some (.slice h2.n.A o2.n.length h2.n.c) := J1.out.cell 5
    go_wp2_with fail
    refine (eqNss_any h1.n h2.n o1.n o2.n u1 B P1.out.n Q1.out.n (by omega) l1 m1 true (Lib.hid (by simpa using Y1.out))).mono ?_
    rintro e u2 ⟨rfl, hb⟩
    have B2 := Lib.hid (below_on B1.out hb)
    have P2 := Lib.hid (P1.out.below hb (by omega))
    have Q2 := Lib.hid (Q1.out.below hb (by omega))
    have K2 := Lib.hid (K1.out.below hb K1.out.lt)
    have J2 := Lib.hid (J1.out.below hb J1.out.lt)
    have z2 := hb.size
    clear hb ca cb
    have ca : u2.cell? ⟨w.heap.size, 6, none⟩ = some (.slice h1.v.A o1.v.length h1.v.c) := K2.out.cell 6
    have cb : u2.cell? ⟨w.heap.size + 1, 6, none⟩ = some (.slice h2.v.A o2.v.length h2.v.c) := J2.out.cell 6
    go_wp2_with fail
    refine (eqIss_m h1.v h2.v o1.v o2.v u2 B P2.out.v Q2.out.v (by omega) l2 m2 true (Lib.hid (by simpa using Y2.out))).mono ?_
    rintro e u3 ⟨rfl, hb⟩
    have B3 := Lib.hid (below_on B2.out hb)
    have P3 := Lib.hid (P2.out.below hb (by omega))
    have Q3 := Lib.hid (Q2.out.below hb (by omega))
    have K3 := Lib.hid (K2.out.below hb K2.out.lt)
    have J3 := Lib.hid (J2.out.below hb J2.out.lt)
    have z3 := hb.size
    clear hb ca cb
    have ca : u3.cell? ⟨w.heap.size, 7, none⟩ = some (.slice h1.l.A o1.l.length h1.l.c) := K3.out.cell 7
    have cb : u3.cell? ⟨w.heap.size + 1, 7, none⟩ = some (.slice h2.l.A o2.l.length h2.l.c) := J3.out.cell 7
    go_wp2_with fail
    refine (eqIss_m h1.l h2.l o1.l o2.l u3 B P3.out.l Q3.out.l (by omega) l3 m3 false (Lib.hid (by simpa using Y3.out))).mono ?_
    rintro e u4 ⟨rfl, hb⟩
    have B4 := Lib.hid (below_on B3.out hb)
    clear hb ca cb
    go_wp2
    go_ret
    exact ⟨by rw [hfin.out]; rfl, B4.out⟩
  have Y3 := Lib.hid q3
  clear q3
  by_cases q4 : o1.k = o2.k
  rotate_left
  · have Y4 := Lib.hid q4
    have hfin : Hid (r = false) := Lib.hid (by rw [← hr.out]; exact decide_eq_false (fun e => Y4.out (by rw [e])))
    clear hr q4
    go_enter Try.func22, Try.ntmps22
    go_wp2_with fail
    rw [← HW.out]
    refine (eqSta_any h1.h h2.h o1.st o2.st W B P0.out.s Q0.out.s (by omega) l0 m0 true (Lib.hid (by simpa using Y0.out))).mono ?_
    rintro e u1 ⟨rfl, hb⟩
    have B1 := Lib.hid (below_on B0.out hb)
    have P1 := Lib.hid (P0.out.below hb (by omega))
    have Q1 := Lib.hid (Q0.out.below hb (by omega))
    have K1 := Lib.hid (K0.out.below hb K0.out.lt)
    have J1 := Lib.hid (J0.out.below hb J0.out.lt)
    have z1 := hb.size
    clear hb
    have ca : u1.cell? ⟨w.heap.size, 5, none⟩ = some (.slice h1.n.A o1.n.length h1.n.c) := K1.out.cell 5
    have cb : u1.cell? ⟨w.heap.size + 1, 5, none⟩ = some (.slice h2.n.A o2.n.length h2.n.c) := J1.out.cell 5
    go_wp2_with fail
    refine (eqNss_any h1.n h2.n o1.n o2.n u1 B P1.out.n Q1.out.n (by omega) l1 m1 true (Lib.hid (by simpa using Y1.out))).mono ?_
    rintro e u2 ⟨rfl, hb⟩
    have B2 := Lib.hid (below_on B1.out hb)
    have P2 := Lib.hid (P1.out.below hb (by omega))
    have Q2 := Lib.hid (Q1.out.below hb (by omega))
    have K2 := Lib.hid (K1.out.below hb K1.out.lt)
    have J2 := Lib.hid (J1.out.below hb J1.out.lt)
    have z2 := hb.size
    clear hb ca cb
    have ca : u2.cell? ⟨w.heap.size, 6, none⟩ = some (.slice h1.v.A o1.v.length h1.v.c) := K2.out.cell 6
    have cb : u2.cell? ⟨w.heap.size + 1, 6, none⟩ = some (.slice h2.v.A o2.v.length h2.v.c) := J2.out.cell 6
    go_wp2_with fail
    refine (eqIss_m h1.v h2.v o1.v o2.v u2 B P2.out.v Q2.out.v (by omega) l2 m2 true (Lib.hid (by simpa using Y2.out))).mono ?_
    rintro e u3 ⟨rfl, hb⟩
    have B3 := Lib.hid (below_on B2.out hb)
    have P3 := Lib.hid (P2.out.below hb (by omega))
    have Q3 := Lib.hid (Q2.out.below hb (by omega))
    have K3 := Lib.hid (K2.out.below hb K2.out.lt)
    have J3 := Lib.hid (J2.out.below hb J2.out.lt)
    have z3 := hb.size
    clear hb ca cb
    have ca : u3.cell? ⟨w.heap.size, 7, none⟩ = some (.slice h1.l.A o1.l.length h1.l.c) := K3.out.cell 7
    have cb : u3.cell? ⟨w.heap.size + 1, 7, none⟩ = some (.slice h2.l.A o2.l.length h2.l.c) := J3.out.cell 7
    go_wp2_with fail
    refine (eqIss_m h1.l h2.l o1.l o2.l u3 B P3.out.l Q3.out.l (by omega) l3 m3 true (Lib.hid (by simpa using Y3.out))).mono ?_
    rintro e u4 ⟨rfl, hb⟩
    have B4 := Lib.hid (below_on B3.out hb)
    have P4 := Lib.hid (P3.out.below hb (by omega))
    have Q4 := Lib.hid (Q3.out.below hb (by omega))
    have K4 := Lib.hid (K3.out.below hb K3.out.lt)
    have J4 := Lib.hid (J3.out.below hb J3.out.lt)
    have z4 := hb.size
    clear hb ca cb
    have ca : u4.cell? ⟨w.heap.size, 8, none⟩ = some (.slice h1.k.A o1.k.length h1.k.c) := K4.out.cell 8
    have cb : u4.cell? ⟨w.heap.size + 1, 8, none⟩ = some (.slice h2.k.A o2.k.length h2.k.c) := J4.out.cell 8
    go_wp2_with fail
    refine (eqIss_m h1.k h2.k o1.k o2.k u4 B P4.out.k Q4.out.k (by omega) l4 m4 false (Lib.hid (by simpa using Y4.out))).mono ?_
    rintro e u5 ⟨rfl, hb⟩
    have B5 := Lib.hid (below_on B4.out hb)
    clear hb ca cb
    go_wp2
    go_ret
    exact ⟨by rw [hfin.out]; rfl, B5.out⟩
  have Y4 := Lib.hid q4
  clear q4
  obtain ⟨rl, hrl⟩ : ∃ r1, decide (o1.f = o2.f) = r1 := ⟨_, rfl⟩
  have Rl := Lib.hid hrl
  have hfin : Hid (r = rl) := Lib.hid (by
    rw [← hr.out, ← hrl]
    have e0 := Y0.out
    have e1 := Y1.out
    have e2 := Y2.out
    have e3 := Y3.out
    have e4 := Y4.out
    cases o1; cases o2
    simp only at e0 e1 e2 e3 e4
    subst e0 e1 e2 e3 e4
    simp)
  clear hr hrl
  rcases Bool.eq_false_or_eq_true rl with h | h
  all_goals
    subst h
    go_enter Try.func22, Try.ntmps22
    go_wp2_with fail
    rw [← HW.out]
    refine (eqSta_any h1.h h2.h o1.st o2.st W B P0.out.s Q0.out.s (by omega) l0 m0 true (Lib.hid (by simpa using Y0.out))).mono ?_
    rintro e u1 ⟨rfl, hb⟩
    have B1 := Lib.hid (below_on B0.out hb)
    have P1 := Lib.hid (P0.out.below hb (by omega))
    have Q1 := Lib.hid (Q0.out.below hb (by omega))
    have K1 := Lib.hid (K0.out.below hb K0.out.lt)
    have J1 := Lib.hid (J0.out.below hb J0.out.lt)
    have z1 := hb.size
    clear hb
    have ca : u1.cell? ⟨w.heap.size, 5, none⟩ = some (.slice h1.n.A o1.n.length h1.n.c) := K1.out.cell 5
    have cb : u1.cell? ⟨w.heap.size + 1, 5, none⟩ = some (.slice h2.n.A o2.n.length h2.n.c) := J1.out.cell 5
    go_wp2_with fail
    refine (eqNss_any h1.n h2.n o1.n o2.n u1 B P1.out.n Q1.out.n (by omega) l1 m1 true (Lib.hid (by simpa using Y1.out))).mono ?_
    rintro e u2 ⟨rfl, hb⟩
    have B2 := Lib.hid (below_on B1.out hb)
    have P2 := Lib.hid (P1.out.below hb (by omega))
    have Q2 := Lib.hid (Q1.out.below hb (by omega))
    have K2 := Lib.hid (K1.out.below hb K1.out.lt)
    have J2 := Lib.hid (J1.out.below hb J1.out.lt)
    have z2 := hb.size
    clear hb ca cb
    have ca : u2.cell? ⟨w.heap.size, 6, none⟩ = some (.slice h1.v.A o1.v.length h1.v.c) := K2.out.cell 6
    have cb : u2.cell? ⟨w.heap.size + 1, 6, none⟩ = some (.slice h2.v.A o2.v.length h2.v.c) := J2.out.cell 6
    go_wp2_with fail
    refine (eqIss_m h1.v h2.v o1.v o2.v u2 B P2.out.v Q2.out.v (by omega) l2 m2 true (Lib.hid (by simpa using Y2.out))).mono ?_
    rintro e u3 ⟨rfl, hb⟩
    have B3 := Lib.hid (below_on B2.out hb)
    have P3 := Lib.hid (P2.out.below hb (by omega))
    have Q3 := Lib.hid (Q2.out.below hb (by omega))
    have K3 := Lib.hid (K2.out.below hb K2.out.lt)
    have J3 := Lib.hid (J2.out.below hb J2.out.lt)
    have z3 := hb.size
    clear hb ca cb
    have ca : u3.cell? ⟨w.heap.size, 7, none⟩ = some (.slice h1.l.A o1.l.length h1.l.c) := K3.out.cell 7
    have cb : u3.cell? ⟨w.heap.size + 1, 7, none⟩ = some (.slice h2.l.A o2.l.length h2.l.c) := J3.out.cell 7
    go_wp2_with fail
    refine (eqIss_m h1.l h2.l o1.l o2.l u3 B P3.out.l Q3.out.l (by omega) l3 m3 true (Lib.hid (by simpa using Y3.out))).mono ?_
    rintro e u4 ⟨rfl, hb⟩
    have B4 := Lib.hid (below_on B3.out hb)
    have P4 := Lib.hid (P3.out.below hb (by omega))
    have Q4 := Lib.hid (Q3.out.below hb (by omega))
    have K4 := Lib.hid (K3.out.below hb K3.out.lt)
    have J4 := Lib.hid (J3.out.below hb J3.out.lt)
    have z4 := hb.size
    clear hb ca cb
    have ca : u4.cell? ⟨w.heap.size, 8, none⟩ = some (.slice h1.k.A o1.k.length h1.k.c) := K4.out.cell 8
    have cb : u4.cell? ⟨w.heap.size + 1, 8, none⟩ = some (.slice h2.k.A o2.k.length h2.k.c) := J4.out.cell 8
    go_wp2_with fail
    refine (eqIss_m h1.k h2.k o1.k o2.k u4 B P4.out.k Q4.out.k (by omega) l4 m4 true (Lib.hid (by simpa using Y4.out))).mono ?_
    rintro e u5 ⟨rfl, hb⟩
    have B5 := Lib.hid (below_on B4.out hb)
    have P5 := Lib.hid (P4.out.below hb (by omega))
    have Q5 := Lib.hid (Q4.out.below hb (by omega))
    have K5 := Lib.hid (K4.out.below hb K4.out.lt)
    have J5 := Lib.hid (J4.out.below hb J4.out.lt)
    have z5 := hb.size
    clear hb ca cb
    have ca : u5.cell? ⟨w.heap.size, 9, none⟩ = some (.slice h1.f.A o1.f.length h1.f.c) := K5.out.cell 9
    have cb : u5.cell? ⟨w.heap.size + 1, 9, none⟩ = some (.slice h2.f.A o2.f.length h2.f.c) := J5.out.cell 9
    go_wp2_with fail
    refine (eqInt_any h1.f.A h2.f.A o1.f o2.f h1.f.c h2.f.c u5 B P5.out.f Q5.out.f l5 m5 _ Rl).mono ?_
    rintro e u6 ⟨rfl, hb⟩
    have B6 := Lib.hid (below_on B5.out hb)
    clear hb ca cb
    go_wp2
    go_ret
    exact ⟨by rw [hfin.out]; rfl, B6.out⟩
/-! ### marks -/
def mkV1 (K : Int) (o : Vwd) : Int := K + allSta o.st
def mkV2 (K : Int) (o : Vwd) : Int := mkV1 K o + allNss o.n
def mkV3 (K : Int) (o : Vwd) : Int := mkV2 K o + allIss o.v
def mkV4 (K : Int) (o : Vwd) : Int := mkV3 K o + allIss o.l
def mkV5 (K : Int) (o : Vwd) : Int := mkV4 K o + allIss o.k
def upVwd (K : Int) (o : Vwd) : Vwd := ⟨upSta K o.st, upNss (mkV1 K o) o.n, upIss (mkV2 K o) o.v, upIss (mkV3 K o) o.l, upIss (mkV4 K o) o.k, upI (mkV5 K o) o.f.length⟩
def allVwd (o : Vwd) : Int := allSta o.st + allNss o.n + allIss o.v + allIss o.l + allIss o.k + (o.f.length : Int)
theorem mkV_end (K : Int) (o : Vwd) : mkV5 K o + (o.f.length : Int) = K + allVwd o := by unfold mkV5 mkV4 mkV3 mkV2 mkV1 allVwd; omega
theorem allVwd_le {o : Vwd} (h : VwdS o) : (0 ≤ allSta o.st ∧ allSta o.st ≤ 5242880) ∧ (0 ≤ allNss o.n ∧ allNss o.n ≤ 2097152) ∧ (0 ≤ allIss o.v ∧ allIss o.v ≤ 1048576) ∧ (0 ≤ allIss o.l ∧ allIss o.l ≤ 1048576) ∧ (0 ≤ allIss o.k ∧ allIss o.k ≤ 1048576) := by
  have h1 := allNss_le o.n
  have h2 := h.n.t
  have h3 := h.v.l1
  have h4 := h.l.l1
  have h5 := h.k.l1
  refine ⟨allSta_le h.s, ⟨h1.1, by omega⟩, ?_, ?_, ?_⟩ <;> (unfold allIss; omega)
theorem allVwd_nn {o : Vwd} (h : VwdS o) : 0 ≤ allVwd o ∧ allVwd o ≤ 11534336 := by
  obtain ⟨⟨a1, a2⟩, ⟨b1, b2⟩, ⟨c1, c2⟩, ⟨d1, d2⟩, ⟨e1, e2⟩⟩ := allVwd_le h
  have := h.f
  unfold allVwd; omega

theorem markVwd_any (h : VwdH) (o : Vwd) (K : Int) (w : World) (lo hi : Nat) (hO : VwdO w lo hi h o) (hhi : hi ≤ w.heap.size) (hL : VwdS o) (hK : 0 ≤ K) (hK2 : K ≤ 80000000) :
    Calls Try.prog 23 #[VwdV h o, .int .i64 K] w fun e w' => e = .returned (.int .i64 (K + allVwd o)) ∧ Only lo hi w w' ∧ VwdO w' lo hi h (upVwd K o) := by
  obtain ⟨⟨a1, a2⟩, ⟨b1', b2'⟩, ⟨c1, c2⟩, ⟨d1, d2⟩, ⟨e1, e2⟩⟩ := allVwd_le hL
  obtain ⟨l0, l1, l2, l3, l4, l5⟩ := hL
  obtain ⟨b0, b1, b2, b3, b4, b5, b6, h0, h1, h2, h3, h4, h5, h6, h7, o0, o1, o2, o3, o4, o5⟩ := hO
  obtain ⟨K1, hK1⟩ : ∃ q, mkV1 K o = q := ⟨_, rfl⟩
  obtain ⟨K2, hK2'⟩ : ∃ q, mkV2 K o = q := ⟨_, rfl⟩
  obtain ⟨K3, hK3⟩ : ∃ q, mkV3 K o = q := ⟨_, rfl⟩
  obtain ⟨K4, hK4⟩ : ∃ q, mkV4 K o = q := ⟨_, rfl⟩
  obtain ⟨K5, hK5⟩ : ∃ q, mkV5 K o = q := ⟨_, rfl⟩
  have g1 : K + allSta o.st = K1 := hK1
  have g2 : K1 + allNss o.n = K2 := by rw [← hK1]; exact hK2'
  have g3 : K2 + allIss o.v = K3 := by rw [← hK2']; exact hK3
  have g4 : K3 + allIss o.l = K4 := by rw [← hK3]; exact hK4
  have g5 : K4 + allIss o.k = K5 := by rw [← hK4]; exact hK5
  have Hend := Lib.hid (mkV_end K o)
  have Hup : Hid (upVwd K o = ⟨upSta K o.st, upNss K1 o.n, upIss K2 o.v, upIss K3 o.l, upIss K4 o.k, upI K5 o.f.length⟩) := Lib.hid (by rw [← hK1, ← hK2', ← hK3, ← hK4, ← hK5]; rfl)
  have HK5 := Lib.hid hK5
  clear hK1 hK2' hK3 hK4 hK5
  obtain ⟨W, hW⟩ : ∃ W, W = w.alloc (.cells #[.slice h.h.A0 o.st.f0.length h.h.c0, .slice h.h.A1 o.st.f1.length h.h.c1, .slice h.h.A2 o.st.f2.length h.h.c2, .slice h.h.A3 o.st.f3.length h.h.c3, .slice h.h.A4 o.st.f4.length h.h.c4, .slice h.n.A o.n.length h.n.c, .slice h.v.A o.v.length h.v.c, .slice h.l.A o.l.length h.l.c, .slice h.k.A o.k.length h.k.c, .slice h.f.A o.f.length h.f.c] 53) := ⟨_, rfl⟩
  have bW : Below w.heap.size w W := by rw [hW]; go_grown
  have k0 : Bk W w.heap.size 53 #[.slice h.h.A0 o.st.f0.length h.h.c0, .slice h.h.A1 o.st.f1.length h.h.c1, .slice h.h.A2 o.st.f2.length h.h.c2, .slice h.h.A3 o.st.f3.length h.h.c3, .slice h.h.A4 o.st.f4.length h.h.c4, .slice h.n.A o.n.length h.n.c, .slice h.v.A o.v.length h.v.c, .slice h.l.A o.l.length h.l.c, .slice h.k.A o.k.length h.k.c, .slice h.f.A o.f.length h.f.c] := by rw [hW]; exact Bk.new w _ _
  have zW := bW.size
  have On0 := Lib.hid (Only.of_below (lo := lo) (hi := hi) bW)
  have o0_0 := Lib.hid (o0.below bW (by omega))
  have o0_1 := Lib.hid (o1.below bW (by omega))
  have o0_2 := Lib.hid (o2.below bW (by omega))
  have o0_3 := Lib.hid (o3.below bW (by omega))
  have o0_4 := Lib.hid (o4.below bW (by omega))
  have o0_5 := Lib.hid (o5.below bW (by omega))
  have K0_ := Lib.hid k0
  have HW := Lib.hid hW
  have G1 := Lib.hid g1
  have G2 := Lib.hid g2
  have G3 := Lib.hid g3
  have G4 := Lib.hid g4
  have G5 := Lib.hid g5
  clear hW bW k0 o0 o1 o2 o3 o4 o5
  go_enter Try.func23, Try.ntmps23
  go_wp2_with fail
  rw [← HW.out]
  refine (markSta_any h.h o.st K W b0 b1 o0_0.out (by omega) l0 hK (by omega)).mono ?_
  rintro e u1 ⟨rfl, on, own⟩
  have On1 := Lib.hid (On0.out.trans (on.mono (by omega) (by omega)))
  have z1 := on.size
  have K1_ := Lib.hid (only_bk K0_.out on (by omega))
  have o1_1 := Lib.hid (o0_1.out.keep (Nat.le_refl _) (Nat.le_refl _) fun i p q => on.block i (by omega) (by omega))
  have o1_2 := Lib.hid (o0_2.out.keep (Nat.le_refl _) (Nat.le_refl _) fun i p q => on.block i (by omega) (by omega))
  have o1_3 := Lib.hid (o0_3.out.keep (Nat.le_refl _) (Nat.le_refl _) fun i p q => on.block i (by omega) (by omega))
  have o1_4 := Lib.hid (o0_4.out.keep (Nat.le_refl _) (Nat.le_refl _) fun i p q => on.block i (by omega) (by omega))
  have o1_5 := Lib.hid (o0_5.out.keep (Nat.le_refl _) (Nat.le_refl _) fun i p q => on.block i (by omega) (by omega))
  have o1_0 := Lib.hid own
  clear on own
  have c5 : u1.cell? ⟨w.heap.size, 5, none⟩ = some (.slice h.n.A o.n.length h.n.c) := K1_.out.cell 5
  rw [G1.out]
  go_wp2_with fail
  clear c5
  refine (markNss_any h.n o.n K1 u1 b1 b2 o1_1.out (by omega) l1 (by omega) (by omega)).mono ?_
  rintro e u2 ⟨rfl, on, own⟩
  have On2 := Lib.hid (On1.out.trans (on.mono (by omega) (by omega)))
  have z2 := on.size
  have K2_ := Lib.hid (only_bk K1_.out on (by omega))
  have o2_0 := Lib.hid (o1_0.out.keep (Nat.le_refl _) (Nat.le_refl _) fun i p q => on.block i (by omega) (by omega))
  have o2_2 := Lib.hid (o1_2.out.keep (Nat.le_refl _) (Nat.le_refl _) fun i p q => on.block i (by omega) (by omega))
  have o2_3 := Lib.hid (o1_3.out.keep (Nat.le_refl _) (Nat.le_refl _) fun i p q => on.block i (by omega) (by omega))
  have o2_4 := Lib.hid (o1_4.out.keep (Nat.le_refl _) (Nat.le_refl _) fun i p q => on.block i (by omega) (by omega))
  have o2_5 := Lib.hid (o1_5.out.keep (Nat.le_refl _) (Nat.le_refl _) fun i p q => on.block i (by omega) (by omega))
  have o2_1 := Lib.hid own
  clear on own
  have c5 : u2.cell? ⟨w.heap.size, 6, none⟩ = some (.slice h.v.A o.v.length h.v.c) := K2_.out.cell 6
  rw [G2.out]
  go_wp2_with fail
  clear c5
  refine (markIss_any h.v o.v K2 u2 b2 b3 o2_2.out (by omega) l2 (by omega) (by omega)).mono ?_
  rintro e u3 ⟨rfl, on, own⟩
  have On3 := Lib.hid (On2.out.trans (on.mono (by omega) (by omega)))
  have z3 := on.size
  have K3_ := Lib.hid (only_bk K2_.out on (by omega))
  have o3_0 := Lib.hid (o2_0.out.keep (Nat.le_refl _) (Nat.le_refl _) fun i p q => on.block i (by omega) (by omega))
  have o3_1 := Lib.hid (o2_1.out.keep (Nat.le_refl _) (Nat.le_refl _) fun i p q => on.block i (by omega) (by omega))
  have o3_3 := Lib.hid (o2_3.out.keep (Nat.le_refl _) (Nat.le_refl _) fun i p q => on.block i (by omega) (by omega))
  have o3_4 := Lib.hid (o2_4.out.keep (Nat.le_refl _) (Nat.le_refl _) fun i p q => on.block i (by omega) (by omega))
  have o3_5 := Lib.hid (o2_5.out.keep (Nat.le_refl _) (Nat.le_refl _) fun i p q => on.block i (by omega) (by omega))
  have o3_2 := Lib.hid own
  clear on own
  have c5 : u3.cell? ⟨w.heap.size, 7, none⟩ = some (.slice h.l.A o.l.length h.l.c) := K3_.out.cell 7
  rw [G3.out]
  go_wp2_with fail
  clear c5
  refine (markIss_any h.l o.l K3 u3 b3 b4 o3_3.out (by omega) l3 (by omega) (by omega)).mono ?_
  rintro e u4 ⟨rfl, on, own⟩
  have On4 := Lib.hid (On3.out.trans (on.mono (by omega) (by omega)))
  have z4 := on.size
  have K4_ := Lib.hid (only_bk K3_.out on (by omega))
  have o4_0 := Lib.hid (o3_0.out.keep (Nat.le_refl _) (Nat.le_refl _) fun i p q => on.block i (by omega) (by omega))
  have o4_1 := Lib.hid (o3_1.out.keep (Nat.le_refl _) (Nat.le_refl _) fun i p q => on.block i (by omega) (by omega))
  have o4_2 := Lib.hid (o3_2.out.keep (Nat.le_refl _) (Nat.le_refl _) fun i p q => on.block i (by omega) (by omega))
  have o4_4 := Lib.hid (o3_4.out.keep (Nat.le_refl _) (Nat.le_refl _) fun i p q => on.block i (by omega) (by omega))
  have o4_5 := Lib.hid (o3_5.out.keep (Nat.le_refl _) (Nat.le_refl _) fun i p q => on.block i (by omega) (by omega))
  have o4_3 := Lib.hid own
  clear on own
  have c5 : u4.cell? ⟨w.heap.size, 8, none⟩ = some (.slice h.k.A o.k.length h.k.c) := K4_.out.cell 8
  rw [G4.out]
  go_wp2_with fail
  clear c5
  refine (markIss_any h.k o.k K4 u4 b4 b5 o4_4.out (by omega) l4 (by omega) (by omega)).mono ?_
  rintro e u5 ⟨rfl, on, own⟩
  have On5 := Lib.hid (On4.out.trans (on.mono (by omega) (by omega)))
  have z5 := on.size
  have K5_ := Lib.hid (only_bk K4_.out on (by omega))
  have o5_0 := Lib.hid (o4_0.out.keep (Nat.le_refl _) (Nat.le_refl _) fun i p q => on.block i (by omega) (by omega))
  have o5_1 := Lib.hid (o4_1.out.keep (Nat.le_refl _) (Nat.le_refl _) fun i p q => on.block i (by omega) (by omega))
  have o5_2 := Lib.hid (o4_2.out.keep (Nat.le_refl _) (Nat.le_refl _) fun i p q => on.block i (by omega) (by omega))
  have o5_3 := Lib.hid (o4_3.out.keep (Nat.le_refl _) (Nat.le_refl _) fun i p q => on.block i (by omega) (by omega))
  have o5_5 := Lib.hid (o4_5.out.keep (Nat.le_refl _) (Nat.le_refl _) fun i p q => on.block i (by omega) (by omega))
  have o5_4 := Lib.hid own
  clear on own
  have c5 : u5.cell? ⟨w.heap.size, 9, none⟩ = some (.slice h.f.A o.f.length h.f.c) := K5_.out.cell 9
  rw [G5.out]
  go_wp2_with fail
  clear c5
  refine (markInt_own h.f.A o.f h.f.c K5 u5 b5 b6 o5_5.out l5 (by omega) (by omega)).mono ?_
  rintro e u6 ⟨rfl, on, own, -⟩
  have On6 := Lib.hid (On5.out.trans (on.mono (by omega) (by omega)))
  have z6 := on.size
  have K6_ := Lib.hid (only_bk K5_.out on (by omega))
  have o6_0 := Lib.hid (o5_0.out.keep (Nat.le_refl _) (Nat.le_refl _) fun i p q => on.block i (by omega) (by omega))
  have o6_1 := Lib.hid (o5_1.out.keep (Nat.le_refl _) (Nat.le_refl _) fun i p q => on.block i (by omega) (by omega))
  have o6_2 := Lib.hid (o5_2.out.keep (Nat.le_refl _) (Nat.le_refl _) fun i p q => on.block i (by omega) (by omega))
  have o6_3 := Lib.hid (o5_3.out.keep (Nat.le_refl _) (Nat.le_refl _) fun i p q => on.block i (by omega) (by omega))
  have o6_4 := Lib.hid (o5_4.out.keep (Nat.le_refl _) (Nat.le_refl _) fun i p q => on.block i (by omega) (by omega))
  have o6_5 := Lib.hid own
  clear on own
  go_wp2
  go_ret
  refine ⟨by rw [← Hend.out, HK5.out]; rfl, On6.out, ?_⟩
  rw [Hup.out]
  exact ⟨b0, b1, b2, b3, b4, b5, b6, h0, h1, h2, h3, h4, h5, h6, h7, o6_0.out, o6_1.out, o6_2.out, o6_3.out, o6_4.out, o6_5.out⟩
end Go.Proofs.Ytaghidaamcnpkab
