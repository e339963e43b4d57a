/-
  Contracts of OutcomeOrder, of the program and of the reference model: both come to the same plain function of the two outcomes.
-/
import Derived.Test.YteinbbhhjalbeaaOc
import Derived.Test.YteinbbhhjalbeaaOrdS
import Derived.Deep.RegionHeld3
namespace Go.Proofs.Yteinbbhhjalbeaa
open Go.RowKit Pl
set_option maxHeartbeats 1000000
set_option maxRecDepth 100000
set_option linter.unusedVariables false

def ordO (a b : Oc) : Int := if wayL a.f0 b.f0 = 0 then (if wayL a.f1 b.f1 = 0 then wayL (bitL a.f2) (bitL b.f2) else wayL a.f1 b.f1) else wayL a.f0 b.f0

theorem iord_any (h1 h2 : OcH) (a b : Oc) (w : World) (B : Nat) (r1 : OcR w B h1 a) (r2 : OcR w B h2 b) (hB : B ≤ w.heap.size) (L1 : OcL a maxLen) (L2 : OcL b maxLen) (r : Int) (hr : Hid (ordO a b = r)) :
    Calls Try.prog 53 #[OcV h1 a, OcV h2 b] w fun e w' => e = .returned (.int .i64 r) ∧ Below w.heap.size w w' := by
  obtain ⟨l0, l1, l2⟩ := L1
  obtain ⟨m0, m1, m2⟩ := L2
  obtain ⟨W, hW⟩ : ∃ W, W = (w.alloc (.cells #[.slice h1.A0 a.f0.length h1.c0, .slice h1.A1 a.f1.length h1.c1, .slice h1.A2 a.f2.length h1.c2] 68)).alloc (.cells #[.slice h2.A0 b.f0.length h2.c0, .slice h2.A1 b.f1.length h2.c1, .slice h2.A2 b.f2.length h2.c2] 68) := ⟨_, rfl⟩
  have bW : Below w.heap.size w W := by rw [hW]; go_grown
  have k0 : Bk W w.heap.size 68 #[.slice h1.A0 a.f0.length h1.c0, .slice h1.A1 a.f1.length h1.c1, .slice h1.A2 a.f2.length h1.c2] := by rw [hW]; exact (Bk.new w _ _).alloc _
  have k1 : Bk W (w.heap.size + 1) 68 #[.slice h2.A0 b.f0.length h2.c0, .slice h2.A1 b.f1.length h2.c1, .slice h2.A2 b.f2.length h2.c2] := by
    rw [hW]; have := Bk.new (w.alloc (.cells #[.slice h1.A0 a.f0.length h1.c0, .slice h1.A1 a.f1.length h1.c1, .slice h1.A2 a.f2.length h1.c2] 68)) #[.slice h2.A0 b.f0.length h2.c0, .slice h2.A1 b.f1.length h2.c1, .slice h2.A2 b.f2.length h2.c2] 68
    rwa [World.size_alloc] at this
  have P0 := Lib.hid (r1.below bW hB)
  have Q0 := Lib.hid (r2.below bW hB)
  have K00 := Lib.hid k0
  have K10 := Lib.hid k1
  have B0 := Lib.hid bW
  have z0 := bW.size
  have HW := Lib.hid hW
  clear hW bW k0 k1 r1 r2
  obtain ⟨x0, y0⟩ : ∃ x, wayL a.f0 b.f0 = x := ⟨_, rfl⟩
  have Y0 := Lib.hid y0
  by_cases n0 : x0 = 0
  rotate_left
  · have hfin : Hid (x0 = r) := Lib.hid (by rw [← hr.out, ordO, if_neg (by rw [y0]; exact n0)]; exact y0.symm)
    have n0' : (x0 == 0) = false := by simp [n0]
    clear hr y0 n0
    go_enter Try.func53, Try.ntmps53
    go_wp2_with fail
    rw [← HW.out]
    refine (listord_any h1.A0 h2.A0 a.f0 b.f0 h1.c0 h2.c0 W B P0.out.r0 Q0.out.r0 (by unfold maxLen at *; omega) (by unfold maxLen at *; omega) x0 Y0).mono ?_
    rintro e u1 ⟨rfl, hb⟩
    have B1 := Lib.hid (below_on B0.out hb)
    have P1 := Lib.hid (P0.out.below hb (by omega))
    have Q1 := Lib.hid (Q0.out.below hb (by omega))
    have K01 := Lib.hid (K00.out.below hb K00.out.lt)
    have K11 := Lib.hid (K10.out.below hb K10.out.lt)
    have z1 := hb.size
    clear hb
    go_wp2
    go_ret
    exact ⟨by rw [hfin.out]; rfl, B1.out⟩
  subst n0
  obtain ⟨x1, y1⟩ : ∃ x, wayL a.f1 b.f1 = x := ⟨_, rfl⟩
  have Y1 := Lib.hid y1
  by_cases n1 : x1 = 0
  rotate_left
  · have hfin : Hid (x1 = r) := Lib.hid (by rw [← hr.out, ordO, if_pos y0, if_neg (by rw [y1]; exact n1)]; exact y1.symm)
    have n1' : (x1 == 0) = false := by simp [n1]
    clear hr y0 y1 n1
    go_enter Try.func53, Try.ntmps53
    go_wp2_with fail
    rw [← HW.out]
    refine (listord_any h1.A0 h2.A0 a.f0 b.f0 h1.c0 h2.c0 W B P0.out.r0 Q0.out.r0 (by unfold maxLen at *; omega) (by unfold maxLen at *; omega) 0 Y0).mono ?_
    rintro e u1 ⟨rfl, hb⟩
    have B1 := Lib.hid (below_on B0.out hb)
    have P1 := Lib.hid (P0.out.below hb (by omega))
    have Q1 := Lib.hid (Q0.out.below hb (by omega))
    have K01 := Lib.hid (K00.out.below hb K00.out.lt)
    have K11 := Lib.hid (K10.out.below hb K10.out.lt)
    have z1 := hb.size
    clear hb
    have ca : u1.cell? ⟨w.heap.size, 1, none⟩ = some (.slice h1.A1 a.f1.length h1.c1) := K01.out.cell 1
    have cb : u1.cell? ⟨w.heap.size + 1, 1, none⟩ = some (.slice h2.A1 b.f1.length h2.c1) := K11.out.cell 1
    go_wp2_with fail
    clear ca cb
    refine (listord_any h1.A1 h2.A1 a.f1 b.f1 h1.c1 h2.c1 u1 B P1.out.r1 Q1.out.r1 (by unfold maxLen at *; omega) (by unfold maxLen at *; omega) x1 Y1).mono ?_
    rintro e u2 ⟨rfl, hb⟩
    have B2 := Lib.hid (below_on B1.out hb)
    have P2 := Lib.hid (P1.out.below hb (by omega))
    have Q2 := Lib.hid (Q1.out.below hb (by omega))
    have K02 := Lib.hid (K01.out.below hb K01.out.lt)
    have K12 := Lib.hid (K11.out.below hb K11.out.lt)
    have z2 := hb.size
    clear hb
    go_wp2
    go_ret
    exact ⟨by rw [hfin.out]; rfl, B2.out⟩
  subst n1
  have Y2 : Hid (wayL (bitL a.f2) (bitL b.f2) = r) := Lib.hid (by rw [← hr.out, ordO, if_pos y0, if_pos y1])
  clear hr y0 y1
  go_enter Try.func53, Try.ntmps53
  go_wp2_with fail
  rw [← HW.out]
  refine (listord_any h1.A0 h2.A0 a.f0 b.f0 h1.c0 h2.c0 W B P0.out.r0 Q0.out.r0 (by unfold maxLen at *; omega) (by unfold maxLen at *; omega) 0 Y0).mono ?_
  rintro e u1 ⟨rfl, hb⟩
  have B1 := Lib.hid (below_on B0.out hb)
  have P1 := Lib.hid (P0.out.below hb (by omega))
  have Q1 := Lib.hid (Q0.out.below hb (by omega))
  have K01 := Lib.hid (K00.out.below hb K00.out.lt)
  have K11 := Lib.hid (K10.out.below hb K10.out.lt)
  have z1 := hb.size
  clear hb
  have ca : u1.cell? ⟨w.heap.size, 1, none⟩ = some (.slice h1.A1 a.f1.length h1.c1) := K01.out.cell 1
  have cb : u1.cell? ⟨w.heap.size + 1, 1, none⟩ = some (.slice h2.A1 b.f1.length h2.c1) := K11.out.cell 1
  go_wp2_with fail
  clear ca cb
  refine (listord_any h1.A1 h2.A1 a.f1 b.f1 h1.c1 h2.c1 u1 B P1.out.r1 Q1.out.r1 (by unfold maxLen at *; omega) (by unfold maxLen at *; omega) 0 Y1).mono ?_
  rintro e u2 ⟨rfl, hb⟩
  have B2 := Lib.hid (below_on B1.out hb)
  have P2 := Lib.hid (P1.out.below hb (by omega))
  have Q2 := Lib.hid (Q1.out.below hb (by omega))
  have K02 := Lib.hid (K01.out.below hb K01.out.lt)
  have K12 := Lib.hid (K11.out.below hb K11.out.lt)
  have z2 := hb.size
  clear hb
  have ca : u2.cell? ⟨w.heap.size, 2, none⟩ = some (.slice h1.A2 a.f2.length h1.c2) := K02.out.cell 2
  have cb : u2.cell? ⟨w.heap.size + 1, 2, none⟩ = some (.slice h2.A2 b.f2.length h2.c2) := K12.out.cell 2
  go_wp2_with fail
  clear ca cb
  refine (doneord_any h1.A2 h2.A2 a.f2 b.f2 h1.c2 h2.c2 u2 B P2.out.r2 Q2.out.r2 (by unfold maxLen at *; omega) (by unfold maxLen at *; omega) r Y2).mono ?_
  rintro e u3 ⟨rfl, hb⟩
  have B3 := Lib.hid (below_on B2.out hb)
  have P3 := Lib.hid (P2.out.below hb (by omega))
  have Q3 := Lib.hid (Q2.out.below hb (by omega))
  have K03 := Lib.hid (K02.out.below hb K02.out.lt)
  have K13 := Lib.hid (K12.out.below hb K12.out.lt)
  have z3 := hb.size
  clear hb
  go_wp2
  go_ret
  exact ⟨rfl, B3.out⟩

theorem sord_any (h1 h2 : OcH) (a b : Oc) (w : World) (B : Nat) (r1 : OcR w B h1 a) (r2 : OcR w B h2 b) (hB : B ≤ w.heap.size) (L1 : OcL a 1048576) (L2 : OcL b 1048576) (r : Int) (hr : Hid (ordO a b = r)) :
    Calls Try.prog 51 #[OcV h1 a, OcV h2 b] w fun e w' => e = .returned (.int .i64 r) ∧ Below w.heap.size w w' := by
  obtain ⟨l0, l1, l2⟩ := L1
  obtain ⟨m0, m1, m2⟩ := L2
  obtain ⟨W, hW⟩ : ∃ W, W = (w.alloc (.cells #[.slice h1.A0 a.f0.length h1.c0, .slice h1.A1 a.f1.length h1.c1, .slice h1.A2 a.f2.length h1.c2] 68)).alloc (.cells #[.slice h2.A0 b.f0.length h2.c0, .slice h2.A1 b.f1.length h2.c1, .slice h2.A2 b.f2.length h2.c2] 68) := ⟨_, rfl⟩
  have bW : Below w.heap.size w W := by rw [hW]; go_grown
  have k0 : Bk W w.heap.size 68 #[.slice h1.A0 a.f0.length h1.c0, .slice h1.A1 a.f1.length h1.c1, .slice h1.A2 a.f2.length h1.c2] := by rw [hW]; exact (Bk.new w _ _).alloc _
  have k1 : Bk W (w.heap.size + 1) 68 #[.slice h2.A0 b.f0.length h2.c0, .slice h2.A1 b.f1.length h2.c1, .slice h2.A2 b.f2.length h2.c2] := by
    rw [hW]; have := Bk.new (w.alloc (.cells #[.slice h1.A0 a.f0.length h1.c0, .slice h1.A1 a.f1.length h1.c1, .slice h1.A2 a.f2.length h1.c2] 68)) #[.slice h2.A0 b.f0.length h2.c0, .slice h2.A1 b.f1.length h2.c1, .slice h2.A2 b.f2.length h2.c2] 68
    rwa [World.size_alloc] at this
  have P0 := Lib.hid (r1.below bW hB)
  have Q0 := Lib.hid (r2.below bW hB)
  have K00 := Lib.hid k0
  have K10 := Lib.hid k1
  have B0 := Lib.hid bW
  have z0 := bW.size
  have HW := Lib.hid hW
  clear hW bW k0 k1 r1 r2
  obtain ⟨x0, y0⟩ : ∃ x, wayL a.f0 b.f0 = x := ⟨_, rfl⟩
  have Y0 := Lib.hid y0
  by_cases n0 : x0 = 0
  rotate_left
  · have hfin : Hid (x0 = r) := Lib.hid (by rw [← hr.out, ordO, if_neg (by rw [y0]; exact n0)]; exact y0.symm)
    have n0' : (x0 != 0) = true := by simp [n0]
    clear hr y0 n0
    go_enter Try.func51, Try.ntmps51
    go_wp2_with fail
    rw [← HW.out]
    refine (sway_any h1.A0 h2.A0 a.f0 b.f0 h1.c0 h2.c0 W B P0.out.r0 Q0.out.r0 (by unfold maxLen at *; omega) (by unfold maxLen at *; omega) x0 Y0).mono ?_
    rintro e u1 ⟨rfl, hb⟩
    have B1 := Lib.hid (below_on B0.out hb)
    have P1 := Lib.hid (P0.out.below hb (by omega))
    have Q1 := Lib.hid (Q0.out.below hb (by omega))
    have K01 := Lib.hid (K00.out.below hb K00.out.lt)
    have K11 := Lib.hid (K10.out.below hb K10.out.lt)
    have z1 := hb.size
    clear hb
    go_wp2
    go_ret
    exact ⟨by rw [hfin.out]; rfl, B1.out⟩
  subst n0
  obtain ⟨x1, y1⟩ : ∃ x, wayL a.f1 b.f1 = x := ⟨_, rfl⟩
  have Y1 := Lib.hid y1
  by_cases n1 : x1 = 0
  rotate_left
  · have hfin : Hid (x1 = r) := Lib.hid (by rw [← hr.out, ordO, if_pos y0, if_neg (by rw [y1]; exact n1)]; exact y1.symm)
    have n1' : (x1 != 0) = true := by simp [n1]
    clear hr y0 y1 n1
    go_enter Try.func51, Try.ntmps51
    go_wp2_with fail
    rw [← HW.out]
    refine (sway_any h1.A0 h2.A0 a.f0 b.f0 h1.c0 h2.c0 W B P0.out.r0 Q0.out.r0 (by unfold maxLen at *; omega) (by unfold maxLen at *; omega) 0 Y0).mono ?_
    rintro e u1 ⟨rfl, hb⟩
    have B1 := Lib.hid (below_on B0.out hb)
    have P1 := Lib.hid (P0.out.below hb (by omega))
    have Q1 := Lib.hid (Q0.out.below hb (by omega))
    have K01 := Lib.hid (K00.out.below hb K00.out.lt)
    have K11 := Lib.hid (K10.out.below hb K10.out.lt)
    have z1 := hb.size
    clear hb
    have ca : u1.cell? ⟨w.heap.size, 1, none⟩ = some (.slice h1.A1 a.f1.length h1.c1) := K01.out.cell 1
    have cb : u1.cell? ⟨w.heap.size + 1, 1, none⟩ = some (.slice h2.A1 b.f1.length h2.c1) := K11.out.cell 1
    go_wp2_with fail
    clear ca cb
    refine (sway_any h1.A1 h2.A1 a.f1 b.f1 h1.c1 h2.c1 u1 B P1.out.r1 Q1.out.r1 (by unfold maxLen at *; omega) (by unfold maxLen at *; omega) x1 Y1).mono ?_
    rintro e u2 ⟨rfl, hb⟩
    have B2 := Lib.hid (below_on B1.out hb)
    have P2 := Lib.hid (P1.out.below hb (by omega))
    have Q2 := Lib.hid (Q1.out.below hb (by omega))
    have K02 := Lib.hid (K01.out.below hb K01.out.lt)
    have K12 := Lib.hid (K11.out.below hb K11.out.lt)
    have z2 := hb.size
    clear hb
    go_wp2
    go_ret
    exact ⟨by rw [hfin.out]; rfl, B2.out⟩
  subst n1
  have Y2 : Hid (wayL (bitL a.f2) (bitL b.f2) = r) := Lib.hid (by rw [← hr.out, ordO, if_pos y0, if_pos y1])
  clear hr y0 y1
  go_enter Try.func51, Try.ntmps51
  go_wp2_with fail
  rw [← HW.out]
  refine (sway_any h1.A0 h2.A0 a.f0 b.f0 h1.c0 h2.c0 W B P0.out.r0 Q0.out.r0 (by unfold maxLen at *; omega) (by unfold maxLen at *; omega) 0 Y0).mono ?_
  rintro e u1 ⟨rfl, hb⟩
  have B1 := Lib.hid (below_on B0.out hb)
  have P1 := Lib.hid (P0.out.below hb (by omega))
  have Q1 := Lib.hid (Q0.out.below hb (by omega))
  have K01 := Lib.hid (K00.out.below hb K00.out.lt)
  have K11 := Lib.hid (K10.out.below hb K10.out.lt)
  have z1 := hb.size
  clear hb
  have ca : u1.cell? ⟨w.heap.size, 1, none⟩ = some (.slice h1.A1 a.f1.length h1.c1) := K01.out.cell 1
  have cb : u1.cell? ⟨w.heap.size + 1, 1, none⟩ = some (.slice h2.A1 b.f1.length h2.c1) := K11.out.cell 1
  go_wp2_with fail
  clear ca cb
  refine (sway_any h1.A1 h2.A1 a.f1 b.f1 h1.c1 h2.c1 u1 B P1.out.r1 Q1.out.r1 (by unfold maxLen at *; omega) (by unfold maxLen at *; omega) 0 Y1).mono ?_
  rintro e u2 ⟨rfl, hb⟩
  have B2 := Lib.hid (below_on B1.out hb)
  have P2 := Lib.hid (P1.out.below hb (by omega))
  have Q2 := Lib.hid (Q1.out.below hb (by omega))
  have K02 := Lib.hid (K01.out.below hb K01.out.lt)
  have K12 := Lib.hid (K11.out.below hb K11.out.lt)
  have z2 := hb.size
  clear hb
  have allS : ∀ w', Below u2.heap.size u2 w' → (Below u2.heap.size u2 w' ∧ w'.cell? ⟨w.heap.size, 2, none⟩ = some (.slice h1.A2 a.f2.length h1.c2) ∧ w'.cell? ⟨w.heap.size + 1, 2, none⟩ = some (.slice h2.A2 b.f2.length h2.c2)) := fun w' hb => ⟨hb, (K02.out.below hb K02.out.lt).cell 2, (K12.out.below hb K12.out.lt).cell 2⟩
  have AllS := Lib.hid allS
  clear allS
  have hBu : B ≤ u2.heap.size := by omega
  go_wp2_with fail
  have tok1 : True := trivial
  go_region_held3 (fun w' => Below u2.heap.size u2 w' ∧ w'.cell? ⟨w.heap.size, 2, none⟩ = some (.slice h1.A2 a.f2.length h1.c2) ∧ w'.cell? ⟨w.heap.size + 1, 2, none⟩ = some (.slice h2.A2 b.f2.length h2.c2)) (first | (go_split_ands; exact AllS.out _ (by go_grown)) | (exact AllS.out _ (by go_grown))) (first
    | (go_at_call 101; clear tok1; go_split_ands; refine (bits_any h1.A2 a.f2 h1.c2 _ B (P2.out.r2.below (show Below u2.heap.size u2 _ from by go_grown) hBu) (Nat.le_trans hBu (show Below u2.heap.size u2 _ from by go_grown).size) l2).mono ?_; rintro e v1 ⟨ga, ca, rfl, -, -, hga, hv1, ov1⟩; have Ov1 := Lib.hid ov1.vs; have hBv1 : Below u2.heap.size u2 v1 := below_on (by go_grown) hv1; clear ov1 hv1)
    | (go_at_call 101; go_split_ands; refine (bits_any h2.A2 b.f2 h2.c2 _ B (Q2.out.r2.below (show Below u2.heap.size u2 _ from by go_grown) hBu) (Nat.le_trans hBu (show Below u2.heap.size u2 _ from by go_grown).size) m2).mono ?_; rintro e v2 ⟨gb, cb, rfl, -, -, hgb, hv2, ov2⟩; have Ov2 := Lib.hid ov2.vs; have hB12 : Below v1.heap.size v1 v2 := below_on (by go_grown) hv2; have hBv2 : Below u2.heap.size u2 v2 := below_on (by go_grown) hv2; clear ov2 hv2)
    | (go_at_call 100; go_split_ands; refine (sway_any _ _ (bitL a.f2) (bitL b.f2) ca cb _ v2.heap.size (Ov1.out.up (show Below v1.heap.size v1 _ from by go_grown) (Nat.le_refl _) hB12.size) (Ov2.out.below (show Below v2.heap.size v2 _ from by go_grown) (Nat.le_refl _)) (by rw [bitL_length]; unfold maxLen; omega) (by rw [bitL_length]; unfold maxLen; omega) r Y2).mono ?_; rintro e v3 ⟨rfl, hv3⟩; have hBv3 : Below u2.heap.size u2 v3 := below_on (by go_grown) hv3; clear hv3))
  have hfin := below_on B2.out hBv3
  go_wp2
  go_ret
  exact ⟨rfl, hfin⟩
end Go.Proofs.Yteinbbhhjalbeaa
