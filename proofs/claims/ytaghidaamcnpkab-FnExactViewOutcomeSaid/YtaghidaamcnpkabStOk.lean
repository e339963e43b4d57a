/-
  Contracts of StateOk, of the program and of the reference model: both come to the same plain function of the program and the state.
-/
import Derived.Test.YtaghidaamcnpkabNums
import Derived.Deep.QuietTactic
import Derived.BigQuiet
namespace Go.Proofs.Ytaghidaamcnpkab
open Go.RowKit Pl
set_option maxHeartbeats 2000000
set_option maxRecDepth 100000
set_option linter.unusedVariables false

/-- What is a state of a program. -/
def stB (L : Pg) (s : Sta) : Bool :=
  ((((progB L && atZ L s.f0) && numB s.f1 ((L.length : Int) * 3) 0 3) && numB s.f2 3 0 3) && numB s.f3 2 (-1) ((L.length : Int) - 1)) && numB s.f4 2 (-1) 3

theorem istok_any (h : PgH) (L : Pg) (k : StaH) (s : Sta) (w : World) (B : Nat) (hP : PgR w B h L) (hS : StaR w B k s) (hB : B ≤ w.heap.size) (LP : PgL L maxLen) (LS : StaL s maxLen) (r : Bool) (hr : Hid (stB L s = r)) :
    Calls Try.prog 88 #[PgV h L, StaV k s] w fun e w' => e = .returned (.bool r) ∧ Below w.heap.size w w' := by
  obtain ⟨l0, l1, l2, l3, l4⟩ := LS
  have hl := LP.l
  obtain ⟨W, hW⟩ : ∃ W, W = (w.alloc (.cells #[.slice h.A L.length h.c] 32)).alloc (.cells #[.slice k.A0 s.f0.length k.c0, .slice k.A1 s.f1.length k.c1, .slice k.A2 s.f2.length k.c2, .slice k.A3 s.f3.length k.c3, .slice k.A4 s.f4.length k.c4] 50) := ⟨_, rfl⟩
  have hbW : Below w.heap.size w W := by rw [hW]; go_grown
  have hsW : W.heap.size = w.heap.size + 1 + 1 := by rw [hW]; simp
  have kp : Bk W w.heap.size 32 #[.slice h.A L.length h.c] := by rw [hW]; exact (Bk.new w _ _).alloc _
  have ks : Bk W (w.heap.size + 1) 50 #[.slice k.A0 s.f0.length k.c0, .slice k.A1 s.f1.length k.c1, .slice k.A2 s.f2.length k.c2, .slice k.A3 s.f3.length k.c3, .slice k.A4 s.f4.length k.c4] := by
    rw [hW]; have := Bk.new (w.alloc (.cells #[.slice h.A L.length h.c] 32)) #[.slice k.A0 s.f0.length k.c0, .slice k.A1 s.f1.length k.c1, .slice k.A2 s.f2.length k.c2, .slice k.A3 s.f3.length k.c3, .slice k.A4 s.f4.length k.c4] 50
    rwa [World.size_alloc] at this
  have HW := Lib.hid hW
  have P_0 := Lib.hid (kp)
  have S_0 := Lib.hid (ks)
  have RP_0 := Lib.hid (hP.below hbW hB)
  have RS_0 := Lib.hid (hS.below hbW hB)
  have BEL_0 := Lib.hid (hbW)
  have hsWa := Nat.le_of_eq hsW
  have hsWb := Nat.le_of_eq hsW.symm
  clear hW hsW hbW kp ks hP hS
  obtain ⟨b0, y0⟩ : ∃ b, progB L = b := ⟨_, rfl⟩
  have Y0 := Lib.hid y0
  clear y0
  rcases Bool.eq_false_or_eq_true b0 with e | e
  rotate_left
  · subst e
    have hfin : Hid (r = false) := Lib.hid (by rw [← hr.out]; unfold stB; simp [Y0.out])
    clear hr
    go_enter Try.func88, Try.ntmps88
    go_wp2_with fail
    rw [← HW.out]
    refine (iprog_any h.A L h.c W B (RP_0).out (by omega) hl false Y0).mono ?_
    rintro e u0 ⟨rfl, hb⟩
    have sz_1 := (hb).size
    have P_1 := Lib.hid ((P_0).out.below hb (P_0).out.lt)
    clear P_0
    have S_1 := Lib.hid ((S_0).out.below hb (S_0).out.lt)
    clear S_0
    have RP_1 := Lib.hid ((RP_0).out.below hb (by omega))
    clear RP_0
    have RS_1 := Lib.hid ((RS_0).out.below hb (by omega))
    clear RS_0
    have BEL_1 := Lib.hid (below_on (BEL_0).out hb)
    clear BEL_0
    clear hb
    go_wp2
    go_ret
    exact ⟨by rw [hfin.out]; rfl, (BEL_1).out⟩
  subst e
  have h3 := prog_len Y0.out
  have h31 : 1 ≤ L.length := h3.1
  have h32 : L.length ≤ 3 := h3.2
  clear h3
  obtain ⟨b1, y1⟩ : ∃ b, atZ L s.f0 = b := ⟨_, rfl⟩
  have Y1 := Lib.hid y1
  clear y1
  rcases Bool.eq_false_or_eq_true b1 with e | e
  rotate_left
  · subst e
    have hfin : Hid (r = false) := Lib.hid (by rw [← hr.out]; unfold stB; simp [Y0.out, Y1.out])
    clear hr
    go_enter Try.func88, Try.ntmps88
    go_wp2_with fail
    rw [← HW.out]
    refine (iprog_any h.A L h.c W B (RP_0).out (by omega) hl true Y0).mono ?_
    rintro e u0 ⟨rfl, hb⟩
    have sz_1 := (hb).size
    have P_1 := Lib.hid ((P_0).out.below hb (P_0).out.lt)
    clear P_0
    have S_1 := Lib.hid ((S_0).out.below hb (S_0).out.lt)
    clear S_0
    have RP_1 := Lib.hid ((RP_0).out.below hb (by omega))
    clear RP_0
    have RS_1 := Lib.hid ((RS_0).out.below hb (by omega))
    clear RS_0
    have BEL_1 := Lib.hid (below_on (BEL_0).out hb)
    clear BEL_0
    clear hb
    have c_P_0 : u0.cell? ⟨w.heap.size, 0, none⟩ = some (.slice h.A L.length h.c) := (P_1).out.cell 0
    have l_P : w.heap.size < u0.heap.size := (P_1).out.lt
    have c_S_0 : u0.cell? ⟨w.heap.size + 1, 0, none⟩ = some (.slice k.A0 s.f0.length k.c0) := (S_1).out.cell 0
    have c_S_1 : u0.cell? ⟨w.heap.size + 1, 1, none⟩ = some (.slice k.A1 s.f1.length k.c1) := (S_1).out.cell 1
    have c_S_2 : u0.cell? ⟨w.heap.size + 1, 2, none⟩ = some (.slice k.A2 s.f2.length k.c2) := (S_1).out.cell 2
    have c_S_3 : u0.cell? ⟨w.heap.size + 1, 3, none⟩ = some (.slice k.A3 s.f3.length k.c3) := (S_1).out.cell 3
    have c_S_4 : u0.cell? ⟨w.heap.size + 1, 4, none⟩ = some (.slice k.A4 s.f4.length k.c4) := (S_1).out.cell 4
    have l_S : w.heap.size + 1 < u0.heap.size := (S_1).out.lt
    go_wp2_with fail
    clear c_P_0 l_P c_S_0 c_S_1 c_S_2 c_S_3 c_S_4 l_S
    refine (atok_any h L k.A0 s.f0 k.c0 u0 B (RP_1).out (RS_1).out.r0 (by omega) hl l0 false Y1).mono ?_
    rintro e u1 ⟨rfl, hb⟩
    have sz_2 := (hb).size
    have P_2 := Lib.hid ((P_1).out.below hb (P_1).out.lt)
    clear P_1
    have S_2 := Lib.hid ((S_1).out.below hb (S_1).out.lt)
    clear S_1
    have RP_2 := Lib.hid ((RP_1).out.below hb (by omega))
    clear RP_1
    have RS_2 := Lib.hid ((RS_1).out.below hb (by omega))
    clear RS_1
    have BEL_2 := Lib.hid (below_on (BEL_1).out hb)
    clear BEL_1
    clear hb
    go_wp2
    go_ret
    exact ⟨by rw [hfin.out]; rfl, (BEL_2).out⟩
  subst e
  obtain ⟨b2, y2⟩ : ∃ b, numB s.f1 ((L.length : Int) * 3) 0 3 = b := ⟨_, rfl⟩
  have Y2 := Lib.hid y2
  clear y2
  rcases Bool.eq_false_or_eq_true b2 with e | e
  rotate_left
  · subst e
    have hfin : Hid (r = false) := Lib.hid (by rw [← hr.out]; unfold stB; simp [Y0.out, Y1.out, Y2.out])
    clear hr
    go_enter Try.func88, Try.ntmps88
    go_wp2_with fail
    rw [← HW.out]
    refine (iprog_any h.A L h.c W B (RP_0).out (by omega) hl true Y0).mono ?_
    rintro e u0 ⟨rfl, hb⟩
    have sz_1 := (hb).size
    have P_1 := Lib.hid ((P_0).out.below hb (P_0).out.lt)
    clear P_0
    have S_1 := Lib.hid ((S_0).out.below hb (S_0).out.lt)
    clear S_0
    have RP_1 := Lib.hid ((RP_0).out.below hb (by omega))
    clear RP_0
    have RS_1 := Lib.hid ((RS_0).out.below hb (by omega))
    clear RS_0
    have BEL_1 := Lib.hid (below_on (BEL_0).out hb)
    clear BEL_0
    clear hb
    have c_P_0 : u0.cell? ⟨w.heap.size, 0, none⟩ = some (.slice h.A L.length h.c) := (P_1).out.cell 0
    have l_P : w.heap.size < u0.heap.size := (P_1).out.lt
    have c_S_0 : u0.cell? ⟨w.heap.size + 1, 0, none⟩ = some (.slice k.A0 s.f0.length k.c0) := (S_1).out.cell 0
    have c_S_1 : u0.cell? ⟨w.heap.size + 1, 1, none⟩ = some (.slice k.A1 s.f1.length k.c1) := (S_1).out.cell 1
    have c_S_2 : u0.cell? ⟨w.heap.size + 1, 2, none⟩ = some (.slice k.A2 s.f2.length k.c2) := (S_1).out.cell 2
    have c_S_3 : u0.cell? ⟨w.heap.size + 1, 3, none⟩ = some (.slice k.A3 s.f3.length k.c3) := (S_1).out.cell 3
    have c_S_4 : u0.cell? ⟨w.heap.size + 1, 4, none⟩ = some (.slice k.A4 s.f4.length k.c4) := (S_1).out.cell 4
    have l_S : w.heap.size + 1 < u0.heap.size := (S_1).out.lt
    go_wp2_with fail
    clear c_P_0 l_P c_S_0 c_S_1 c_S_2 c_S_3 c_S_4 l_S
    refine (atok_any h L k.A0 s.f0 k.c0 u0 B (RP_1).out (RS_1).out.r0 (by omega) hl l0 true Y1).mono ?_
    rintro e u1 ⟨rfl, hb⟩
    have sz_2 := (hb).size
    have P_2 := Lib.hid ((P_1).out.below hb (P_1).out.lt)
    clear P_1
    have S_2 := Lib.hid ((S_1).out.below hb (S_1).out.lt)
    clear S_1
    have RP_2 := Lib.hid ((RP_1).out.below hb (by omega))
    clear RP_1
    have RS_2 := Lib.hid ((RS_1).out.below hb (by omega))
    clear RS_1
    have BEL_2 := Lib.hid (below_on (BEL_1).out hb)
    clear BEL_1
    clear hb
    have c_P_0 : u1.cell? ⟨w.heap.size, 0, none⟩ = some (.slice h.A L.length h.c) := (P_2).out.cell 0
    have l_P : w.heap.size < u1.heap.size := (P_2).out.lt
    have c_S_0 : u1.cell? ⟨w.heap.size + 1, 0, none⟩ = some (.slice k.A0 s.f0.length k.c0) := (S_2).out.cell 0
    have c_S_1 : u1.cell? ⟨w.heap.size + 1, 1, none⟩ = some (.slice k.A1 s.f1.length k.c1) := (S_2).out.cell 1
    have c_S_2 : u1.cell? ⟨w.heap.size + 1, 2, none⟩ = some (.slice k.A2 s.f2.length k.c2) := (S_2).out.cell 2
    have c_S_3 : u1.cell? ⟨w.heap.size + 1, 3, none⟩ = some (.slice k.A3 s.f3.length k.c3) := (S_2).out.cell 3
    have c_S_4 : u1.cell? ⟨w.heap.size + 1, 4, none⟩ = some (.slice k.A4 s.f4.length k.c4) := (S_2).out.cell 4
    have l_S : w.heap.size + 1 < u1.heap.size := (S_2).out.lt
    go_wp2_with fail
    clear c_P_0 l_P c_S_0 c_S_1 c_S_2 c_S_3 c_S_4 l_S
    refine (numok_any k.A1 s.f1 k.c1 _ _ _ u1 B (RS_2).out.r1 l1 false Y2).mono ?_
    rintro e w' ⟨rfl, rfl⟩
    go_wp2
    go_ret
    exact ⟨by rw [hfin.out]; rfl, (BEL_2).out⟩
  subst e
  obtain ⟨b3, y3⟩ : ∃ b, numB s.f2 3 0 3 = b := ⟨_, rfl⟩
  have Y3 := Lib.hid y3
  clear y3
  rcases Bool.eq_false_or_eq_true b3 with e | e
  rotate_left
  · subst e
    have hfin : Hid (r = false) := Lib.hid (by rw [← hr.out]; unfold stB; simp [Y0.out, Y1.out, Y2.out, Y3.out])
    clear hr
    go_enter Try.func88, Try.ntmps88
    go_wp2_with fail
    rw [← HW.out]
    refine (iprog_any h.A L h.c W B (RP_0).out (by omega) hl true Y0).mono ?_
    rintro e u0 ⟨rfl, hb⟩
    have sz_1 := (hb).size
    have P_1 := Lib.hid ((P_0).out.below hb (P_0).out.lt)
    clear P_0
    have S_1 := Lib.hid ((S_0).out.below hb (S_0).out.lt)
    clear S_0
    have RP_1 := Lib.hid ((RP_0).out.below hb (by omega))
    clear RP_0
    have RS_1 := Lib.hid ((RS_0).out.below hb (by omega))
    clear RS_0
    have BEL_1 := Lib.hid (below_on (BEL_0).out hb)
    clear BEL_0
    clear hb
    have c_P_0 : u0.cell? ⟨w.heap.size, 0, none⟩ = some (.slice h.A L.length h.c) := (P_1).out.cell 0
    have l_P : w.heap.size < u0.heap.size := (P_1).out.lt
    have c_S_0 : u0.cell? ⟨w.heap.size + 1, 0, none⟩ = some (.slice k.A0 s.f0.length k.c0) := (S_1).out.cell 0
    have c_S_1 : u0.cell? ⟨w.heap.size + 1, 1, none⟩ = some (.slice k.A1 s.f1.length k.c1) := (S_1).out.cell 1
    have c_S_2 : u0.cell? ⟨w.heap.size + 1, 2, none⟩ = some (.slice k.A2 s.f2.length k.c2) := (S_1).out.cell 2
    have c_S_3 : u0.cell? ⟨w.heap.size + 1, 3, none⟩ = some (.slice k.A3 s.f3.length k.c3) := (S_1).out.cell 3
    have c_S_4 : u0.cell? ⟨w.heap.size + 1, 4, none⟩ = some (.slice k.A4 s.f4.length k.c4) := (S_1).out.cell 4
    have l_S : w.heap.size + 1 < u0.heap.size := (S_1).out.lt
    go_wp2_with fail
    clear c_P_0 l_P c_S_0 c_S_1 c_S_2 c_S_3 c_S_4 l_S
    refine (atok_any h L k.A0 s.f0 k.c0 u0 B (RP_1).out (RS_1).out.r0 (by omega) hl l0 true Y1).mono ?_
    rintro e u1 ⟨rfl, hb⟩
    have sz_2 := (hb).size
    have P_2 := Lib.hid ((P_1).out.below hb (P_1).out.lt)
    clear P_1
    have S_2 := Lib.hid ((S_1).out.below hb (S_1).out.lt)
    clear S_1
    have RP_2 := Lib.hid ((RP_1).out.below hb (by omega))
    clear RP_1
    have RS_2 := Lib.hid ((RS_1).out.below hb (by omega))
    clear RS_1
    have BEL_2 := Lib.hid (below_on (BEL_1).out hb)
    clear BEL_1
    clear hb
    have c_P_0 : u1.cell? ⟨w.heap.size, 0, none⟩ = some (.slice h.A L.length h.c) := (P_2).out.cell 0
    have l_P : w.heap.size < u1.heap.size := (P_2).out.lt
    have c_S_0 : u1.cell? ⟨w.heap.size + 1, 0, none⟩ = some (.slice k.A0 s.f0.length k.c0) := (S_2).out.cell 0
    have c_S_1 : u1.cell? ⟨w.heap.size + 1, 1, none⟩ = some (.slice k.A1 s.f1.length k.c1) := (S_2).out.cell 1
    have c_S_2 : u1.cell? ⟨w.heap.size + 1, 2, none⟩ = some (.slice k.A2 s.f2.length k.c2) := (S_2).out.cell 2
    have c_S_3 : u1.cell? ⟨w.heap.size + 1, 3, none⟩ = some (.slice k.A3 s.f3.length k.c3) := (S_2).out.cell 3
    have c_S_4 : u1.cell? ⟨w.heap.size + 1, 4, none⟩ = some (.slice k.A4 s.f4.length k.c4) := (S_2).out.cell 4
    have l_S : w.heap.size + 1 < u1.heap.size := (S_2).out.lt
    go_wp2_with fail
    clear c_P_0 l_P c_S_0 c_S_1 c_S_2 c_S_3 c_S_4 l_S
    refine (numok_any k.A1 s.f1 k.c1 _ _ _ u1 B (RS_2).out.r1 l1 true Y2).mono ?_
    rintro e w' ⟨rfl, rfl⟩
    have c_P_0 : u1.cell? ⟨w.heap.size, 0, none⟩ = some (.slice h.A L.length h.c) := (P_2).out.cell 0
    have l_P : w.heap.size < u1.heap.size := (P_2).out.lt
    have c_S_0 : u1.cell? ⟨w.heap.size + 1, 0, none⟩ = some (.slice k.A0 s.f0.length k.c0) := (S_2).out.cell 0
    have c_S_1 : u1.cell? ⟨w.heap.size + 1, 1, none⟩ = some (.slice k.A1 s.f1.length k.c1) := (S_2).out.cell 1
    have c_S_2 : u1.cell? ⟨w.heap.size + 1, 2, none⟩ = some (.slice k.A2 s.f2.length k.c2) := (S_2).out.cell 2
    have c_S_3 : u1.cell? ⟨w.heap.size + 1, 3, none⟩ = some (.slice k.A3 s.f3.length k.c3) := (S_2).out.cell 3
    have c_S_4 : u1.cell? ⟨w.heap.size + 1, 4, none⟩ = some (.slice k.A4 s.f4.length k.c4) := (S_2).out.cell 4
    have l_S : w.heap.size + 1 < u1.heap.size := (S_2).out.lt
    go_wp2_with fail
    clear c_P_0 l_P c_S_0 c_S_1 c_S_2 c_S_3 c_S_4 l_S
    refine (numok_any k.A2 s.f2 k.c2 _ _ _ u1 B (RS_2).out.r2 l2 false Y3).mono ?_
    rintro e w' ⟨rfl, rfl⟩
    go_wp2
    go_ret
    exact ⟨by rw [hfin.out]; rfl, (BEL_2).out⟩
  subst e
  obtain ⟨b4, y4⟩ : ∃ b, numB s.f3 2 (-1) ((L.length : Int) - 1) = b := ⟨_, rfl⟩
  have Y4 := Lib.hid y4
  clear y4
  rcases Bool.eq_false_or_eq_true b4 with e | e
  rotate_left
  · subst e
    have hfin : Hid (r = false) := Lib.hid (by rw [← hr.out]; unfold stB; simp [Y0.out, Y1.out, Y2.out, Y3.out, Y4.out])
    clear hr
    go_enter Try.func88, Try.ntmps88
    go_wp2_with fail
    rw [← HW.out]
    refine (iprog_any h.A L h.c W B (RP_0).out (by omega) hl true Y0).mono ?_
    rintro e u0 ⟨rfl, hb⟩
    have sz_1 := (hb).size
    have P_1 := Lib.hid ((P_0).out.below hb (P_0).out.lt)
    clear P_0
    have S_1 := Lib.hid ((S_0).out.below hb (S_0).out.lt)
    clear S_0
    have RP_1 := Lib.hid ((RP_0).out.below hb (by omega))
    clear RP_0
    have RS_1 := Lib.hid ((RS_0).out.below hb (by omega))
    clear RS_0
    have BEL_1 := Lib.hid (below_on (BEL_0).out hb)
    clear BEL_0
    clear hb
    have c_P_0 : u0.cell? ⟨w.heap.size, 0, none⟩ = some (.slice h.A L.length h.c) := (P_1).out.cell 0
    have l_P : w.heap.size < u0.heap.size := (P_1).out.lt
    have c_S_0 : u0.cell? ⟨w.heap.size + 1, 0, none⟩ = some (.slice k.A0 s.f0.length k.c0) := (S_1).out.cell 0
    have c_S_1 : u0.cell? ⟨w.heap.size + 1, 1, none⟩ = some (.slice k.A1 s.f1.length k.c1) := (S_1).out.cell 1
    have c_S_2 : u0.cell? ⟨w.heap.size + 1, 2, none⟩ = some (.slice k.A2 s.f2.length k.c2) := (S_1).out.cell 2
    have c_S_3 : u0.cell? ⟨w.heap.size + 1, 3, none⟩ = some (.slice k.A3 s.f3.length k.c3) := (S_1).out.cell 3
    have c_S_4 : u0.cell? ⟨w.heap.size + 1, 4, none⟩ = some (.slice k.A4 s.f4.length k.c4) := (S_1).out.cell 4
    have l_S : w.heap.size + 1 < u0.heap.size := (S_1).out.lt
    go_wp2_with fail
    clear c_P_0 l_P c_S_0 c_S_1 c_S_2 c_S_3 c_S_4 l_S
    refine (atok_any h L k.A0 s.f0 k.c0 u0 B (RP_1).out (RS_1).out.r0 (by omega) hl l0 true Y1).mono ?_
    rintro e u1 ⟨rfl, hb⟩
    have sz_2 := (hb).size
    have P_2 := Lib.hid ((P_1).out.below hb (P_1).out.lt)
    clear P_1
    have S_2 := Lib.hid ((S_1).out.below hb (S_1).out.lt)
    clear S_1
    have RP_2 := Lib.hid ((RP_1).out.below hb (by omega))
    clear RP_1
    have RS_2 := Lib.hid ((RS_1).out.below hb (by omega))
    clear RS_1
    have BEL_2 := Lib.hid (below_on (BEL_1).out hb)
    clear BEL_1
    clear hb
    have c_P_0 : u1.cell? ⟨w.heap.size, 0, none⟩ = some (.slice h.A L.length h.c) := (P_2).out.cell 0
    have l_P : w.heap.size < u1.heap.size := (P_2).out.lt
    have c_S_0 : u1.cell? ⟨w.heap.size + 1, 0, none⟩ = some (.slice k.A0 s.f0.length k.c0) := (S_2).out.cell 0
    have c_S_1 : u1.cell? ⟨w.heap.size + 1, 1, none⟩ = some (.slice k.A1 s.f1.length k.c1) := (S_2).out.cell 1
    have c_S_2 : u1.cell? ⟨w.heap.size + 1, 2, none⟩ = some (.slice k.A2 s.f2.length k.c2) := (S_2).out.cell 2
    have c_S_3 : u1.cell? ⟨w.heap.size + 1, 3, none⟩ = some (.slice k.A3 s.f3.length k.c3) := (S_2).out.cell 3
    have c_S_4 : u1.cell? ⟨w.heap.size + 1, 4, none⟩ = some (.slice k.A4 s.f4.length k.c4) := (S_2).out.cell 4
    have l_S : w.heap.size + 1 < u1.heap.size := (S_2).out.lt
    go_wp2_with fail
    clear c_P_0 l_P c_S_0 c_S_1 c_S_2 c_S_3 c_S_4 l_S
    refine (numok_any k.A1 s.f1 k.c1 _ _ _ u1 B (RS_2).out.r1 l1 true Y2).mono ?_
    rintro e w' ⟨rfl, rfl⟩
    have c_P_0 : u1.cell? ⟨w.heap.size, 0, none⟩ = some (.slice h.A L.length h.c) := (P_2).out.cell 0
    have l_P : w.heap.size < u1.heap.size := (P_2).out.lt
    have c_S_0 : u1.cell? ⟨w.heap.size + 1, 0, none⟩ = some (.slice k.A0 s.f0.length k.c0) := (S_2).out.cell 0
    have c_S_1 : u1.cell? ⟨w.heap.size + 1, 1, none⟩ = some (.slice k.A1 s.f1.length k.c1) := (S_2).out.cell 1
    have c_S_2 : u1.cell? ⟨w.heap.size + 1, 2, none⟩ = some (.slice k.A2 s.f2.length k.c2) := (S_2).out.cell 2
    have c_S_3 : u1.cell? ⟨w.heap.size + 1, 3, none⟩ = some (.slice k.A3 s.f3.length k.c3) := (S_2).out.cell 3
    have c_S_4 : u1.cell? ⟨w.heap.size + 1, 4, none⟩ = some (.slice k.A4 s.f4.length k.c4) := (S_2).out.cell 4
    have l_S : w.heap.size + 1 < u1.heap.size := (S_2).out.lt
    go_wp2_with fail
    clear c_P_0 l_P c_S_0 c_S_1 c_S_2 c_S_3 c_S_4 l_S
    refine (numok_any k.A2 s.f2 k.c2 _ _ _ u1 B (RS_2).out.r2 l2 true Y3).mono ?_
    rintro e w' ⟨rfl, rfl⟩
    have c_P_0 : u1.cell? ⟨w.heap.size, 0, none⟩ = some (.slice h.A L.length h.c) := (P_2).out.cell 0
    have l_P : w.heap.size < u1.heap.size := (P_2).out.lt
    have c_S_0 : u1.cell? ⟨w.heap.size + 1, 0, none⟩ = some (.slice k.A0 s.f0.length k.c0) := (S_2).out.cell 0
    have c_S_1 : u1.cell? ⟨w.heap.size + 1, 1, none⟩ = some (.slice k.A1 s.f1.length k.c1) := (S_2).out.cell 1
    have c_S_2 : u1.cell? ⟨w.heap.size + 1, 2, none⟩ = some (.slice k.A2 s.f2.length k.c2) := (S_2).out.cell 2
    have c_S_3 : u1.cell? ⟨w.heap.size + 1, 3, none⟩ = some (.slice k.A3 s.f3.length k.c3) := (S_2).out.cell 3
    have c_S_4 : u1.cell? ⟨w.heap.size + 1, 4, none⟩ = some (.slice k.A4 s.f4.length k.c4) := (S_2).out.cell 4
    have l_S : w.heap.size + 1 < u1.heap.size := (S_2).out.lt
    go_wp2_with fail
    clear c_P_0 l_P c_S_0 c_S_1 c_S_2 c_S_3 c_S_4 l_S
    refine (numok_any k.A3 s.f3 k.c3 _ _ _ u1 B (RS_2).out.r3 l3 false Y4).mono ?_
    rintro e w' ⟨rfl, rfl⟩
    go_wp2
    go_ret
    exact ⟨by rw [hfin.out]; rfl, (BEL_2).out⟩
  subst e
  obtain ⟨b5, y5⟩ : ∃ b, numB s.f4 2 (-1) 3 = b := ⟨_, rfl⟩
  have Y5 := Lib.hid y5
  clear y5
  have hfin : Hid (r = b5) := Lib.hid (by rw [← hr.out]; unfold stB; simp [Y0.out, Y1.out, Y2.out, Y3.out, Y4.out, Y5.out])
  clear hr
  go_enter Try.func88, Try.ntmps88
  go_wp2_with fail
  rw [← HW.out]
  refine (iprog_any h.A L h.c W B (RP_0).out (by omega) hl true Y0).mono ?_
  rintro e u0 ⟨rfl, hb⟩
  have sz_1 := (hb).size
  have P_1 := Lib.hid ((P_0).out.below hb (P_0).out.lt)
  clear P_0
  have S_1 := Lib.hid ((S_0).out.below hb (S_0).out.lt)
  clear S_0
  have RP_1 := Lib.hid ((RP_0).out.below hb (by omega))
  clear RP_0
  have RS_1 := Lib.hid ((RS_0).out.below hb (by omega))
  clear RS_0
  have BEL_1 := Lib.hid (below_on (BEL_0).out hb)
  clear BEL_0
  clear hb
  have c_P_0 : u0.cell? ⟨w.heap.size, 0, none⟩ = some (.slice h.A L.length h.c) := (P_1).out.cell 0
  have l_P : w.heap.size < u0.heap.size := (P_1).out.lt
  have c_S_0 : u0.cell? ⟨w.heap.size + 1, 0, none⟩ = some (.slice k.A0 s.f0.length k.c0) := (S_1).out.cell 0
  have c_S_1 : u0.cell? ⟨w.heap.size + 1, 1, none⟩ = some (.slice k.A1 s.f1.length k.c1) := (S_1).out.cell 1
  have c_S_2 : u0.cell? ⟨w.heap.size + 1, 2, none⟩ = some (.slice k.A2 s.f2.length k.c2) := (S_1).out.cell 2
  have c_S_3 : u0.cell? ⟨w.heap.size + 1, 3, none⟩ = some (.slice k.A3 s.f3.length k.c3) := (S_1).out.cell 3
  have c_S_4 : u0.cell? ⟨w.heap.size + 1, 4, none⟩ = some (.slice k.A4 s.f4.length k.c4) := (S_1).out.cell 4
  have l_S : w.heap.size + 1 < u0.heap.size := (S_1).out.lt
  go_wp2_with fail
  clear c_P_0 l_P c_S_0 c_S_1 c_S_2 c_S_3 c_S_4 l_S
  refine (atok_any h L k.A0 s.f0 k.c0 u0 B (RP_1).out (RS_1).out.r0 (by omega) hl l0 true Y1).mono ?_
  rintro e u1 ⟨rfl, hb⟩
  have sz_2 := (hb).size
  have P_2 := Lib.hid ((P_1).out.below hb (P_1).out.lt)
  clear P_1
  have S_2 := Lib.hid ((S_1).out.below hb (S_1).out.lt)
  clear S_1
  have RP_2 := Lib.hid ((RP_1).out.below hb (by omega))
  clear RP_1
  have RS_2 := Lib.hid ((RS_1).out.below hb (by omega))
  clear RS_1
  have BEL_2 := Lib.hid (below_on (BEL_1).out hb)
  clear BEL_1
  clear hb
  have c_P_0 : u1.cell? ⟨w.heap.size, 0, none⟩ = some (.slice h.A L.length h.c) := (P_2).out.cell 0
  have l_P : w.heap.size < u1.heap.size := (P_2).out.lt
  have c_S_0 : u1.cell? ⟨w.heap.size + 1, 0, none⟩ = some (.slice k.A0 s.f0.length k.c0) := (S_2).out.cell 0
  have c_S_1 : u1.cell? ⟨w.heap.size + 1, 1, none⟩ = some (.slice k.A1 s.f1.length k.c1) := (S_2).out.cell 1
  have c_S_2 : u1.cell? ⟨w.heap.size + 1, 2, none⟩ = some (.slice k.A2 s.f2.length k.c2) := (S_2).out.cell 2
  have c_S_3 : u1.cell? ⟨w.heap.size + 1, 3, none⟩ = some (.slice k.A3 s.f3.length k.c3) := (S_2).out.cell 3
  have c_S_4 : u1.cell? ⟨w.heap.size + 1, 4, none⟩ = some (.slice k.A4 s.f4.length k.c4) := (S_2).out.cell 4
  have l_S : w.heap.size + 1 < u1.heap.size := (S_2).out.lt
  go_wp2_with fail
  clear c_P_0 l_P c_S_0 c_S_1 c_S_2 c_S_3 c_S_4 l_S
  refine (numok_any k.A1 s.f1 k.c1 _ _ _ u1 B (RS_2).out.r1 l1 true Y2).mono ?_
  rintro e w' ⟨rfl, rfl⟩
  have c_P_0 : u1.cell? ⟨w.heap.size, 0, none⟩ = some (.slice h.A L.length h.c) := (P_2).out.cell 0
  have l_P : w.heap.size < u1.heap.size := (P_2).out.lt
  have c_S_0 : u1.cell? ⟨w.heap.size + 1, 0, none⟩ = some (.slice k.A0 s.f0.length k.c0) := (S_2).out.cell 0
  have c_S_1 : u1.cell? ⟨w.heap.size + 1, 1, none⟩ = some (.slice k.A1 s.f1.length k.c1) := (S_2).out.cell 1
  have c_S_2 : u1.cell? ⟨w.heap.size + 1, 2, none⟩ = some (.slice k.A2 s.f2.length k.c2) := (S_2).out.cell 2
  have c_S_3 : u1.cell? ⟨w.heap.size + 1, 3, none⟩ = some (.slice k.A3 s.f3.length k.c3) := (S_2).out.cell 3
  have c_S_4 : u1.cell? ⟨w.heap.size + 1, 4, none⟩ = some (.slice k.A4 s.f4.length k.c4) := (S_2).out.cell 4
  have l_S : w.heap.size + 1 < u1.heap.size := (S_2).out.lt
  go_wp2_with fail
  clear c_P_0 l_P c_S_0 c_S_1 c_S_2 c_S_3 c_S_4 l_S
  refine (numok_any k.A2 s.f2 k.c2 _ _ _ u1 B (RS_2).out.r2 l2 true Y3).mono ?_
  rintro e w' ⟨rfl, rfl⟩
  have c_P_0 : u1.cell? ⟨w.heap.size, 0, none⟩ = some (.slice h.A L.length h.c) := (P_2).out.cell 0
  have l_P : w.heap.size < u1.heap.size := (P_2).out.lt
  have c_S_0 : u1.cell? ⟨w.heap.size + 1, 0, none⟩ = some (.slice k.A0 s.f0.length k.c0) := (S_2).out.cell 0
  have c_S_1 : u1.cell? ⟨w.heap.size + 1, 1, none⟩ = some (.slice k.A1 s.f1.length k.c1) := (S_2).out.cell 1
  have c_S_2 : u1.cell? ⟨w.heap.size + 1, 2, none⟩ = some (.slice k.A2 s.f2.length k.c2) := (S_2).out.cell 2
  have c_S_3 : u1.cell? ⟨w.heap.size + 1, 3, none⟩ = some (.slice k.A3 s.f3.length k.c3) := (S_2).out.cell 3
  have c_S_4 : u1.cell? ⟨w.heap.size + 1, 4, none⟩ = some (.slice k.A4 s.f4.length k.c4) := (S_2).out.cell 4
  have l_S : w.heap.size + 1 < u1.heap.size := (S_2).out.lt
  go_wp2_with fail
  clear c_P_0 l_P c_S_0 c_S_1 c_S_2 c_S_3 c_S_4 l_S
  refine (numok_any k.A3 s.f3 k.c3 _ _ _ u1 B (RS_2).out.r3 l3 true Y4).mono ?_
  rintro e w' ⟨rfl, rfl⟩
  have c_P_0 : u1.cell? ⟨w.heap.size, 0, none⟩ = some (.slice h.A L.length h.c) := (P_2).out.cell 0
  have l_P : w.heap.size < u1.heap.size := (P_2).out.lt
  have c_S_0 : u1.cell? ⟨w.heap.size + 1, 0, none⟩ = some (.slice k.A0 s.f0.length k.c0) := (S_2).out.cell 0
  have c_S_1 : u1.cell? ⟨w.heap.size + 1, 1, none⟩ = some (.slice k.A1 s.f1.length k.c1) := (S_2).out.cell 1
  have c_S_2 : u1.cell? ⟨w.heap.size + 1, 2, none⟩ = some (.slice k.A2 s.f2.length k.c2) := (S_2).out.cell 2
  have c_S_3 : u1.cell? ⟨w.heap.size + 1, 3, none⟩ = some (.slice k.A3 s.f3.length k.c3) := (S_2).out.cell 3
  have c_S_4 : u1.cell? ⟨w.heap.size + 1, 4, none⟩ = some (.slice k.A4 s.f4.length k.c4) := (S_2).out.cell 4
  have l_S : w.heap.size + 1 < u1.heap.size := (S_2).out.lt
  go_wp2_with fail
  clear c_P_0 l_P c_S_0 c_S_1 c_S_2 c_S_3 c_S_4 l_S
  refine (numok_any k.A4 s.f4 k.c4 _ _ _ u1 B (RS_2).out.r4 l4 b5 Y5).mono ?_
  rintro e w' ⟨rfl, rfl⟩
  go_wp2
  go_ret
  exact ⟨by rw [hfin.out]; rfl, (BEL_2).out⟩
theorem sstok_any (h : PgH) (L : Pg) (k : StaH) (s : Sta) (w : World) (B : Nat) (hP : PgR w B h L) (hS : StaR w B k s) (hB : B ≤ w.heap.size) (SP : PgS L) (LS : StaS s) (r : Bool) (hr : Hid (stB L s = r)) :
    Calls Try.prog 80 #[PgV h L, StaV k s] w fun e w' => e = .returned (.bool r) ∧ Below w.heap.size w w' := by
  have LP := PgS_L SP
  have LS := StaS_L LS
  obtain ⟨l0, l1, l2, l3, l4⟩ := LS
  have hl := LP.l
  obtain ⟨W, hW⟩ : ∃ W, W = (w.alloc (.cells #[.slice h.A L.length h.c] 32)).alloc (.cells #[.slice k.A0 s.f0.length k.c0, .slice k.A1 s.f1.length k.c1, .slice k.A2 s.f2.length k.c2, .slice k.A3 s.f3.length k.c3, .slice k.A4 s.f4.length k.c4] 50) := ⟨_, rfl⟩
  have hbW : Below w.heap.size w W := by rw [hW]; go_grown
  have hsW : W.heap.size = w.heap.size + 1 + 1 := by rw [hW]; simp
  have kp : Bk W w.heap.size 32 #[.slice h.A L.length h.c] := by rw [hW]; exact (Bk.new w _ _).alloc _
  have ks : Bk W (w.heap.size + 1) 50 #[.slice k.A0 s.f0.length k.c0, .slice k.A1 s.f1.length k.c1, .slice k.A2 s.f2.length k.c2, .slice k.A3 s.f3.length k.c3, .slice k.A4 s.f4.length k.c4] := by
    rw [hW]; have := Bk.new (w.alloc (.cells #[.slice h.A L.length h.c] 32)) #[.slice k.A0 s.f0.length k.c0, .slice k.A1 s.f1.length k.c1, .slice k.A2 s.f2.length k.c2, .slice k.A3 s.f3.length k.c3, .slice k.A4 s.f4.length k.c4] 50
    rwa [World.size_alloc] at this
  have HW := Lib.hid hW
  have P_0 := Lib.hid (kp)
  have S_0 := Lib.hid (ks)
  have RP_0 := Lib.hid (hP.below hbW hB)
  have RS_0 := Lib.hid (hS.below hbW hB)
  have BEL_0 := Lib.hid (hbW)
  have hsWa := Nat.le_of_eq hsW
  have hsWb := Nat.le_of_eq hsW.symm
  clear hW hsW hbW kp ks hP hS
  obtain ⟨b0, y0⟩ : ∃ b, progB L = b := ⟨_, rfl⟩
  have Y0 := Lib.hid y0
  clear y0
  rcases Bool.eq_false_or_eq_true b0 with e | e
  rotate_left
  · subst e
    have hfin : Hid (r = false) := Lib.hid (by rw [← hr.out]; unfold stB; simp [Y0.out])
    clear hr
    go_enter Try.func80, Try.ntmps80
    go_wp2_with fail
    rw [← HW.out]
    refine (sprog_any h.A L h.c W B (RP_0).out (by omega) SP.l (Lib.hid SP.e) false Y0).mono ?_
    rintro e u0 ⟨rfl, hb⟩
    have sz_1 := (hb).size
    have P_1 := Lib.hid ((P_0).out.below hb (P_0).out.lt)
    clear P_0
    have S_1 := Lib.hid ((S_0).out.below hb (S_0).out.lt)
    clear S_0
    have RP_1 := Lib.hid ((RP_0).out.below hb (by omega))
    clear RP_0
    have RS_1 := Lib.hid ((RS_0).out.below hb (by omega))
    clear RS_0
    have BEL_1 := Lib.hid (below_on (BEL_0).out hb)
    clear BEL_0
    clear hb
    go_wp2
    go_ret
    exact ⟨by rw [hfin.out]; rfl, (BEL_1).out⟩
  subst e
  have h3 := prog_len Y0.out
  have h31 : 1 ≤ L.length := h3.1
  have h32 : L.length ≤ 3 := h3.2
  clear h3
  obtain ⟨b1, y1⟩ : ∃ b, atZ L s.f0 = b := ⟨_, rfl⟩
  have Y1 := Lib.hid y1
  clear y1
  rcases Bool.eq_false_or_eq_true b1 with e | e
  rotate_left
  · subst e
    have hfin : Hid (r = false) := Lib.hid (by rw [← hr.out]; unfold stB; simp [Y0.out, Y1.out])
    clear hr
    go_enter Try.func80, Try.ntmps80
    go_wp2_with fail
    rw [← HW.out]
    refine (sprog_any h.A L h.c W B (RP_0).out (by omega) SP.l (Lib.hid SP.e) true Y0).mono ?_
    rintro e u0 ⟨rfl, hb⟩
    have sz_1 := (hb).size
    have P_1 := Lib.hid ((P_0).out.below hb (P_0).out.lt)
    clear P_0
    have S_1 := Lib.hid ((S_0).out.below hb (S_0).out.lt)
    clear S_0
    have RP_1 := Lib.hid ((RP_0).out.below hb (by omega))
    clear RP_0
    have RS_1 := Lib.hid ((RS_0).out.below hb (by omega))
    clear RS_0
    have BEL_1 := Lib.hid (below_on (BEL_0).out hb)
    clear BEL_0
    clear hb
    have c_P_0 : u0.cell? ⟨w.heap.size, 0, none⟩ = some (.slice h.A L.length h.c) := (P_1).out.cell 0
    have l_P : w.heap.size < u0.heap.size := (P_1).out.lt
    have c_S_0 : u0.cell? ⟨w.heap.size + 1, 0, none⟩ = some (.slice k.A0 s.f0.length k.c0) := (S_1).out.cell 0
    have c_S_1 : u0.cell? ⟨w.heap.size + 1, 1, none⟩ = some (.slice k.A1 s.f1.length k.c1) := (S_1).out.cell 1
    have c_S_2 : u0.cell? ⟨w.heap.size + 1, 2, none⟩ = some (.slice k.A2 s.f2.length k.c2) := (S_1).out.cell 2
    have c_S_3 : u0.cell? ⟨w.heap.size + 1, 3, none⟩ = some (.slice k.A3 s.f3.length k.c3) := (S_1).out.cell 3
    have c_S_4 : u0.cell? ⟨w.heap.size + 1, 4, none⟩ = some (.slice k.A4 s.f4.length k.c4) := (S_1).out.cell 4
    have l_S : w.heap.size + 1 < u0.heap.size := (S_1).out.lt
    by_cases hn : s.f0.length = L.length
    rotate_left
    · have hn' : ((s.f0.length : Int) != (L.length : Int)) = true := by simp; omega
      clear hn
      go_wp2
      go_ret
      exact ⟨by rw [hfin.out]; rfl, (BEL_1).out⟩
    have hn' : ((s.f0.length : Int) != (L.length : Int)) = false := by simp [hn]
    have hle : s.f0.length ≤ L.length := by omega
    have hge : L.length ≤ s.f0.length := by omega
    clear hn
    go_wp2_with fail
    have V0 := Lib.hid (RS_1).out.r0
    have V1 := RP_1
    obtain ⟨wo, rfl⟩ : ∃ V, V = u0 := ⟨_, rfl⟩
    go_loopw [6] (fun i wr => ∃ m : Nat, m ≤ L.length ∧ i = .int .i64 m ∧ Below wo.heap.size wo wr ∧ (∀ b o, wr.cell? ⟨b, o, none⟩ = wo.cell? ⟨b, o, none⟩) ∧ Hid (atZ (L.drop m) (s.f0.drop m) = false)) (fun i _ => L.length - (intOf i).toNat)
    case atStart => exact ⟨0, Nat.zero_le _, rfl, Below.refl _ _, fun _ _ => rfl, by simpa using Y1⟩
    case round =>
      obtain ⟨m, hm, rfl, hbel, hsame, hrest⟩ := hrel
      have hsz := hbel.size
      have d_P_0 := (hsame _ _).trans c_P_0
      have d_S_0 := (hsame _ _).trans c_S_0
      have d_S_1 := (hsame _ _).trans c_S_1
      have d_S_2 := (hsame _ _).trans c_S_2
      have d_S_3 := (hsame _ _).trans c_S_3
      have d_S_4 := (hsame _ _).trans c_S_4
      clear c_P_0 l_P c_S_0 c_S_1 c_S_2 c_S_3 c_S_4 l_S hn'
      by_cases hlt : m < L.length
      · obtain ⟨b, off, x, hA0, hb, hx, hd, hx0⟩ := (V0.out.keepV fun b o _ => hsame b o).int_ (show m < s.f0.length by omega)
        obtain ⟨b2, off2, ys, Ai, ci, hA, hb2, -, hd2, hc2, -, hmy, -⟩ := Rows2.at_ (Rows2.keep V1.out (Nat.le_refl _) fun b o _ => hsame b o) hlt
        have Hd := Lib.hid hd
        have Hd2 := Lib.hid hd2
        have hi2 : (m : Int) < (L.length : Int) := by omega
        have hi1 : (m : Int) < (s.f0.length : Int) := by omega
        unfold maxLen at hmy
        rw [hA0] at d_S_0
        rw [hA] at d_P_0
        have Hsame := Lib.hid hsame
        clear hd hx hd2 hA hA0 hsame
        rcases Bool.eq_false_or_eq_true (inB x 0 ys.length) with he | he
        all_goals
          have He := Lib.hid he
          clear he
          go_wp2
          go_quiet ((go_at_call 47; exact Calls.quiet_of_same ((l1In_b _ _ _ _ _ He).mono fun _ _ h => ⟨h.1, h.2.symm⟩)))
          go_wp2
        · go_roundw
          case rel => exact ⟨m + 1, by omega, by go_num, below_drewN hbel _, fun b o => Hsame.out b o, Lib.hid (by
            have := hrest.out
            rw [Hd.out, Hd2.out, atZ, He.out] at this
            simpa using this)⟩
          case measure => simp [intOf]; omega
        · go_ret
          exact ⟨by rw [hfin.out]; rfl, below_on (BEL_1).out (below_drewN hbel _)⟩
      · exfalso
        have := hrest.out
        rw [List.drop_eq_nil_of_le (by omega), List.drop_eq_nil_of_le (by omega)] at this
        simp [atZ] at this
  subst e
  obtain ⟨b2, y2⟩ : ∃ b, numB s.f1 ((L.length : Int) * 3) 0 3 = b := ⟨_, rfl⟩
  have Y2 := Lib.hid y2
  clear y2
  rcases Bool.eq_false_or_eq_true b2 with e | e
  rotate_left
  · subst e
    have hfin : Hid (r = false) := Lib.hid (by rw [← hr.out]; unfold stB; simp [Y0.out, Y1.out, Y2.out])
    clear hr
    go_enter Try.func80, Try.ntmps80
    go_wp2_with fail
    rw [← HW.out]
    refine (sprog_any h.A L h.c W B (RP_0).out (by omega) SP.l (Lib.hid SP.e) true Y0).mono ?_
    rintro e u0 ⟨rfl, hb⟩
    have sz_1 := (hb).size
    have P_1 := Lib.hid ((P_0).out.below hb (P_0).out.lt)
    clear P_0
    have S_1 := Lib.hid ((S_0).out.below hb (S_0).out.lt)
    clear S_0
    have RP_1 := Lib.hid ((RP_0).out.below hb (by omega))
    clear RP_0
    have RS_1 := Lib.hid ((RS_0).out.below hb (by omega))
    clear RS_0
    have BEL_1 := Lib.hid (below_on (BEL_0).out hb)
    clear BEL_0
    clear hb
    have c_P_0 : u0.cell? ⟨w.heap.size, 0, none⟩ = some (.slice h.A L.length h.c) := (P_1).out.cell 0
    have l_P : w.heap.size < u0.heap.size := (P_1).out.lt
    have c_S_0 : u0.cell? ⟨w.heap.size + 1, 0, none⟩ = some (.slice k.A0 s.f0.length k.c0) := (S_1).out.cell 0
    have c_S_1 : u0.cell? ⟨w.heap.size + 1, 1, none⟩ = some (.slice k.A1 s.f1.length k.c1) := (S_1).out.cell 1
    have c_S_2 : u0.cell? ⟨w.heap.size + 1, 2, none⟩ = some (.slice k.A2 s.f2.length k.c2) := (S_1).out.cell 2
    have c_S_3 : u0.cell? ⟨w.heap.size + 1, 3, none⟩ = some (.slice k.A3 s.f3.length k.c3) := (S_1).out.cell 3
    have c_S_4 : u0.cell? ⟨w.heap.size + 1, 4, none⟩ = some (.slice k.A4 s.f4.length k.c4) := (S_1).out.cell 4
    have l_S : w.heap.size + 1 < u0.heap.size := (S_1).out.lt
    have hn := atZ_len Y1.out
    have hn' : ((s.f0.length : Int) != (L.length : Int)) = false := by simp [hn]
    have hle : s.f0.length ≤ L.length := by omega
    have hge : L.length ≤ s.f0.length := by omega
    clear hn
    go_wp2_with fail
    have V0 := Lib.hid (RS_1).out.r0
    have V1 := RP_1
    obtain ⟨wo, rfl⟩ : ∃ V, V = u0 := ⟨_, rfl⟩
    go_loopw [6] (fun i wr => ∃ m : Nat, m ≤ L.length ∧ i = .int .i64 m ∧ Below wo.heap.size wo wr ∧ (∀ b o, wr.cell? ⟨b, o, none⟩ = wo.cell? ⟨b, o, none⟩) ∧ Hid (atZ (L.drop m) (s.f0.drop m) = true)) (fun i _ => L.length - (intOf i).toNat)
    case atStart => exact ⟨0, Nat.zero_le _, rfl, Below.refl _ _, fun _ _ => rfl, by simpa using Y1⟩
    case round =>
      obtain ⟨m, hm, rfl, hbel, hsame, hrest⟩ := hrel
      have hsz := hbel.size
      have d_P_0 := (hsame _ _).trans c_P_0
      have d_S_0 := (hsame _ _).trans c_S_0
      have d_S_1 := (hsame _ _).trans c_S_1
      have d_S_2 := (hsame _ _).trans c_S_2
      have d_S_3 := (hsame _ _).trans c_S_3
      have d_S_4 := (hsame _ _).trans c_S_4
      clear c_P_0 l_P c_S_0 c_S_1 c_S_2 c_S_3 c_S_4 l_S hn'
      by_cases hlt : m < L.length
      · obtain ⟨b, off, x, hA0, hb, hx, hd, hx0⟩ := (V0.out.keepV fun b o _ => hsame b o).int_ (show m < s.f0.length by omega)
        obtain ⟨b2, off2, ys, Ai, ci, hA, hb2, -, hd2, hc2, -, hmy, -⟩ := Rows2.at_ (Rows2.keep V1.out (Nat.le_refl _) fun b o _ => hsame b o) hlt
        have Hd := Lib.hid hd
        have Hd2 := Lib.hid hd2
        have hi2 : (m : Int) < (L.length : Int) := by omega
        have hi1 : (m : Int) < (s.f0.length : Int) := by omega
        unfold maxLen at hmy
        rw [hA0] at d_S_0
        rw [hA] at d_P_0
        have Hsame := Lib.hid hsame
        clear hd hx hd2 hA hA0 hsame
        rcases Bool.eq_false_or_eq_true (inB x 0 ys.length) with he | he
        all_goals
          have He := Lib.hid he
          clear he
          go_wp2
          go_quiet ((go_at_call 47; exact Calls.quiet_of_same ((l1In_b _ _ _ _ _ He).mono fun _ _ h => ⟨h.1, h.2.symm⟩)))
          go_wp2
        · go_roundw
          case rel => exact ⟨m + 1, by omega, by go_num, below_drewN hbel _, fun b o => Hsame.out b o, Lib.hid (by
            have := hrest.out
            rw [Hd.out, Hd2.out, atZ, He.out] at this
            simpa using this)⟩
          case measure => simp [intOf]; omega
        · exfalso
          have := hrest.out
          rw [Hd.out, Hd2.out, atZ, He.out] at this
          simp at this
      · skip
        have RS' := Lib.hid ((RS_1).out.keepV fun b o _ => hsame b o)
        have BEL' := Lib.hid (below_on (BEL_1).out hbel)
        clear hsame
        go_wp2_with fail
        refine (all_any k.A1 s.f1 k.c1 _ _ _ _ B RS'.out.r1 l1 false Y2).mono ?_
        rintro e w' ⟨rfl, rfl⟩
        go_wp2
        go_ret
        exact ⟨by rw [hfin.out]; rfl, BEL'.out⟩
  subst e
  obtain ⟨b3, y3⟩ : ∃ b, numB s.f2 3 0 3 = b := ⟨_, rfl⟩
  have Y3 := Lib.hid y3
  clear y3
  rcases Bool.eq_false_or_eq_true b3 with e | e
  rotate_left
  · subst e
    have hfin : Hid (r = false) := Lib.hid (by rw [← hr.out]; unfold stB; simp [Y0.out, Y1.out, Y2.out, Y3.out])
    clear hr
    go_enter Try.func80, Try.ntmps80
    go_wp2_with fail
    rw [← HW.out]
    refine (sprog_any h.A L h.c W B (RP_0).out (by omega) SP.l (Lib.hid SP.e) true Y0).mono ?_
    rintro e u0 ⟨rfl, hb⟩
    have sz_1 := (hb).size
    have P_1 := Lib.hid ((P_0).out.below hb (P_0).out.lt)
    clear P_0
    have S_1 := Lib.hid ((S_0).out.below hb (S_0).out.lt)
    clear S_0
    have RP_1 := Lib.hid ((RP_0).out.below hb (by omega))
    clear RP_0
    have RS_1 := Lib.hid ((RS_0).out.below hb (by omega))
    clear RS_0
    have BEL_1 := Lib.hid (below_on (BEL_0).out hb)
    clear BEL_0
    clear hb
    have c_P_0 : u0.cell? ⟨w.heap.size, 0, none⟩ = some (.slice h.A L.length h.c) := (P_1).out.cell 0
    have l_P : w.heap.size < u0.heap.size := (P_1).out.lt
    have c_S_0 : u0.cell? ⟨w.heap.size + 1, 0, none⟩ = some (.slice k.A0 s.f0.length k.c0) := (S_1).out.cell 0
    have c_S_1 : u0.cell? ⟨w.heap.size + 1, 1, none⟩ = some (.slice k.A1 s.f1.length k.c1) := (S_1).out.cell 1
    have c_S_2 : u0.cell? ⟨w.heap.size + 1, 2, none⟩ = some (.slice k.A2 s.f2.length k.c2) := (S_1).out.cell 2
    have c_S_3 : u0.cell? ⟨w.heap.size + 1, 3, none⟩ = some (.slice k.A3 s.f3.length k.c3) := (S_1).out.cell 3
    have c_S_4 : u0.cell? ⟨w.heap.size + 1, 4, none⟩ = some (.slice k.A4 s.f4.length k.c4) := (S_1).out.cell 4
    have l_S : w.heap.size + 1 < u0.heap.size := (S_1).out.lt
    have hn := atZ_len Y1.out
    have hn' : ((s.f0.length : Int) != (L.length : Int)) = false := by simp [hn]
    have hle : s.f0.length ≤ L.length := by omega
    have hge : L.length ≤ s.f0.length := by omega
    clear hn
    go_wp2_with fail
    have V0 := Lib.hid (RS_1).out.r0
    have V1 := RP_1
    obtain ⟨wo, rfl⟩ : ∃ V, V = u0 := ⟨_, rfl⟩
    go_loopw [6] (fun i wr => ∃ m : Nat, m ≤ L.length ∧ i = .int .i64 m ∧ Below wo.heap.size wo wr ∧ (∀ b o, wr.cell? ⟨b, o, none⟩ = wo.cell? ⟨b, o, none⟩) ∧ Hid (atZ (L.drop m) (s.f0.drop m) = true)) (fun i _ => L.length - (intOf i).toNat)
    case atStart => exact ⟨0, Nat.zero_le _, rfl, Below.refl _ _, fun _ _ => rfl, by simpa using Y1⟩
    case round =>
      obtain ⟨m, hm, rfl, hbel, hsame, hrest⟩ := hrel
      have hsz := hbel.size
      have d_P_0 := (hsame _ _).trans c_P_0
      have d_S_0 := (hsame _ _).trans c_S_0
      have d_S_1 := (hsame _ _).trans c_S_1
      have d_S_2 := (hsame _ _).trans c_S_2
      have d_S_3 := (hsame _ _).trans c_S_3
      have d_S_4 := (hsame _ _).trans c_S_4
      clear c_P_0 l_P c_S_0 c_S_1 c_S_2 c_S_3 c_S_4 l_S hn'
      by_cases hlt : m < L.length
      · obtain ⟨b, off, x, hA0, hb, hx, hd, hx0⟩ := (V0.out.keepV fun b o _ => hsame b o).int_ (show m < s.f0.length by omega)
        obtain ⟨b2, off2, ys, Ai, ci, hA, hb2, -, hd2, hc2, -, hmy, -⟩ := Rows2.at_ (Rows2.keep V1.out (Nat.le_refl _) fun b o _ => hsame b o) hlt
        have Hd := Lib.hid hd
        have Hd2 := Lib.hid hd2
        have hi2 : (m : Int) < (L.length : Int) := by omega
        have hi1 : (m : Int) < (s.f0.length : Int) := by omega
        unfold maxLen at hmy
        rw [hA0] at d_S_0
        rw [hA] at d_P_0
        have Hsame := Lib.hid hsame
        clear hd hx hd2 hA hA0 hsame
        rcases Bool.eq_false_or_eq_true (inB x 0 ys.length) with he | he
        all_goals
          have He := Lib.hid he
          clear he
          go_wp2
          go_quiet ((go_at_call 47; exact Calls.quiet_of_same ((l1In_b _ _ _ _ _ He).mono fun _ _ h => ⟨h.1, h.2.symm⟩)))
          go_wp2
        · go_roundw
          case rel => exact ⟨m + 1, by omega, by go_num, below_drewN hbel _, fun b o => Hsame.out b o, Lib.hid (by
            have := hrest.out
            rw [Hd.out, Hd2.out, atZ, He.out] at this
            simpa using this)⟩
          case measure => simp [intOf]; omega
        · exfalso
          have := hrest.out
          rw [Hd.out, Hd2.out, atZ, He.out] at this
          simp at this
      · skip
        have RS' := Lib.hid ((RS_1).out.keepV fun b o _ => hsame b o)
        have BEL' := Lib.hid (below_on (BEL_1).out hbel)
        clear hsame
        go_wp2_with fail
        refine (all_any k.A1 s.f1 k.c1 _ _ _ _ B RS'.out.r1 l1 true Y2).mono ?_
        rintro e w' ⟨rfl, rfl⟩
        go_wp2_with fail
        refine (all_any k.A2 s.f2 k.c2 _ _ _ _ B RS'.out.r2 l2 false Y3).mono ?_
        rintro e w' ⟨rfl, rfl⟩
        go_wp2
        go_ret
        exact ⟨by rw [hfin.out]; rfl, BEL'.out⟩
  subst e
  obtain ⟨b4, y4⟩ : ∃ b, numB s.f3 2 (-1) ((L.length : Int) - 1) = b := ⟨_, rfl⟩
  have Y4 := Lib.hid y4
  clear y4
  rcases Bool.eq_false_or_eq_true b4 with e | e
  rotate_left
  · subst e
    have hfin : Hid (r = false) := Lib.hid (by rw [← hr.out]; unfold stB; simp [Y0.out, Y1.out, Y2.out, Y3.out, Y4.out])
    clear hr
    go_enter Try.func80, Try.ntmps80
    go_wp2_with fail
    rw [← HW.out]
    refine (sprog_any h.A L h.c W B (RP_0).out (by omega) SP.l (Lib.hid SP.e) true Y0).mono ?_
    rintro e u0 ⟨rfl, hb⟩
    have sz_1 := (hb).size
    have P_1 := Lib.hid ((P_0).out.below hb (P_0).out.lt)
    clear P_0
    have S_1 := Lib.hid ((S_0).out.below hb (S_0).out.lt)
    clear S_0
    have RP_1 := Lib.hid ((RP_0).out.below hb (by omega))
    clear RP_0
    have RS_1 := Lib.hid ((RS_0).out.below hb (by omega))
    clear RS_0
    have BEL_1 := Lib.hid (below_on (BEL_0).out hb)
    clear BEL_0
    clear hb
    have c_P_0 : u0.cell? ⟨w.heap.size, 0, none⟩ = some (.slice h.A L.length h.c) := (P_1).out.cell 0
    have l_P : w.heap.size < u0.heap.size := (P_1).out.lt
    have c_S_0 : u0.cell? ⟨w.heap.size + 1, 0, none⟩ = some (.slice k.A0 s.f0.length k.c0) := (S_1).out.cell 0
    have c_S_1 : u0.cell? ⟨w.heap.size + 1, 1, none⟩ = some (.slice k.A1 s.f1.length k.c1) := (S_1).out.cell 1
    have c_S_2 : u0.cell? ⟨w.heap.size + 1, 2, none⟩ = some (.slice k.A2 s.f2.length k.c2) := (S_1).out.cell 2
    have c_S_3 : u0.cell? ⟨w.heap.size + 1, 3, none⟩ = some (.slice k.A3 s.f3.length k.c3) := (S_1).out.cell 3
    have c_S_4 : u0.cell? ⟨w.heap.size + 1, 4, none⟩ = some (.slice k.A4 s.f4.length k.c4) := (S_1).out.cell 4
    have l_S : w.heap.size + 1 < u0.heap.size := (S_1).out.lt
    have hn := atZ_len Y1.out
    have hn' : ((s.f0.length : Int) != (L.length : Int)) = false := by simp [hn]
    have hle : s.f0.length ≤ L.length := by omega
    have hge : L.length ≤ s.f0.length := by omega
    clear hn
    go_wp2_with fail
    have V0 := Lib.hid (RS_1).out.r0
    have V1 := RP_1
    obtain ⟨wo, rfl⟩ : ∃ V, V = u0 := ⟨_, rfl⟩
    go_loopw [6] (fun i wr => ∃ m : Nat, m ≤ L.length ∧ i = .int .i64 m ∧ Below wo.heap.size wo wr ∧ (∀ b o, wr.cell? ⟨b, o, none⟩ = wo.cell? ⟨b, o, none⟩) ∧ Hid (atZ (L.drop m) (s.f0.drop m) = true)) (fun i _ => L.length - (intOf i).toNat)
    case atStart => exact ⟨0, Nat.zero_le _, rfl, Below.refl _ _, fun _ _ => rfl, by simpa using Y1⟩
    case round =>
      obtain ⟨m, hm, rfl, hbel, hsame, hrest⟩ := hrel
      have hsz := hbel.size
      have d_P_0 := (hsame _ _).trans c_P_0
      have d_S_0 := (hsame _ _).trans c_S_0
      have d_S_1 := (hsame _ _).trans c_S_1
      have d_S_2 := (hsame _ _).trans c_S_2
      have d_S_3 := (hsame _ _).trans c_S_3
      have d_S_4 := (hsame _ _).trans c_S_4
      clear c_P_0 l_P c_S_0 c_S_1 c_S_2 c_S_3 c_S_4 l_S hn'
      by_cases hlt : m < L.length
      · obtain ⟨b, off, x, hA0, hb, hx, hd, hx0⟩ := (V0.out.keepV fun b o _ => hsame b o).int_ (show m < s.f0.length by omega)
        obtain ⟨b2, off2, ys, Ai, ci, hA, hb2, -, hd2, hc2, -, hmy, -⟩ := Rows2.at_ (Rows2.keep V1.out (Nat.le_refl _) fun b o _ => hsame b o) hlt
        have Hd := Lib.hid hd
        have Hd2 := Lib.hid hd2
        have hi2 : (m : Int) < (L.length : Int) := by omega
        have hi1 : (m : Int) < (s.f0.length : Int) := by omega
        unfold maxLen at hmy
        rw [hA0] at d_S_0
        rw [hA] at d_P_0
        have Hsame := Lib.hid hsame
        clear hd hx hd2 hA hA0 hsame
        rcases Bool.eq_false_or_eq_true (inB x 0 ys.length) with he | he
        all_goals
          have He := Lib.hid he
          clear he
          go_wp2
          go_quiet ((go_at_call 47; exact Calls.quiet_of_same ((l1In_b _ _ _ _ _ He).mono fun _ _ h => ⟨h.1, h.2.symm⟩)))
          go_wp2
        · go_roundw
          case rel => exact ⟨m + 1, by omega, by go_num, below_drewN hbel _, fun b o => Hsame.out b o, Lib.hid (by
            have := hrest.out
            rw [Hd.out, Hd2.out, atZ, He.out] at this
            simpa using this)⟩
          case measure => simp [intOf]; omega
        · exfalso
          have := hrest.out
          rw [Hd.out, Hd2.out, atZ, He.out] at this
          simp at this
      · skip
        have RS' := Lib.hid ((RS_1).out.keepV fun b o _ => hsame b o)
        have BEL' := Lib.hid (below_on (BEL_1).out hbel)
        clear hsame
        go_wp2_with fail
        refine (all_any k.A1 s.f1 k.c1 _ _ _ _ B RS'.out.r1 l1 true Y2).mono ?_
        rintro e w' ⟨rfl, rfl⟩
        go_wp2_with fail
        refine (all_any k.A2 s.f2 k.c2 _ _ _ _ B RS'.out.r2 l2 true Y3).mono ?_
        rintro e w' ⟨rfl, rfl⟩
        go_wp2_with fail
        refine (all_any k.A3 s.f3 k.c3 _ _ _ _ B RS'.out.r3 l3 false Y4).mono ?_
        rintro e w' ⟨rfl, rfl⟩
        go_wp2
        go_ret
        exact ⟨by rw [hfin.out]; rfl, BEL'.out⟩
  subst e
  obtain ⟨b5, y5⟩ : ∃ b, numB s.f4 2 (-1) 3 = b := ⟨_, rfl⟩
  have Y5 := Lib.hid y5
  clear y5
  have hfin : Hid (r = b5) := Lib.hid (by rw [← hr.out]; unfold stB; simp [Y0.out, Y1.out, Y2.out, Y3.out, Y4.out, Y5.out])
  clear hr
  go_enter Try.func80, Try.ntmps80
  go_wp2_with fail
  rw [← HW.out]
  refine (sprog_any h.A L h.c W B (RP_0).out (by omega) SP.l (Lib.hid SP.e) true Y0).mono ?_
  rintro e u0 ⟨rfl, hb⟩
  have sz_1 := (hb).size
  have P_1 := Lib.hid ((P_0).out.below hb (P_0).out.lt)
  clear P_0
  have S_1 := Lib.hid ((S_0).out.below hb (S_0).out.lt)
  clear S_0
  have RP_1 := Lib.hid ((RP_0).out.below hb (by omega))
  clear RP_0
  have RS_1 := Lib.hid ((RS_0).out.below hb (by omega))
  clear RS_0
  have BEL_1 := Lib.hid (below_on (BEL_0).out hb)
  clear BEL_0
  clear hb
  have c_P_0 : u0.cell? ⟨w.heap.size, 0, none⟩ = some (.slice h.A L.length h.c) := (P_1).out.cell 0
  have l_P : w.heap.size < u0.heap.size := (P_1).out.lt
  have c_S_0 : u0.cell? ⟨w.heap.size + 1, 0, none⟩ = some (.slice k.A0 s.f0.length k.c0) := (S_1).out.cell 0
  have c_S_1 : u0.cell? ⟨w.heap.size + 1, 1, none⟩ = some (.slice k.A1 s.f1.length k.c1) := (S_1).out.cell 1
  have c_S_2 : u0.cell? ⟨w.heap.size + 1, 2, none⟩ = some (.slice k.A2 s.f2.length k.c2) := (S_1).out.cell 2
  have c_S_3 : u0.cell? ⟨w.heap.size + 1, 3, none⟩ = some (.slice k.A3 s.f3.length k.c3) := (S_1).out.cell 3
  have c_S_4 : u0.cell? ⟨w.heap.size + 1, 4, none⟩ = some (.slice k.A4 s.f4.length k.c4) := (S_1).out.cell 4
  have l_S : w.heap.size + 1 < u0.heap.size := (S_1).out.lt
  have hn := atZ_len Y1.out
  have hn' : ((s.f0.length : Int) != (L.length : Int)) = false := by simp [hn]
  have hle : s.f0.length ≤ L.length := by omega
  have hge : L.length ≤ s.f0.length := by omega
  clear hn
  go_wp2_with fail
  have V0 := Lib.hid (RS_1).out.r0
  have V1 := RP_1
  obtain ⟨wo, rfl⟩ : ∃ V, V = u0 := ⟨_, rfl⟩
  go_loopw [6] (fun i wr => ∃ m : Nat, m ≤ L.length ∧ i = .int .i64 m ∧ Below wo.heap.size wo wr ∧ (∀ b o, wr.cell? ⟨b, o, none⟩ = wo.cell? ⟨b, o, none⟩) ∧ Hid (atZ (L.drop m) (s.f0.drop m) = true)) (fun i _ => L.length - (intOf i).toNat)
  case atStart => exact ⟨0, Nat.zero_le _, rfl, Below.refl _ _, fun _ _ => rfl, by simpa using Y1⟩
  case round =>
    obtain ⟨m, hm, rfl, hbel, hsame, hrest⟩ := hrel
    have hsz := hbel.size
    have d_P_0 := (hsame _ _).trans c_P_0
    have d_S_0 := (hsame _ _).trans c_S_0
    have d_S_1 := (hsame _ _).trans c_S_1
    have d_S_2 := (hsame _ _).trans c_S_2
    have d_S_3 := (hsame _ _).trans c_S_3
    have d_S_4 := (hsame _ _).trans c_S_4
    clear c_P_0 l_P c_S_0 c_S_1 c_S_2 c_S_3 c_S_4 l_S hn'
    by_cases hlt : m < L.length
    · obtain ⟨b, off, x, hA0, hb, hx, hd, hx0⟩ := (V0.out.keepV fun b o _ => hsame b o).int_ (show m < s.f0.length by omega)
      obtain ⟨b2, off2, ys, Ai, ci, hA, hb2, -, hd2, hc2, -, hmy, -⟩ := Rows2.at_ (Rows2.keep V1.out (Nat.le_refl _) fun b o _ => hsame b o) hlt
      have Hd := Lib.hid hd
      have Hd2 := Lib.hid hd2
      have hi2 : (m : Int) < (L.length : Int) := by omega
      have hi1 : (m : Int) < (s.f0.length : Int) := by omega
      unfold maxLen at hmy
      rw [hA0] at d_S_0
      rw [hA] at d_P_0
      have Hsame := Lib.hid hsame
      clear hd hx hd2 hA hA0 hsame
      rcases Bool.eq_false_or_eq_true (inB x 0 ys.length) with he | he
      all_goals
        have He := Lib.hid he
        clear he
        go_wp2
        go_quiet ((go_at_call 47; exact Calls.quiet_of_same ((l1In_b _ _ _ _ _ He).mono fun _ _ h => ⟨h.1, h.2.symm⟩)))
        go_wp2
      · go_roundw
        case rel => exact ⟨m + 1, by omega, by go_num, below_drewN hbel _, fun b o => Hsame.out b o, Lib.hid (by
          have := hrest.out
          rw [Hd.out, Hd2.out, atZ, He.out] at this
          simpa using this)⟩
        case measure => simp [intOf]; omega
      · exfalso
        have := hrest.out
        rw [Hd.out, Hd2.out, atZ, He.out] at this
        simp at this
    · skip
      have RS' := Lib.hid ((RS_1).out.keepV fun b o _ => hsame b o)
      have BEL' := Lib.hid (below_on (BEL_1).out hbel)
      clear hsame
      go_wp2_with fail
      refine (all_any k.A1 s.f1 k.c1 _ _ _ _ B RS'.out.r1 l1 true Y2).mono ?_
      rintro e w' ⟨rfl, rfl⟩
      go_wp2_with fail
      refine (all_any k.A2 s.f2 k.c2 _ _ _ _ B RS'.out.r2 l2 true Y3).mono ?_
      rintro e w' ⟨rfl, rfl⟩
      go_wp2_with fail
      refine (all_any k.A3 s.f3 k.c3 _ _ _ _ B RS'.out.r3 l3 true Y4).mono ?_
      rintro e w' ⟨rfl, rfl⟩
      go_wp2_with fail
      refine (all_any k.A4 s.f4 k.c4 _ _ _ _ B RS'.out.r4 l4 b5 Y5).mono ?_
      rintro e w' ⟨rfl, rfl⟩
      go_wp2
      go_ret
      exact ⟨by rw [hfin.out]; rfl, BEL'.out⟩
end Go.Proofs.Ytaghidaamcnpkab
