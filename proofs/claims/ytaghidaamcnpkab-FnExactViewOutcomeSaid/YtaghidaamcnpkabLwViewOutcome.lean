/-
  The walk of the law on ViewOutcome: it comes to true, whatever the arguments and the memory, and leaves all memory that was there as it was.
-/
import Derived.Test.YtaghidaamcnpkabSNOt
import Derived.Test.YtaghidaamcnpkabCutP
import Derived.Test.YtaghidaamcnpkabVwdM
import Derived.Deep.RegionHeld3
import Derived.Deep.DeepCutAuto
namespace Go.Proofs.Ytaghidaamcnpkab
open Go.RowKit Pl Go.BigFrame
set_option maxHeartbeats 16000000
set_option maxRecDepth 100000
set_option linter.unusedVariables false

theorem vwoE_small {L : Pg} {o : Vwd} (h : PgS L) (_ : VwdS o) : OcS (vwoE L o) := by
  unfold vwoE
  split
  · rename_i hc
    have h3 := prog_len (vwB_parts hc).st.prog
    exact ⟨by simp [ocF, fldI_length]; omega, by simp [ocF, fldI_length], by simp [ocF]; omega⟩
  · exact ⟨by simp [OcE], by simp [OcE], by simp [OcE]⟩
theorem lwViewOutcome (h0 : PgH) (o0 : Pg) (h1 : VwdH) (o1 : Vwd) (w : World) (hR0 : PgR w w.heap.size h0 o0) (hL0 : PgL o0 maxLen) (hR1 : VwdR w w.heap.size h1 o1) (hL1 : VwdL o1 maxLen) :
    Calls Try.prog 5 #[PgV h0 o0, VwdV h1 o1] w fun e w' => e = .returned (.bool true) ∧ Below w.heap.size w w' := by
  obtain ⟨W, hW⟩ : ∃ W, W = ((w.alloc (.cells #[.slice h0.A o0.length h0.c] 24)).alloc (.cells #[.slice h1.h.A0 o1.st.f0.length h1.h.c0, .slice h1.h.A1 o1.st.f1.length h1.h.c1, .slice h1.h.A2 o1.st.f2.length h1.h.c2, .slice h1.h.A3 o1.st.f3.length h1.h.c3, .slice h1.h.A4 o1.st.f4.length h1.h.c4, .slice h1.n.A o1.n.length h1.n.c, .slice h1.v.A o1.v.length h1.v.c, .slice h1.l.A o1.l.length h1.l.c, .slice h1.k.A o1.k.length h1.k.c, .slice h1.f.A o1.f.length h1.f.c] 47)) := ⟨_, rfl⟩
  have hbW : Below w.heap.size w W := by rw [hW]; go_grown
  have hsW : W.heap.size = w.heap.size + 1 + 1 := by rw [hW]; simp
  have k0 : Bk W (w.heap.size) 24 #[.slice h0.A o0.length h0.c] := by
    rw [hW]; have := (Bk.new w #[.slice h0.A o0.length h0.c] 24).alloc (.cells #[.slice h1.h.A0 o1.st.f0.length h1.h.c0, .slice h1.h.A1 o1.st.f1.length h1.h.c1, .slice h1.h.A2 o1.st.f2.length h1.h.c2, .slice h1.h.A3 o1.st.f3.length h1.h.c3, .slice h1.h.A4 o1.st.f4.length h1.h.c4, .slice h1.n.A o1.n.length h1.n.c, .slice h1.v.A o1.v.length h1.v.c, .slice h1.l.A o1.l.length h1.l.c, .slice h1.k.A o1.k.length h1.k.c, .slice h1.f.A o1.f.length h1.f.c] 47)
    exact this
  have k1 : Bk W (w.heap.size + 1) 47 #[.slice h1.h.A0 o1.st.f0.length h1.h.c0, .slice h1.h.A1 o1.st.f1.length h1.h.c1, .slice h1.h.A2 o1.st.f2.length h1.h.c2, .slice h1.h.A3 o1.st.f3.length h1.h.c3, .slice h1.h.A4 o1.st.f4.length h1.h.c4, .slice h1.n.A o1.n.length h1.n.c, .slice h1.v.A o1.v.length h1.v.c, .slice h1.l.A o1.l.length h1.l.c, .slice h1.k.A o1.k.length h1.k.c, .slice h1.f.A o1.f.length h1.f.c] := by
    rw [hW]; have := Bk.new (w.alloc (.cells #[.slice h0.A o0.length h0.c] 24)) #[.slice h1.h.A0 o1.st.f0.length h1.h.c0, .slice h1.h.A1 o1.st.f1.length h1.h.c1, .slice h1.h.A2 o1.st.f2.length h1.h.c2, .slice h1.h.A3 o1.st.f3.length h1.h.c3, .slice h1.h.A4 o1.st.f4.length h1.h.c4, .slice h1.n.A o1.n.length h1.n.c, .slice h1.v.A o1.v.length h1.v.c, .slice h1.l.A o1.l.length h1.l.c, .slice h1.k.A o1.k.length h1.k.c, .slice h1.f.A o1.f.length h1.f.c] 47
    rwa [World.size_alloc] at this
  have HW := Lib.hid hW
  have F0_0 := Lib.hid (k0)
  have F1_0 := Lib.hid (k1)
  have R0_0 := Lib.hid (hR0.below hbW (Nat.le_refl _))
  have R1_0 := Lib.hid (hR1.below hbW (Nat.le_refl _))
  have BEL_0 := Lib.hid (hbW)
  have hsWa := Nat.le_of_eq hsW
  have hsWb := Nat.le_of_eq hsW.symm
  clear hW hsW hbW k0 hR0 k1 hR1
  obtain ⟨z0, hz0⟩ : ∃ z, szPg 1048576 o0 = z := ⟨_, rfl⟩
  have Z0 := Lib.hid hz0
  clear hz0
  have u0 : -1 ≤ z0 ∧ z0 ≤ 1048576 := by rw [← Z0.out]; exact szPg_ge _ _ (by omega)
  obtain ⟨z1, hz1⟩ : ∃ z, szVwd z0 o1 = z := ⟨_, rfl⟩
  have Z1 := Lib.hid hz1
  clear hz1
  have u1 : 0 ≤ z0 → -1 ≤ z1 ∧ z1 ≤ z0 := fun h => by rw [← Z1.out]; exact szVwd_ge _ _ h
  by_cases n0 : z0 < 0
  · skip
    go_enter Try.func5, Try.ntmps5
    go_wp2_with fail
    rw [← HW.out]
    refine (szPg_any h0 o0 1048576 W w.heap.size (R0_0).out (by omega) hL0 (by omega) (by omega) z0 Z0).mono ?_
    rintro e ws0 ⟨rfl, hbs0⟩
    have sz_1 := (hbs0).size
    have F0_1 := Lib.hid ((F0_0).out.below hbs0 (F0_0).out.lt)
    clear F0_0
    have F1_1 := Lib.hid ((F1_0).out.below hbs0 (F1_0).out.lt)
    clear F1_0
    have R0_1 := Lib.hid ((R0_0).out.below hbs0 (by omega))
    clear R0_0
    have R1_1 := Lib.hid ((R1_0).out.below hbs0 (by omega))
    clear R1_0
    have BEL_1 := Lib.hid (below_on (BEL_0).out hbs0)
    clear BEL_0
    clear hbs0
    go_wp2
    go_ret
    exact ⟨rfl, (BEL_1).out⟩
  have S0 : PgS o0 := szPg_small (by rw [Z0.out]; omega) (by omega) (by omega)
  have HS0 := Lib.hid S0
  clear S0
  by_cases n1 : z1 < 0
  · skip
    go_enter Try.func5, Try.ntmps5
    go_wp2_with fail
    rw [← HW.out]
    refine (szPg_any h0 o0 1048576 W w.heap.size (R0_0).out (by omega) hL0 (by omega) (by omega) z0 Z0).mono ?_
    rintro e ws0 ⟨rfl, hbs0⟩
    have sz_1 := (hbs0).size
    have F0_1 := Lib.hid ((F0_0).out.below hbs0 (F0_0).out.lt)
    clear F0_0
    have F1_1 := Lib.hid ((F1_0).out.below hbs0 (F1_0).out.lt)
    clear F1_0
    have R0_1 := Lib.hid ((R0_0).out.below hbs0 (by omega))
    clear R0_0
    have R1_1 := Lib.hid ((R1_0).out.below hbs0 (by omega))
    clear R1_0
    have BEL_1 := Lib.hid (below_on (BEL_0).out hbs0)
    clear BEL_0
    clear hbs0
    have v1 := u1 (by omega)
    have c_F1_0 : ws0.cell? ⟨w.heap.size + 1, 0, none⟩ = some (.slice h1.h.A0 o1.st.f0.length h1.h.c0) := (F1_1).out.cell 0
    have c_F1_1 : ws0.cell? ⟨w.heap.size + 1, 1, none⟩ = some (.slice h1.h.A1 o1.st.f1.length h1.h.c1) := (F1_1).out.cell 1
    have c_F1_2 : ws0.cell? ⟨w.heap.size + 1, 2, none⟩ = some (.slice h1.h.A2 o1.st.f2.length h1.h.c2) := (F1_1).out.cell 2
    have c_F1_3 : ws0.cell? ⟨w.heap.size + 1, 3, none⟩ = some (.slice h1.h.A3 o1.st.f3.length h1.h.c3) := (F1_1).out.cell 3
    have c_F1_4 : ws0.cell? ⟨w.heap.size + 1, 4, none⟩ = some (.slice h1.h.A4 o1.st.f4.length h1.h.c4) := (F1_1).out.cell 4
    have c_F1_5 : ws0.cell? ⟨w.heap.size + 1, 5, none⟩ = some (.slice h1.n.A o1.n.length h1.n.c) := (F1_1).out.cell 5
    have c_F1_6 : ws0.cell? ⟨w.heap.size + 1, 6, none⟩ = some (.slice h1.v.A o1.v.length h1.v.c) := (F1_1).out.cell 6
    have c_F1_7 : ws0.cell? ⟨w.heap.size + 1, 7, none⟩ = some (.slice h1.l.A o1.l.length h1.l.c) := (F1_1).out.cell 7
    have c_F1_8 : ws0.cell? ⟨w.heap.size + 1, 8, none⟩ = some (.slice h1.k.A o1.k.length h1.k.c) := (F1_1).out.cell 8
    have c_F1_9 : ws0.cell? ⟨w.heap.size + 1, 9, none⟩ = some (.slice h1.f.A o1.f.length h1.f.c) := (F1_1).out.cell 9
    have l_F1 : w.heap.size + 1 < ws0.heap.size := (F1_1).out.lt
    go_wp2_with fail
    clear c_F1_0 c_F1_1 c_F1_2 c_F1_3 c_F1_4 c_F1_5 c_F1_6 c_F1_7 c_F1_8 c_F1_9 l_F1
    refine (szVwd_any h1 o1 z0 ws0 w.heap.size (R1_1).out (by omega) hL1 (by omega) (by omega) z1 Z1).mono ?_
    rintro e ws1 ⟨rfl, hbs1⟩
    have sz_2 := (hbs1).size
    have F0_2 := Lib.hid ((F0_1).out.below hbs1 (F0_1).out.lt)
    clear F0_1
    have F1_2 := Lib.hid ((F1_1).out.below hbs1 (F1_1).out.lt)
    clear F1_1
    have R0_2 := Lib.hid ((R0_1).out.below hbs1 (by omega))
    clear R0_1
    have R1_2 := Lib.hid ((R1_1).out.below hbs1 (by omega))
    clear R1_1
    have BEL_2 := Lib.hid (below_on (BEL_1).out hbs1)
    clear BEL_1
    clear hbs1
    go_wp2
    go_ret
    exact ⟨rfl, (BEL_2).out⟩
  have S1 : VwdS o1 := szVwd_small (by rw [Z1.out]; omega) (by omega) (by omega)
  have HS1 := Lib.hid S1
  clear S1
  obtain ⟨E, hE⟩ : ∃ E, vwoE o0 o1 = E := ⟨_, rfl⟩
  obtain ⟨r, hr⟩ : ∃ r, vwB o0 o1 = r := ⟨_, rfl⟩
  have HE := Lib.hid hE
  have HR := Lib.hid hr
  have hSE : OcS E := by rw [← hE]; exact vwoE_small HS0.out HS1.out
  have HSE := Lib.hid hSE
  clear hE hSE
  clear hr
  go_enter Try.func5, Try.ntmps5
  go_wp2_with fail
  rw [← HW.out]
  refine (szPg_any h0 o0 1048576 W w.heap.size (R0_0).out (by omega) hL0 (by omega) (by omega) z0 Z0).mono ?_
  rintro e ws0 ⟨rfl, hbs0⟩
  have sz_1 := (hbs0).size
  have F0_1 := Lib.hid ((F0_0).out.below hbs0 (F0_0).out.lt)
  clear F0_0
  have F1_1 := Lib.hid ((F1_0).out.below hbs0 (F1_0).out.lt)
  clear F1_0
  have R0_1 := Lib.hid ((R0_0).out.below hbs0 (by omega))
  clear R0_0
  have R1_1 := Lib.hid ((R1_0).out.below hbs0 (by omega))
  clear R1_0
  have BEL_1 := Lib.hid (below_on (BEL_0).out hbs0)
  clear BEL_0
  clear hbs0
  have v1 := u1 (by omega)
  have c_F1_0 : ws0.cell? ⟨w.heap.size + 1, 0, none⟩ = some (.slice h1.h.A0 o1.st.f0.length h1.h.c0) := (F1_1).out.cell 0
  have c_F1_1 : ws0.cell? ⟨w.heap.size + 1, 1, none⟩ = some (.slice h1.h.A1 o1.st.f1.length h1.h.c1) := (F1_1).out.cell 1
  have c_F1_2 : ws0.cell? ⟨w.heap.size + 1, 2, none⟩ = some (.slice h1.h.A2 o1.st.f2.length h1.h.c2) := (F1_1).out.cell 2
  have c_F1_3 : ws0.cell? ⟨w.heap.size + 1, 3, none⟩ = some (.slice h1.h.A3 o1.st.f3.length h1.h.c3) := (F1_1).out.cell 3
  have c_F1_4 : ws0.cell? ⟨w.heap.size + 1, 4, none⟩ = some (.slice h1.h.A4 o1.st.f4.length h1.h.c4) := (F1_1).out.cell 4
  have c_F1_5 : ws0.cell? ⟨w.heap.size + 1, 5, none⟩ = some (.slice h1.n.A o1.n.length h1.n.c) := (F1_1).out.cell 5
  have c_F1_6 : ws0.cell? ⟨w.heap.size + 1, 6, none⟩ = some (.slice h1.v.A o1.v.length h1.v.c) := (F1_1).out.cell 6
  have c_F1_7 : ws0.cell? ⟨w.heap.size + 1, 7, none⟩ = some (.slice h1.l.A o1.l.length h1.l.c) := (F1_1).out.cell 7
  have c_F1_8 : ws0.cell? ⟨w.heap.size + 1, 8, none⟩ = some (.slice h1.k.A o1.k.length h1.k.c) := (F1_1).out.cell 8
  have c_F1_9 : ws0.cell? ⟨w.heap.size + 1, 9, none⟩ = some (.slice h1.f.A o1.f.length h1.f.c) := (F1_1).out.cell 9
  have l_F1 : w.heap.size + 1 < ws0.heap.size := (F1_1).out.lt
  go_wp2_with fail
  clear c_F1_0 c_F1_1 c_F1_2 c_F1_3 c_F1_4 c_F1_5 c_F1_6 c_F1_7 c_F1_8 c_F1_9 l_F1
  refine (szVwd_any h1 o1 z0 ws0 w.heap.size (R1_1).out (by omega) hL1 (by omega) (by omega) z1 Z1).mono ?_
  rintro e ws1 ⟨rfl, hbs1⟩
  have sz_2 := (hbs1).size
  have F0_2 := Lib.hid ((F0_1).out.below hbs1 (F0_1).out.lt)
  clear F0_1
  have F1_2 := Lib.hid ((F1_1).out.below hbs1 (F1_1).out.lt)
  clear F1_1
  have R0_2 := Lib.hid ((R0_1).out.below hbs1 (by omega))
  clear R0_1
  have R1_2 := Lib.hid ((R1_1).out.below hbs1 (by omega))
  clear R1_1
  have BEL_2 := Lib.hid (below_on (BEL_1).out hbs1)
  clear BEL_1
  clear hbs1
  have c_F0_0 : ws1.cell? ⟨w.heap.size, 0, none⟩ = some (.slice h0.A o0.length h0.c) := (F0_2).out.cell 0
  have l_F0 : w.heap.size < ws1.heap.size := (F0_2).out.lt
  have c_F1_0 : ws1.cell? ⟨w.heap.size + 1, 0, none⟩ = some (.slice h1.h.A0 o1.st.f0.length h1.h.c0) := (F1_2).out.cell 0
  have c_F1_1 : ws1.cell? ⟨w.heap.size + 1, 1, none⟩ = some (.slice h1.h.A1 o1.st.f1.length h1.h.c1) := (F1_2).out.cell 1
  have c_F1_2 : ws1.cell? ⟨w.heap.size + 1, 2, none⟩ = some (.slice h1.h.A2 o1.st.f2.length h1.h.c2) := (F1_2).out.cell 2
  have c_F1_3 : ws1.cell? ⟨w.heap.size + 1, 3, none⟩ = some (.slice h1.h.A3 o1.st.f3.length h1.h.c3) := (F1_2).out.cell 3
  have c_F1_4 : ws1.cell? ⟨w.heap.size + 1, 4, none⟩ = some (.slice h1.h.A4 o1.st.f4.length h1.h.c4) := (F1_2).out.cell 4
  have c_F1_5 : ws1.cell? ⟨w.heap.size + 1, 5, none⟩ = some (.slice h1.n.A o1.n.length h1.n.c) := (F1_2).out.cell 5
  have c_F1_6 : ws1.cell? ⟨w.heap.size + 1, 6, none⟩ = some (.slice h1.v.A o1.v.length h1.v.c) := (F1_2).out.cell 6
  have c_F1_7 : ws1.cell? ⟨w.heap.size + 1, 7, none⟩ = some (.slice h1.l.A o1.l.length h1.l.c) := (F1_2).out.cell 7
  have c_F1_8 : ws1.cell? ⟨w.heap.size + 1, 8, none⟩ = some (.slice h1.k.A o1.k.length h1.k.c) := (F1_2).out.cell 8
  have c_F1_9 : ws1.cell? ⟨w.heap.size + 1, 9, none⟩ = some (.slice h1.f.A o1.f.length h1.f.c) := (F1_2).out.cell 9
  have l_F1 : w.heap.size + 1 < ws1.heap.size := (F1_2).out.lt
  have allS : ∀ w', Below ws1.heap.size ws1 w' → (Below ws1.heap.size ws1 w' ∧ w'.cell? ⟨w.heap.size, 0, none⟩ = some (.slice h0.A o0.length h0.c) ∧ w'.cell? ⟨w.heap.size + 1, 0, none⟩ = some (.slice h1.h.A0 o1.st.f0.length h1.h.c0) ∧ w'.cell? ⟨w.heap.size + 1, 1, none⟩ = some (.slice h1.h.A1 o1.st.f1.length h1.h.c1) ∧ w'.cell? ⟨w.heap.size + 1, 2, none⟩ = some (.slice h1.h.A2 o1.st.f2.length h1.h.c2) ∧ w'.cell? ⟨w.heap.size + 1, 3, none⟩ = some (.slice h1.h.A3 o1.st.f3.length h1.h.c3) ∧ w'.cell? ⟨w.heap.size + 1, 4, none⟩ = some (.slice h1.h.A4 o1.st.f4.length h1.h.c4) ∧ w'.cell? ⟨w.heap.size + 1, 5, none⟩ = some (.slice h1.n.A o1.n.length h1.n.c) ∧ w'.cell? ⟨w.heap.size + 1, 6, none⟩ = some (.slice h1.v.A o1.v.length h1.v.c) ∧ w'.cell? ⟨w.heap.size + 1, 7, none⟩ = some (.slice h1.l.A o1.l.length h1.l.c) ∧ w'.cell? ⟨w.heap.size + 1, 8, none⟩ = some (.slice h1.k.A o1.k.length h1.k.c) ∧ w'.cell? ⟨w.heap.size + 1, 9, none⟩ = some (.slice h1.f.A o1.f.length h1.f.c)) := fun w' hb => ⟨hb, ((F0_2).out.below hb (F0_2).out.lt).cell 0, ((F1_2).out.below hb (F1_2).out.lt).cell 0, ((F1_2).out.below hb (F1_2).out.lt).cell 1, ((F1_2).out.below hb (F1_2).out.lt).cell 2, ((F1_2).out.below hb (F1_2).out.lt).cell 3, ((F1_2).out.below hb (F1_2).out.lt).cell 4, ((F1_2).out.below hb (F1_2).out.lt).cell 5, ((F1_2).out.below hb (F1_2).out.lt).cell 6, ((F1_2).out.below hb (F1_2).out.lt).cell 7, ((F1_2).out.below hb (F1_2).out.lt).cell 8, ((F1_2).out.below hb (F1_2).out.lt).cell 9⟩
  have AllS := Lib.hid allS
  clear allS
  have hct := fun (t'0 : PgH) (t'1 : VwdH) (V' : World) (B' : Nat) (r'0 : PgR V' B' t'0 o0) (r'1 : VwdR V' B' t'1 o1) (hB' : B' ≤ V'.heap.size) => svwout_any t'0 o0 t'1 o1 V' B' r'0 r'1 hB' HS0.out HS1.out
  rw [HE.out, HR.out] at hct
  have Hct := Lib.hid hct
  clear hct
  go_upto_region 8 with (fail)
  go_cut [6, 7] (fun sa sb wx => GotIOc ws1 E r sa sb wx)
  case first =>
    go_region_held3 (fun w' => Below ws1.heap.size ws1 w' ∧ w'.cell? ⟨w.heap.size, 0, none⟩ = some (.slice h0.A o0.length h0.c) ∧ w'.cell? ⟨w.heap.size + 1, 0, none⟩ = some (.slice h1.h.A0 o1.st.f0.length h1.h.c0) ∧ w'.cell? ⟨w.heap.size + 1, 1, none⟩ = some (.slice h1.h.A1 o1.st.f1.length h1.h.c1) ∧ w'.cell? ⟨w.heap.size + 1, 2, none⟩ = some (.slice h1.h.A2 o1.st.f2.length h1.h.c2) ∧ w'.cell? ⟨w.heap.size + 1, 3, none⟩ = some (.slice h1.h.A3 o1.st.f3.length h1.h.c3) ∧ w'.cell? ⟨w.heap.size + 1, 4, none⟩ = some (.slice h1.h.A4 o1.st.f4.length h1.h.c4) ∧ w'.cell? ⟨w.heap.size + 1, 5, none⟩ = some (.slice h1.n.A o1.n.length h1.n.c) ∧ w'.cell? ⟨w.heap.size + 1, 6, none⟩ = some (.slice h1.v.A o1.v.length h1.v.c) ∧ w'.cell? ⟨w.heap.size + 1, 7, none⟩ = some (.slice h1.l.A o1.l.length h1.l.c) ∧ w'.cell? ⟨w.heap.size + 1, 8, none⟩ = some (.slice h1.k.A o1.k.length h1.k.c) ∧ w'.cell? ⟨w.heap.size + 1, 9, none⟩ = some (.slice h1.f.A o1.f.length h1.f.c)) (first | (go_split_ands; exact AllS.out _ (by go_grown)) | (exact AllS.out _ (by go_grown))) (first | (go_at_call 8; go_split_ands; refine (toPg_any h0 o0 _ w.heap.size ((R0_2).out.below (show Below ws1.heap.size ws1 _ from by go_grown) (by omega)) (Nat.le_trans (by omega) (show Below ws1.heap.size ws1 _ from by go_grown).size) HS0.out).mono ?_; rintro e v0 ⟨t0, rfl, hv0, -, ov0⟩; obtain ⟨hcc0, hff0⟩ := bcell hv0; have Ov0 := Lib.hid ov0.rd; have hBv0 : Below ws1.heap.size ws1 v0 := below_on (by go_grown) hv0; have hzv0 := hv0.size; (try simp at hzv0); have hy0 := hBv0.size; (try (have hsv0 : ws1.heap.size < v0.heap.size := (by omega))); have kv0 := Lib.hid hv0; clear ov0 hv0) | (go_at_call 20; go_split_ands; refine (toVwd_any h1 o1 _ w.heap.size ((R1_2).out.below (show Below ws1.heap.size ws1 _ from by go_grown) (by omega)) (Nat.le_trans (by omega) (show Below ws1.heap.size ws1 _ from by go_grown).size) HS1.out).mono ?_; rintro e v1 ⟨t1, rfl, hv1, -, ov1⟩; obtain ⟨hcc1, hff1⟩ := bcell hv1; have Ov1 := Lib.hid ov1.rd; have hBv1 : Below ws1.heap.size ws1 v1 := below_on (by go_grown) hv1; have hzv1 := hv1.size; (try simp at hzv1); have hy1 := hBv1.size; (try (have hsv1 : ws1.heap.size < v1.heap.size := (by omega))); have hk0_1 : Below v0.heap.size v0 v1 := below_on (by go_grown) hv1; (try (have hsk0_1 : v0.heap.size < v1.heap.size := (by omega))); have kv1 := Lib.hid hv1; clear ov1 hv1) | (go_at_call 25; go_split_ands; refine (Hct.out t0 t1 _ v1.heap.size (Ov0.out.up (show Below v0.heap.size v0 _ from by go_grown) (Nat.le_refl _) hk0_1.size) (Ov1.out.below (show Below v1.heap.size v1 _ from by go_grown) (Nat.le_refl _)) (show Below v1.heap.size v1 _ from by go_grown).size).mono ?_; rintro e vs ⟨hans, rfl, hvs, -, ivs⟩; obtain ⟨hccs, hffs⟩ := bcell hvs; have Iv := Lib.hid ivs; have hBvs : Below ws1.heap.size ws1 vs := below_on (by go_grown) hvs; have hzvs := hvs.size; (try simp at hzvs); have hyvs := hBvs.size; (try (have hsvs : ws1.heap.size < vs.heap.size := (by omega))); (try (have hsks_0 : v0.heap.size < vs.heap.size := (by omega))); (try (have hsks_1 : v1.heap.size < vs.heap.size := (by omega))); have kvs := Lib.hid hvs; clear ivs hvs))
    all_goals go_wp2_with fail
    all_goals go_meet
    · exact gotIOc_late hBv1 kvs.out Iv.out
    · exact gotIOc_early (hBv1.alloc hy1 _) (Bk.new v1 #[.slice none 0 0, .slice none 0 0, .slice none 0 0] 60) hy1 kvs.out Iv.out
    · exact gotIOc_early hBv1 ((Bk.new v0 #[.slice none 0 0, .slice none 0 0, .slice none 0 0] 60).below kv1.out (by simp)) hy0 kvs.out Iv.out
    · exact gotIOc_early hBv1 (((bk_drew (Bk.new ws1 #[.slice none 0 0, .slice none 0 0, .slice none 0 0] 60)).below kv0.out (by show _ < (World.alloc _ _).heap.size; simp)).below kv1.out (by omega)) (Nat.le_refl _) kvs.out Iv.out
  clear AllS Hct
  obtain ⟨bb0, hw, lo0, hi0, rfl, rfl, hby, hky, hiy, i1y0, i2y0, i3y0, i4y0, i5y0, i6y0⟩ := hcut
  obtain ⟨yr0, rfl⟩ : ∃ V, V = wc := ⟨_, rfl⟩
  clear c_F0_0 l_F0 c_F1_0 c_F1_1 c_F1_2 c_F1_3 c_F1_4 c_F1_5 c_F1_6 c_F1_7 c_F1_8 c_F1_9 l_F1
  have sz_3 := (hby).size
  have F0_3 := Lib.hid ((F0_2).out.below hby (F0_2).out.lt)
  clear F0_2
  have F1_3 := Lib.hid ((F1_2).out.below hby (F1_2).out.lt)
  clear F1_2
  have R0_3 := Lib.hid ((R0_2).out.below hby (by omega))
  clear R0_2
  have R1_3 := Lib.hid ((R1_2).out.below hby (by omega))
  clear R1_2
  have BEL_3 := Lib.hid (below_on (BEL_2).out hby)
  clear BEL_2
  clear hby
  have GW_3 := Lib.hid (hky)
  have W0_3 := Lib.hid (hiy)
  clear hky hiy
  have c_F0_0 : yr0.cell? ⟨w.heap.size, 0, none⟩ = some (.slice h0.A o0.length h0.c) := (F0_3).out.cell 0
  have l_F0 : w.heap.size < yr0.heap.size := (F0_3).out.lt
  go_wp2_with fail
  clear c_F0_0 l_F0
  refine (toPg_any h0 o0 yr0 w.heap.size (R0_3).out (by omega) HS0.out).mono ?_
  rintro e wx0 ⟨x0, rfl, hbt, hlt, owt⟩
  have sz_4 := (hbt).size
  have F0_4 := Lib.hid ((F0_3).out.below hbt (F0_3).out.lt)
  clear F0_3
  have F1_4 := Lib.hid ((F1_3).out.below hbt (F1_3).out.lt)
  clear F1_3
  have R0_4 := Lib.hid ((R0_3).out.below hbt (by omega))
  clear R0_3
  have R1_4 := Lib.hid ((R1_3).out.below hbt (by omega))
  clear R1_3
  have BEL_4 := Lib.hid (below_on (BEL_3).out hbt)
  clear BEL_3
  have GW_4 := Lib.hid ((GW_3).out.below hbt (GW_3).out.lt)
  clear GW_3
  have W0_4 := Lib.hid ((W0_3).out.below hbt (by omega))
  clear W0_3
  clear hbt hlt
  have Xo0_4 := Lib.hid (owt)
  have Xr0_4 := Lib.hid (owt.rd)
  clear owt
  have c_F1_0 : wx0.cell? ⟨w.heap.size + 1, 0, none⟩ = some (.slice h1.h.A0 o1.st.f0.length h1.h.c0) := (F1_4).out.cell 0
  have c_F1_1 : wx0.cell? ⟨w.heap.size + 1, 1, none⟩ = some (.slice h1.h.A1 o1.st.f1.length h1.h.c1) := (F1_4).out.cell 1
  have c_F1_2 : wx0.cell? ⟨w.heap.size + 1, 2, none⟩ = some (.slice h1.h.A2 o1.st.f2.length h1.h.c2) := (F1_4).out.cell 2
  have c_F1_3 : wx0.cell? ⟨w.heap.size + 1, 3, none⟩ = some (.slice h1.h.A3 o1.st.f3.length h1.h.c3) := (F1_4).out.cell 3
  have c_F1_4 : wx0.cell? ⟨w.heap.size + 1, 4, none⟩ = some (.slice h1.h.A4 o1.st.f4.length h1.h.c4) := (F1_4).out.cell 4
  have c_F1_5 : wx0.cell? ⟨w.heap.size + 1, 5, none⟩ = some (.slice h1.n.A o1.n.length h1.n.c) := (F1_4).out.cell 5
  have c_F1_6 : wx0.cell? ⟨w.heap.size + 1, 6, none⟩ = some (.slice h1.v.A o1.v.length h1.v.c) := (F1_4).out.cell 6
  have c_F1_7 : wx0.cell? ⟨w.heap.size + 1, 7, none⟩ = some (.slice h1.l.A o1.l.length h1.l.c) := (F1_4).out.cell 7
  have c_F1_8 : wx0.cell? ⟨w.heap.size + 1, 8, none⟩ = some (.slice h1.k.A o1.k.length h1.k.c) := (F1_4).out.cell 8
  have c_F1_9 : wx0.cell? ⟨w.heap.size + 1, 9, none⟩ = some (.slice h1.f.A o1.f.length h1.f.c) := (F1_4).out.cell 9
  have l_F1 : w.heap.size + 1 < wx0.heap.size := (F1_4).out.lt
  go_wp2_with fail
  clear c_F1_0 c_F1_1 c_F1_2 c_F1_3 c_F1_4 c_F1_5 c_F1_6 c_F1_7 c_F1_8 c_F1_9 l_F1
  obtain ⟨Vx0, hVx0⟩ : ∃ V, V = wx0.alloc (.cells #[.slice x0.A o0.length x0.c] 32) := ⟨_, rfl⟩
  rw [← hVx0]
  have bVx0 : Below wx0.heap.size wx0 Vx0 := by rw [hVx0]; go_grown
  have zVx0 : Vx0.heap.size = wx0.heap.size + 1 := by rw [hVx0]; simp
  have kVx0 : Bk Vx0 wx0.heap.size 32 #[.slice x0.A o0.length x0.c] := by rw [hVx0]; exact Bk.new _ _ _
  have zVx0a := Nat.le_of_eq zVx0
  have zVx0b := Nat.le_of_eq zVx0.symm
  clear zVx0
  have sz_5 := (bVx0).size
  have F0_5 := Lib.hid ((F0_4).out.below bVx0 (F0_4).out.lt)
  clear F0_4
  have F1_5 := Lib.hid ((F1_4).out.below bVx0 (F1_4).out.lt)
  clear F1_4
  have R0_5 := Lib.hid ((R0_4).out.below bVx0 (by omega))
  clear R0_4
  have R1_5 := Lib.hid ((R1_4).out.below bVx0 (by omega))
  clear R1_4
  have BEL_5 := Lib.hid (below_on (BEL_4).out bVx0)
  clear BEL_4
  have GW_5 := Lib.hid ((GW_4).out.below bVx0 (GW_4).out.lt)
  clear GW_4
  have W0_5 := Lib.hid ((W0_4).out.below bVx0 (by omega))
  clear W0_4
  have Xo0_5 := Lib.hid ((Xo0_4).out.below bVx0 (by omega))
  clear Xo0_4
  have Xr0_5 := Lib.hid ((Xr0_4).out.below bVx0 (by omega))
  clear Xr0_4
  have X0_5 := Lib.hid (kVx0)
  clear hVx0 bVx0 kVx0
  refine (toVwd_any h1 o1 Vx0 w.heap.size (R1_5).out (by omega) HS1.out).mono ?_
  rintro e wx1 ⟨x1, rfl, hbt, hlt, owt⟩
  have sz_6 := (hbt).size
  have F0_6 := Lib.hid ((F0_5).out.below hbt (F0_5).out.lt)
  clear F0_5
  have F1_6 := Lib.hid ((F1_5).out.below hbt (F1_5).out.lt)
  clear F1_5
  have R0_6 := Lib.hid ((R0_5).out.below hbt (by omega))
  clear R0_5
  have R1_6 := Lib.hid ((R1_5).out.below hbt (by omega))
  clear R1_5
  have BEL_6 := Lib.hid (below_on (BEL_5).out hbt)
  clear BEL_5
  have GW_6 := Lib.hid ((GW_5).out.below hbt (GW_5).out.lt)
  clear GW_5
  have W0_6 := Lib.hid ((W0_5).out.below hbt (by omega))
  clear W0_5
  have Xo0_6 := Lib.hid ((Xo0_5).out.below hbt (by omega))
  clear Xo0_5
  have Xr0_6 := Lib.hid ((Xr0_5).out.below hbt (by omega))
  clear Xr0_5
  have X0_6 := Lib.hid ((X0_5).out.below hbt (X0_5).out.lt)
  clear X0_5
  clear hbt hlt
  have Xo1_6 := Lib.hid (owt)
  have Xr1_6 := Lib.hid (owt.rd)
  clear owt
  have c_X0_0 : wx1.cell? ⟨wx0.heap.size, 0, none⟩ = some (.slice x0.A o0.length x0.c) := (X0_6).out.cell 0
  have l_X0 : wx0.heap.size < wx1.heap.size := (X0_6).out.lt
  go_wp2_with fail
  clear c_X0_0 l_X0
  obtain ⟨Vx1, hVx1⟩ : ∃ V, V = wx1.alloc (.cells #[.slice x1.h.A0 o1.st.f0.length x1.h.c0, .slice x1.h.A1 o1.st.f1.length x1.h.c1, .slice x1.h.A2 o1.st.f2.length x1.h.c2, .slice x1.h.A3 o1.st.f3.length x1.h.c3, .slice x1.h.A4 o1.st.f4.length x1.h.c4, .slice x1.n.A o1.n.length x1.n.c, .slice x1.v.A o1.v.length x1.v.c, .slice x1.l.A o1.l.length x1.l.c, .slice x1.k.A o1.k.length x1.k.c, .slice x1.f.A o1.f.length x1.f.c] 53) := ⟨_, rfl⟩
  rw [← hVx1]
  have bVx1 : Below wx1.heap.size wx1 Vx1 := by rw [hVx1]; go_grown
  have zVx1 : Vx1.heap.size = wx1.heap.size + 1 := by rw [hVx1]; simp
  have kVx1 : Bk Vx1 wx1.heap.size 53 #[.slice x1.h.A0 o1.st.f0.length x1.h.c0, .slice x1.h.A1 o1.st.f1.length x1.h.c1, .slice x1.h.A2 o1.st.f2.length x1.h.c2, .slice x1.h.A3 o1.st.f3.length x1.h.c3, .slice x1.h.A4 o1.st.f4.length x1.h.c4, .slice x1.n.A o1.n.length x1.n.c, .slice x1.v.A o1.v.length x1.v.c, .slice x1.l.A o1.l.length x1.l.c, .slice x1.k.A o1.k.length x1.k.c, .slice x1.f.A o1.f.length x1.f.c] := by rw [hVx1]; exact Bk.new _ _ _
  have zVx1a := Nat.le_of_eq zVx1
  have zVx1b := Nat.le_of_eq zVx1.symm
  clear zVx1
  have sz_7 := (bVx1).size
  have F0_7 := Lib.hid ((F0_6).out.below bVx1 (F0_6).out.lt)
  clear F0_6
  have F1_7 := Lib.hid ((F1_6).out.below bVx1 (F1_6).out.lt)
  clear F1_6
  have R0_7 := Lib.hid ((R0_6).out.below bVx1 (by omega))
  clear R0_6
  have R1_7 := Lib.hid ((R1_6).out.below bVx1 (by omega))
  clear R1_6
  have BEL_7 := Lib.hid (below_on (BEL_6).out bVx1)
  clear BEL_6
  have GW_7 := Lib.hid ((GW_6).out.below bVx1 (GW_6).out.lt)
  clear GW_6
  have W0_7 := Lib.hid ((W0_6).out.below bVx1 (by omega))
  clear W0_6
  have Xo0_7 := Lib.hid ((Xo0_6).out.below bVx1 (by omega))
  clear Xo0_6
  have Xr0_7 := Lib.hid ((Xr0_6).out.below bVx1 (by omega))
  clear Xr0_6
  have X0_7 := Lib.hid ((X0_6).out.below bVx1 (X0_6).out.lt)
  clear X0_6
  have Xo1_7 := Lib.hid ((Xo1_6).out.below bVx1 (by omega))
  clear Xo1_6
  have Xr1_7 := Lib.hid ((Xr1_6).out.below bVx1 (by omega))
  clear Xr1_6
  have X1_7 := Lib.hid (kVx1)
  clear hVx1 bVx1 kVx1
  have hs := inviewout_any x0 o0 x1 o1 Vx1 Vx1.heap.size ((Xr0_7).out.up (Below.refl Vx1.heap.size Vx1) (by omega) (by omega)) ((Xr1_7).out.up (Below.refl Vx1.heap.size Vx1) (by omega) (by omega)) (Nat.le_refl _) HS0.out HS1.out
  rw [HE.out, HR.out] at hs
  refine hs.mono ?_
  clear hs
  rintro e wi ⟨hg, rfl, hba, hla, owa⟩
  have sz_8 := (hba).size
  have F0_8 := Lib.hid ((F0_7).out.below hba (F0_7).out.lt)
  clear F0_7
  have F1_8 := Lib.hid ((F1_7).out.below hba (F1_7).out.lt)
  clear F1_7
  have R0_8 := Lib.hid ((R0_7).out.below hba (by omega))
  clear R0_7
  have R1_8 := Lib.hid ((R1_7).out.below hba (by omega))
  clear R1_7
  have BEL_8 := Lib.hid (below_on (BEL_7).out hba)
  clear BEL_7
  have GW_8 := Lib.hid ((GW_7).out.below hba (GW_7).out.lt)
  clear GW_7
  have W0_8 := Lib.hid ((W0_7).out.below hba (by omega))
  clear W0_7
  have Xo0_8 := Lib.hid ((Xo0_7).out.below hba (by omega))
  clear Xo0_7
  have Xr0_8 := Lib.hid ((Xr0_7).out.below hba (by omega))
  clear Xr0_7
  have X0_8 := Lib.hid ((X0_7).out.below hba (X0_7).out.lt)
  clear X0_7
  have Xo1_8 := Lib.hid ((Xo1_7).out.below hba (by omega))
  clear Xo1_7
  have Xr1_8 := Lib.hid ((Xr1_7).out.below hba (by omega))
  clear Xr1_7
  have X1_8 := Lib.hid ((X1_7).out.below hba (X1_7).out.lt)
  clear X1_7
  have G0_8 := Lib.hid (owa)
  clear hba hla owa
  have c_GW_0 : wi.cell? ⟨bb0, 0, none⟩ = some (.slice hw.A0 E.f0.length hw.c0) := (GW_8).out.cell 0
  have c_GW_1 : wi.cell? ⟨bb0, 1, none⟩ = some (.slice hw.A1 E.f1.length hw.c1) := (GW_8).out.cell 1
  have c_GW_2 : wi.cell? ⟨bb0, 2, none⟩ = some (.slice hw.A2 E.f2.length hw.c2) := (GW_8).out.cell 2
  have l_GW : bb0 < wi.heap.size := (GW_8).out.lt
  go_wp2_with fail
  clear c_GW_0 c_GW_1 c_GW_2 l_GW
  obtain ⟨VG, hVG⟩ : ∃ V, V = wi.alloc (.cells #[.slice hg.A0 E.f0.length hg.c0, .slice hg.A1 E.f1.length hg.c1, .slice hg.A2 E.f2.length hg.c2] 60) := ⟨_, rfl⟩
  rw [← hVG]
  have bVG : Below wi.heap.size wi VG := by rw [hVG]; go_grown
  have zVG : VG.heap.size = wi.heap.size + 1 := by rw [hVG]; simp
  have kVG : Bk VG wi.heap.size 60 #[.slice hg.A0 E.f0.length hg.c0, .slice hg.A1 E.f1.length hg.c1, .slice hg.A2 E.f2.length hg.c2] := by rw [hVG]; exact Bk.new _ _ _
  have zVGa := Nat.le_of_eq zVG
  have zVGb := Nat.le_of_eq zVG.symm
  clear zVG
  have sz_9 := (bVG).size
  have F0_9 := Lib.hid ((F0_8).out.below bVG (F0_8).out.lt)
  clear F0_8
  have F1_9 := Lib.hid ((F1_8).out.below bVG (F1_8).out.lt)
  clear F1_8
  have R0_9 := Lib.hid ((R0_8).out.below bVG (by omega))
  clear R0_8
  have R1_9 := Lib.hid ((R1_8).out.below bVG (by omega))
  clear R1_8
  have BEL_9 := Lib.hid (below_on (BEL_8).out bVG)
  clear BEL_8
  have GW_9 := Lib.hid ((GW_8).out.below bVG (GW_8).out.lt)
  clear GW_8
  have W0_9 := Lib.hid ((W0_8).out.below bVG (by omega))
  clear W0_8
  have Xo0_9 := Lib.hid ((Xo0_8).out.below bVG (by omega))
  clear Xo0_8
  have Xr0_9 := Lib.hid ((Xr0_8).out.below bVG (by omega))
  clear Xr0_8
  have X0_9 := Lib.hid ((X0_8).out.below bVG (X0_8).out.lt)
  clear X0_8
  have Xo1_9 := Lib.hid ((Xo1_8).out.below bVG (by omega))
  clear Xo1_8
  have Xr1_9 := Lib.hid ((Xr1_8).out.below bVG (by omega))
  clear Xr1_8
  have X1_9 := Lib.hid ((X1_8).out.below bVG (X1_8).out.lt)
  clear X1_8
  have G0_9 := Lib.hid ((G0_8).out.below bVG (by omega))
  clear G0_8
  have GG_9 := Lib.hid (kVG)
  clear hVG bVG kVG
  refine (eqOc_any hg hw E E VG VG.heap.size ((G0_9).out.rd.up (Below.refl VG.heap.size VG) (by omega) (by omega)) ((W0_9).out.rd.up (Below.refl VG.heap.size VG) (by omega) (by omega)) (Nat.le_refl _) (OcS_L HSE.out) (OcS_L HSE.out) true (Lib.hid (by simp))).mono ?_
  rintro e wq0 ⟨rfl, hbq⟩
  have sz_10 := (hbq).size
  have F0_10 := Lib.hid ((F0_9).out.below hbq (F0_9).out.lt)
  clear F0_9
  have F1_10 := Lib.hid ((F1_9).out.below hbq (F1_9).out.lt)
  clear F1_9
  have R0_10 := Lib.hid ((R0_9).out.below hbq (by omega))
  clear R0_9
  have R1_10 := Lib.hid ((R1_9).out.below hbq (by omega))
  clear R1_9
  have BEL_10 := Lib.hid (below_on (BEL_9).out hbq)
  clear BEL_9
  have GW_10 := Lib.hid ((GW_9).out.below hbq (GW_9).out.lt)
  clear GW_9
  have W0_10 := Lib.hid ((W0_9).out.below hbq (by omega))
  clear W0_9
  have Xo0_10 := Lib.hid ((Xo0_9).out.below hbq (by omega))
  clear Xo0_9
  have Xr0_10 := Lib.hid ((Xr0_9).out.below hbq (by omega))
  clear Xr0_9
  have X0_10 := Lib.hid ((X0_9).out.below hbq (X0_9).out.lt)
  clear X0_9
  have Xo1_10 := Lib.hid ((Xo1_9).out.below hbq (by omega))
  clear Xo1_9
  have Xr1_10 := Lib.hid ((Xr1_9).out.below hbq (by omega))
  clear Xr1_9
  have X1_10 := Lib.hid ((X1_9).out.below hbq (X1_9).out.lt)
  clear X1_9
  have G0_10 := Lib.hid ((G0_9).out.below hbq (by omega))
  clear G0_9
  have GG_10 := Lib.hid ((GG_9).out.below hbq (GG_9).out.lt)
  clear GG_9
  clear hbq
  have allS : ∀ w', Below wq0.heap.size wq0 w' → (Below wq0.heap.size wq0 w' ∧ w'.cell? ⟨wx0.heap.size, 0, none⟩ = some (.slice x0.A o0.length x0.c) ∧ w'.cell? ⟨w.heap.size, 0, none⟩ = some (.slice h0.A o0.length h0.c)) := fun w' hb => ⟨hb, ((X0_10).out.below hb (X0_10).out.lt).cell 0, ((F0_10).out.below hb (F0_10).out.lt).cell 0⟩
  have AllS := Lib.hid allS
  clear allS
  go_wp2_with fail
  go_region_held3 (fun w' => Below wq0.heap.size wq0 w' ∧ w'.cell? ⟨wx0.heap.size, 0, none⟩ = some (.slice x0.A o0.length x0.c) ∧ w'.cell? ⟨w.heap.size, 0, none⟩ = some (.slice h0.A o0.length h0.c)) (first | (go_split_ands; exact AllS.out _ (by go_grown)) | (exact AllS.out _ (by go_grown))) (first | (go_at_call 8; go_split_ands; refine (toPg_any h0 o0 _ w.heap.size ((R0_10).out.below (show Below wq0.heap.size wq0 _ from by go_grown) (by omega)) (Nat.le_trans (by omega) (show Below wq0.heap.size wq0 _ from by go_grown).size) HS0.out).mono ?_; rintro e ve0 ⟨y0, rfl, hv, -, ov⟩; have Ov := Lib.hid ov.rd; have hBv : Below wq0.heap.size wq0 ve0 := below_on (by go_grown) hv; clear ov hv) | (go_at_call 12; go_split_ands; refine (eqPg_any x0 y0 o0 o0 _ ve0.heap.size ((Xr0_10).out.up (show Below wq0.heap.size wq0 _ from by go_grown) (by omega) (Nat.le_trans (by omega) hBv.size)) (Ov.out.below (show Below ve0.heap.size ve0 _ from by go_grown) (Nat.le_refl _)) (show Below ve0.heap.size ve0 _ from by go_grown).size (PgS_L HS0.out) (PgS_L HS0.out) true (Lib.hid (by simp))).mono ?_; rintro e vf0 ⟨rfl, hvf⟩; have hBvf : Below wq0.heap.size wq0 vf0 := below_on (by go_grown) hvf; clear hvf))
  clear AllS Ov hBv
  try clear hHeld
  have sz_11 := (hBvf).size
  have F0_11 := Lib.hid ((F0_10).out.below hBvf (F0_10).out.lt)
  clear F0_10
  have F1_11 := Lib.hid ((F1_10).out.below hBvf (F1_10).out.lt)
  clear F1_10
  have R0_11 := Lib.hid ((R0_10).out.below hBvf (by omega))
  clear R0_10
  have R1_11 := Lib.hid ((R1_10).out.below hBvf (by omega))
  clear R1_10
  have BEL_11 := Lib.hid (below_on (BEL_10).out hBvf)
  clear BEL_10
  have GW_11 := Lib.hid ((GW_10).out.below hBvf (GW_10).out.lt)
  clear GW_10
  have W0_11 := Lib.hid ((W0_10).out.below hBvf (by omega))
  clear W0_10
  have Xo0_11 := Lib.hid ((Xo0_10).out.below hBvf (by omega))
  clear Xo0_10
  have Xr0_11 := Lib.hid ((Xr0_10).out.below hBvf (by omega))
  clear Xr0_10
  have X0_11 := Lib.hid ((X0_10).out.below hBvf (X0_10).out.lt)
  clear X0_10
  have Xo1_11 := Lib.hid ((Xo1_10).out.below hBvf (by omega))
  clear Xo1_10
  have Xr1_11 := Lib.hid ((Xr1_10).out.below hBvf (by omega))
  clear Xr1_10
  have X1_11 := Lib.hid ((X1_10).out.below hBvf (X1_10).out.lt)
  clear X1_10
  have G0_11 := Lib.hid ((G0_10).out.below hBvf (by omega))
  clear G0_10
  have GG_11 := Lib.hid ((GG_10).out.below hBvf (GG_10).out.lt)
  clear GG_10
  clear hBvf
  have allS : ∀ w', Below vf0.heap.size vf0 w' → (Below vf0.heap.size vf0 w' ∧ w'.cell? ⟨wx1.heap.size, 0, none⟩ = some (.slice x1.h.A0 o1.st.f0.length x1.h.c0) ∧ w'.cell? ⟨wx1.heap.size, 1, none⟩ = some (.slice x1.h.A1 o1.st.f1.length x1.h.c1) ∧ w'.cell? ⟨wx1.heap.size, 2, none⟩ = some (.slice x1.h.A2 o1.st.f2.length x1.h.c2) ∧ w'.cell? ⟨wx1.heap.size, 3, none⟩ = some (.slice x1.h.A3 o1.st.f3.length x1.h.c3) ∧ w'.cell? ⟨wx1.heap.size, 4, none⟩ = some (.slice x1.h.A4 o1.st.f4.length x1.h.c4) ∧ w'.cell? ⟨wx1.heap.size, 5, none⟩ = some (.slice x1.n.A o1.n.length x1.n.c) ∧ w'.cell? ⟨wx1.heap.size, 6, none⟩ = some (.slice x1.v.A o1.v.length x1.v.c) ∧ w'.cell? ⟨wx1.heap.size, 7, none⟩ = some (.slice x1.l.A o1.l.length x1.l.c) ∧ w'.cell? ⟨wx1.heap.size, 8, none⟩ = some (.slice x1.k.A o1.k.length x1.k.c) ∧ w'.cell? ⟨wx1.heap.size, 9, none⟩ = some (.slice x1.f.A o1.f.length x1.f.c) ∧ w'.cell? ⟨w.heap.size + 1, 0, none⟩ = some (.slice h1.h.A0 o1.st.f0.length h1.h.c0) ∧ w'.cell? ⟨w.heap.size + 1, 1, none⟩ = some (.slice h1.h.A1 o1.st.f1.length h1.h.c1) ∧ w'.cell? ⟨w.heap.size + 1, 2, none⟩ = some (.slice h1.h.A2 o1.st.f2.length h1.h.c2) ∧ w'.cell? ⟨w.heap.size + 1, 3, none⟩ = some (.slice h1.h.A3 o1.st.f3.length h1.h.c3) ∧ w'.cell? ⟨w.heap.size + 1, 4, none⟩ = some (.slice h1.h.A4 o1.st.f4.length h1.h.c4) ∧ w'.cell? ⟨w.heap.size + 1, 5, none⟩ = some (.slice h1.n.A o1.n.length h1.n.c) ∧ w'.cell? ⟨w.heap.size + 1, 6, none⟩ = some (.slice h1.v.A o1.v.length h1.v.c) ∧ w'.cell? ⟨w.heap.size + 1, 7, none⟩ = some (.slice h1.l.A o1.l.length h1.l.c) ∧ w'.cell? ⟨w.heap.size + 1, 8, none⟩ = some (.slice h1.k.A o1.k.length h1.k.c) ∧ w'.cell? ⟨w.heap.size + 1, 9, none⟩ = some (.slice h1.f.A o1.f.length h1.f.c)) := fun w' hb => ⟨hb, ((X1_11).out.below hb (X1_11).out.lt).cell 0, ((X1_11).out.below hb (X1_11).out.lt).cell 1, ((X1_11).out.below hb (X1_11).out.lt).cell 2, ((X1_11).out.below hb (X1_11).out.lt).cell 3, ((X1_11).out.below hb (X1_11).out.lt).cell 4, ((X1_11).out.below hb (X1_11).out.lt).cell 5, ((X1_11).out.below hb (X1_11).out.lt).cell 6, ((X1_11).out.below hb (X1_11).out.lt).cell 7, ((X1_11).out.below hb (X1_11).out.lt).cell 8, ((X1_11).out.below hb (X1_11).out.lt).cell 9, ((F1_11).out.below hb (F1_11).out.lt).cell 0, ((F1_11).out.below hb (F1_11).out.lt).cell 1, ((F1_11).out.below hb (F1_11).out.lt).cell 2, ((F1_11).out.below hb (F1_11).out.lt).cell 3, ((F1_11).out.below hb (F1_11).out.lt).cell 4, ((F1_11).out.below hb (F1_11).out.lt).cell 5, ((F1_11).out.below hb (F1_11).out.lt).cell 6, ((F1_11).out.below hb (F1_11).out.lt).cell 7, ((F1_11).out.below hb (F1_11).out.lt).cell 8, ((F1_11).out.below hb (F1_11).out.lt).cell 9⟩
  have AllS := Lib.hid allS
  clear allS
  go_wp2_with fail
  go_region_held3 (fun w' => Below vf0.heap.size vf0 w' ∧ w'.cell? ⟨wx1.heap.size, 0, none⟩ = some (.slice x1.h.A0 o1.st.f0.length x1.h.c0) ∧ w'.cell? ⟨wx1.heap.size, 1, none⟩ = some (.slice x1.h.A1 o1.st.f1.length x1.h.c1) ∧ w'.cell? ⟨wx1.heap.size, 2, none⟩ = some (.slice x1.h.A2 o1.st.f2.length x1.h.c2) ∧ w'.cell? ⟨wx1.heap.size, 3, none⟩ = some (.slice x1.h.A3 o1.st.f3.length x1.h.c3) ∧ w'.cell? ⟨wx1.heap.size, 4, none⟩ = some (.slice x1.h.A4 o1.st.f4.length x1.h.c4) ∧ w'.cell? ⟨wx1.heap.size, 5, none⟩ = some (.slice x1.n.A o1.n.length x1.n.c) ∧ w'.cell? ⟨wx1.heap.size, 6, none⟩ = some (.slice x1.v.A o1.v.length x1.v.c) ∧ w'.cell? ⟨wx1.heap.size, 7, none⟩ = some (.slice x1.l.A o1.l.length x1.l.c) ∧ w'.cell? ⟨wx1.heap.size, 8, none⟩ = some (.slice x1.k.A o1.k.length x1.k.c) ∧ w'.cell? ⟨wx1.heap.size, 9, none⟩ = some (.slice x1.f.A o1.f.length x1.f.c) ∧ w'.cell? ⟨w.heap.size + 1, 0, none⟩ = some (.slice h1.h.A0 o1.st.f0.length h1.h.c0) ∧ w'.cell? ⟨w.heap.size + 1, 1, none⟩ = some (.slice h1.h.A1 o1.st.f1.length h1.h.c1) ∧ w'.cell? ⟨w.heap.size + 1, 2, none⟩ = some (.slice h1.h.A2 o1.st.f2.length h1.h.c2) ∧ w'.cell? ⟨w.heap.size + 1, 3, none⟩ = some (.slice h1.h.A3 o1.st.f3.length h1.h.c3) ∧ w'.cell? ⟨w.heap.size + 1, 4, none⟩ = some (.slice h1.h.A4 o1.st.f4.length h1.h.c4) ∧ w'.cell? ⟨w.heap.size + 1, 5, none⟩ = some (.slice h1.n.A o1.n.length h1.n.c) ∧ w'.cell? ⟨w.heap.size + 1, 6, none⟩ = some (.slice h1.v.A o1.v.length h1.v.c) ∧ w'.cell? ⟨w.heap.size + 1, 7, none⟩ = some (.slice h1.l.A o1.l.length h1.l.c) ∧ w'.cell? ⟨w.heap.size + 1, 8, none⟩ = some (.slice h1.k.A o1.k.length h1.k.c) ∧ w'.cell? ⟨w.heap.size + 1, 9, none⟩ = some (.slice h1.f.A o1.f.length h1.f.c)) (first | (go_split_ands; exact AllS.out _ (by go_grown)) | (exact AllS.out _ (by go_grown))) (first | (go_at_call 20; go_split_ands; refine (toVwd_any h1 o1 _ w.heap.size ((R1_11).out.below (show Below vf0.heap.size vf0 _ from by go_grown) (by omega)) (Nat.le_trans (by omega) (show Below vf0.heap.size vf0 _ from by go_grown).size) HS1.out).mono ?_; rintro e ve1 ⟨y1, rfl, hv, -, ov⟩; have Ov := Lib.hid ov.rd; have hBv : Below vf0.heap.size vf0 ve1 := below_on (by go_grown) hv; clear ov hv) | (go_at_call 22; go_split_ands; refine (eqVwd_any x1 y1 o1 o1 _ ve1.heap.size ((Xr1_11).out.up (show Below vf0.heap.size vf0 _ from by go_grown) (by omega) (Nat.le_trans (by omega) hBv.size)) (Ov.out.below (show Below ve1.heap.size ve1 _ from by go_grown) (Nat.le_refl _)) (show Below ve1.heap.size ve1 _ from by go_grown).size (VwdS_L HS1.out) (VwdS_L HS1.out) true (Lib.hid (by simp))).mono ?_; rintro e vf1 ⟨rfl, hvf⟩; have hBvf : Below vf0.heap.size vf0 vf1 := below_on (by go_grown) hvf; clear hvf))
  clear AllS Ov hBv
  try clear hHeld
  have sz_12 := (hBvf).size
  have F0_12 := Lib.hid ((F0_11).out.below hBvf (F0_11).out.lt)
  clear F0_11
  have F1_12 := Lib.hid ((F1_11).out.below hBvf (F1_11).out.lt)
  clear F1_11
  have R0_12 := Lib.hid ((R0_11).out.below hBvf (by omega))
  clear R0_11
  have R1_12 := Lib.hid ((R1_11).out.below hBvf (by omega))
  clear R1_11
  have BEL_12 := Lib.hid (below_on (BEL_11).out hBvf)
  clear BEL_11
  have GW_12 := Lib.hid ((GW_11).out.below hBvf (GW_11).out.lt)
  clear GW_11
  have W0_12 := Lib.hid ((W0_11).out.below hBvf (by omega))
  clear W0_11
  have Xo0_12 := Lib.hid ((Xo0_11).out.below hBvf (by omega))
  clear Xo0_11
  have Xr0_12 := Lib.hid ((Xr0_11).out.below hBvf (by omega))
  clear Xr0_11
  have X0_12 := Lib.hid ((X0_11).out.below hBvf (X0_11).out.lt)
  clear X0_11
  have Xo1_12 := Lib.hid ((Xo1_11).out.below hBvf (by omega))
  clear Xo1_11
  have Xr1_12 := Lib.hid ((Xr1_11).out.below hBvf (by omega))
  clear Xr1_11
  have X1_12 := Lib.hid ((X1_11).out.below hBvf (X1_11).out.lt)
  clear X1_11
  have G0_12 := Lib.hid ((G0_11).out.below hBvf (by omega))
  clear G0_11
  have GG_12 := Lib.hid ((GG_11).out.below hBvf (GG_11).out.lt)
  clear GG_11
  clear hBvf
  clear Xr0_12
  clear Xr1_12
  have c_X0_0 : vf1.cell? ⟨wx0.heap.size, 0, none⟩ = some (.slice x0.A o0.length x0.c) := (X0_12).out.cell 0
  have l_X0 : wx0.heap.size < vf1.heap.size := (X0_12).out.lt
  go_wp2_with fail
  clear c_X0_0 l_X0
  have t0 := HS0.out.t
  refine (markPg_any x0 o0 (1) vf1 yr0.heap.size wx0.heap.size (Xo0_12).out (by omega) HS0.out (by omega) (by omega)).mono ?_
  rintro e wm0 ⟨rfl, hom⟩
  have sz_13 := (hom).size
  have F0_13 := Lib.hid (only_bk (F0_12).out hom (by omega))
  clear F0_12
  have F1_13 := Lib.hid (only_bk (F1_12).out hom (by omega))
  clear F1_12
  have R0_13 := Lib.hid ((R0_12).out.below ((hom).to_below (B := w.heap.size) (by omega) (by omega)) (Nat.le_refl _))
  clear R0_12
  have R1_13 := Lib.hid ((R1_12).out.below ((hom).to_below (B := w.heap.size) (by omega) (by omega)) (Nat.le_refl _))
  clear R1_12
  have BEL_13 := Lib.hid ((BEL_12).out.trans ((hom).to_below (by omega) (by omega)))
  clear BEL_12
  have GW_13 := Lib.hid (only_bk (GW_12).out hom (by omega))
  clear GW_12
  have W0_13 := Lib.hid ((W0_12).out.keep (Nat.le_refl _) (Nat.le_refl _) fun i h1 h2 => (hom).block i (by omega) (by omega))
  clear W0_12
  clear Xo0_12
  have X0_13 := Lib.hid (only_bk (X0_12).out hom (by omega))
  clear X0_12
  have Xo1_13 := Lib.hid ((Xo1_12).out.keep (Nat.le_refl _) (Nat.le_refl _) fun i h1 h2 => (hom).block i (by omega) (by omega))
  clear Xo1_12
  have X1_13 := Lib.hid (only_bk (X1_12).out hom (by omega))
  clear X1_12
  have G0_13 := Lib.hid ((G0_12).out.keep (Nat.le_refl _) (Nat.le_refl _) fun i h1 h2 => (hom).block i (by omega) (by omega))
  clear G0_12
  have GG_13 := Lib.hid (only_bk (GG_12).out hom (by omega))
  clear GG_12
  clear hom
  have c_X1_0 : wm0.cell? ⟨wx1.heap.size, 0, none⟩ = some (.slice x1.h.A0 o1.st.f0.length x1.h.c0) := (X1_13).out.cell 0
  have c_X1_1 : wm0.cell? ⟨wx1.heap.size, 1, none⟩ = some (.slice x1.h.A1 o1.st.f1.length x1.h.c1) := (X1_13).out.cell 1
  have c_X1_2 : wm0.cell? ⟨wx1.heap.size, 2, none⟩ = some (.slice x1.h.A2 o1.st.f2.length x1.h.c2) := (X1_13).out.cell 2
  have c_X1_3 : wm0.cell? ⟨wx1.heap.size, 3, none⟩ = some (.slice x1.h.A3 o1.st.f3.length x1.h.c3) := (X1_13).out.cell 3
  have c_X1_4 : wm0.cell? ⟨wx1.heap.size, 4, none⟩ = some (.slice x1.h.A4 o1.st.f4.length x1.h.c4) := (X1_13).out.cell 4
  have c_X1_5 : wm0.cell? ⟨wx1.heap.size, 5, none⟩ = some (.slice x1.n.A o1.n.length x1.n.c) := (X1_13).out.cell 5
  have c_X1_6 : wm0.cell? ⟨wx1.heap.size, 6, none⟩ = some (.slice x1.v.A o1.v.length x1.v.c) := (X1_13).out.cell 6
  have c_X1_7 : wm0.cell? ⟨wx1.heap.size, 7, none⟩ = some (.slice x1.l.A o1.l.length x1.l.c) := (X1_13).out.cell 7
  have c_X1_8 : wm0.cell? ⟨wx1.heap.size, 8, none⟩ = some (.slice x1.k.A o1.k.length x1.k.c) := (X1_13).out.cell 8
  have c_X1_9 : wm0.cell? ⟨wx1.heap.size, 9, none⟩ = some (.slice x1.f.A o1.f.length x1.f.c) := (X1_13).out.cell 9
  have l_X1 : wx1.heap.size < wm0.heap.size := (X1_13).out.lt
  go_wp2_with fail
  clear c_X1_0 c_X1_1 c_X1_2 c_X1_3 c_X1_4 c_X1_5 c_X1_6 c_X1_7 c_X1_8 c_X1_9 l_X1
  have al1 := allVwd_nn HS1.out
  refine (markVwd_any x1 o1 (1 + 5 * (total o0 : Int)) wm0 Vx0.heap.size wx1.heap.size (Xo1_13).out (by omega) HS1.out (by omega) (by omega)).mono ?_
  rintro e wm1 ⟨rfl, hom, -⟩
  have sz_14 := (hom).size
  have F0_14 := Lib.hid (only_bk (F0_13).out hom (by omega))
  clear F0_13
  have F1_14 := Lib.hid (only_bk (F1_13).out hom (by omega))
  clear F1_13
  have R0_14 := Lib.hid ((R0_13).out.below ((hom).to_below (B := w.heap.size) (by omega) (by omega)) (Nat.le_refl _))
  clear R0_13
  have R1_14 := Lib.hid ((R1_13).out.below ((hom).to_below (B := w.heap.size) (by omega) (by omega)) (Nat.le_refl _))
  clear R1_13
  have BEL_14 := Lib.hid ((BEL_13).out.trans ((hom).to_below (by omega) (by omega)))
  clear BEL_13
  have GW_14 := Lib.hid (only_bk (GW_13).out hom (by omega))
  clear GW_13
  have W0_14 := Lib.hid ((W0_13).out.keep (Nat.le_refl _) (Nat.le_refl _) fun i h1 h2 => (hom).block i (by omega) (by omega))
  clear W0_13
  have X0_14 := Lib.hid (only_bk (X0_13).out hom (by omega))
  clear X0_13
  clear Xo1_13
  have X1_14 := Lib.hid (only_bk (X1_13).out hom (by omega))
  clear X1_13
  have G0_14 := Lib.hid ((G0_13).out.keep (Nat.le_refl _) (Nat.le_refl _) fun i h1 h2 => (hom).block i (by omega) (by omega))
  clear G0_13
  have GG_14 := Lib.hid (only_bk (GG_13).out hom (by omega))
  clear GG_13
  clear hom
  have c_GW_0 : wm1.cell? ⟨bb0, 0, none⟩ = some (.slice hw.A0 E.f0.length hw.c0) := (GW_14).out.cell 0
  have c_GW_1 : wm1.cell? ⟨bb0, 1, none⟩ = some (.slice hw.A1 E.f1.length hw.c1) := (GW_14).out.cell 1
  have c_GW_2 : wm1.cell? ⟨bb0, 2, none⟩ = some (.slice hw.A2 E.f2.length hw.c2) := (GW_14).out.cell 2
  have l_GW : bb0 < wm1.heap.size := (GW_14).out.lt
  have c_GG_0 : wm1.cell? ⟨wi.heap.size, 0, none⟩ = some (.slice hg.A0 E.f0.length hg.c0) := (GG_14).out.cell 0
  have c_GG_1 : wm1.cell? ⟨wi.heap.size, 1, none⟩ = some (.slice hg.A1 E.f1.length hg.c1) := (GG_14).out.cell 1
  have c_GG_2 : wm1.cell? ⟨wi.heap.size, 2, none⟩ = some (.slice hg.A2 E.f2.length hg.c2) := (GG_14).out.cell 2
  have l_GG : wi.heap.size < wm1.heap.size := (GG_14).out.lt
  go_wp2_with fail
  clear c_GW_0 c_GW_1 c_GW_2 l_GW c_GG_0 c_GG_1 c_GG_2 l_GG
  refine (eqOc_any hg hw E E wm1 wm1.heap.size ((G0_14).out.rd.up (Below.refl wm1.heap.size wm1) (by omega) (by omega)) ((W0_14).out.rd.up (Below.refl wm1.heap.size wm1) (by omega) (by omega)) (Nat.le_refl _) (OcS_L HSE.out) (OcS_L HSE.out) true (Lib.hid (by simp))).mono ?_
  rintro e wq1 ⟨rfl, hbq⟩
  have sz_15 := (hbq).size
  have F0_15 := Lib.hid ((F0_14).out.below hbq (F0_14).out.lt)
  clear F0_14
  have F1_15 := Lib.hid ((F1_14).out.below hbq (F1_14).out.lt)
  clear F1_14
  have R0_15 := Lib.hid ((R0_14).out.below hbq (by omega))
  clear R0_14
  have R1_15 := Lib.hid ((R1_14).out.below hbq (by omega))
  clear R1_14
  have BEL_15 := Lib.hid (below_on (BEL_14).out hbq)
  clear BEL_14
  have GW_15 := Lib.hid ((GW_14).out.below hbq (GW_14).out.lt)
  clear GW_14
  have W0_15 := Lib.hid ((W0_14).out.below hbq (by omega))
  clear W0_14
  have X0_15 := Lib.hid ((X0_14).out.below hbq (X0_14).out.lt)
  clear X0_14
  have X1_15 := Lib.hid ((X1_14).out.below hbq (X1_14).out.lt)
  clear X1_14
  have G0_15 := Lib.hid ((G0_14).out.below hbq (by omega))
  clear G0_14
  have GG_15 := Lib.hid ((GG_14).out.below hbq (GG_14).out.lt)
  clear GG_14
  clear hbq
  have c_GG_0 : wq1.cell? ⟨wi.heap.size, 0, none⟩ = some (.slice hg.A0 E.f0.length hg.c0) := (GG_15).out.cell 0
  have c_GG_1 : wq1.cell? ⟨wi.heap.size, 1, none⟩ = some (.slice hg.A1 E.f1.length hg.c1) := (GG_15).out.cell 1
  have c_GG_2 : wq1.cell? ⟨wi.heap.size, 2, none⟩ = some (.slice hg.A2 E.f2.length hg.c2) := (GG_15).out.cell 2
  have l_GG : wi.heap.size < wq1.heap.size := (GG_15).out.lt
  go_wp2_with fail
  clear c_GG_0 c_GG_1 c_GG_2 l_GG
  refine (markOc_any hg E 1 wq1 Vx1.heap.size wi.heap.size (G0_15).out (by omega) HSE.out (by omega) (by omega)).mono ?_
  rintro e wmg ⟨rfl, hom, owm⟩
  have sz_16 := (hom).size
  have F0_16 := Lib.hid (only_bk (F0_15).out hom (by omega))
  clear F0_15
  have F1_16 := Lib.hid (only_bk (F1_15).out hom (by omega))
  clear F1_15
  have R0_16 := Lib.hid ((R0_15).out.below ((hom).to_below (B := w.heap.size) (by omega) (by omega)) (Nat.le_refl _))
  clear R0_15
  have R1_16 := Lib.hid ((R1_15).out.below ((hom).to_below (B := w.heap.size) (by omega) (by omega)) (Nat.le_refl _))
  clear R1_15
  have BEL_16 := Lib.hid ((BEL_15).out.trans ((hom).to_below (by omega) (by omega)))
  clear BEL_15
  have GW_16 := Lib.hid (only_bk (GW_15).out hom (by omega))
  clear GW_15
  have W0_16 := Lib.hid ((W0_15).out.keep (Nat.le_refl _) (Nat.le_refl _) fun i h1 h2 => (hom).block i (by omega) (by omega))
  clear W0_15
  have X0_16 := Lib.hid (only_bk (X0_15).out hom (by omega))
  clear X0_15
  have X1_16 := Lib.hid (only_bk (X1_15).out hom (by omega))
  clear X1_15
  clear G0_15
  have GG_16 := Lib.hid (only_bk (GG_15).out hom (by omega))
  clear GG_15
  have M0_16 := Lib.hid (owm)
  clear hom owm
  have aE : 0 ≤ allOc E ∧ allOc E ≤ 9000000 := by
    have t0 := HSE.out
    obtain ⟨q0, q1, q2⟩ := t0
    unfold allOc; omega
  have c_GG_0 : wmg.cell? ⟨wi.heap.size, 0, none⟩ = some (.slice hg.A0 E.f0.length hg.c0) := (GG_16).out.cell 0
  have c_GG_1 : wmg.cell? ⟨wi.heap.size, 1, none⟩ = some (.slice hg.A1 E.f1.length hg.c1) := (GG_16).out.cell 1
  have c_GG_2 : wmg.cell? ⟨wi.heap.size, 2, none⟩ = some (.slice hg.A2 E.f2.length hg.c2) := (GG_16).out.cell 2
  have l_GG : wi.heap.size < wmg.heap.size := (GG_16).out.lt
  go_wp2_with fail
  clear c_GG_0 c_GG_1 c_GG_2 l_GG
  refine (heldOc_any hg E 1 wmg _ (M0_16).out.rd (by omega) HSE.out (by omega) (by omega)).mono ?_
  rintro e wh0 ⟨rfl, hbh⟩
  have sz_17 := (hbh).size
  have F0_17 := Lib.hid ((F0_16).out.below hbh (F0_16).out.lt)
  clear F0_16
  have F1_17 := Lib.hid ((F1_16).out.below hbh (F1_16).out.lt)
  clear F1_16
  have R0_17 := Lib.hid ((R0_16).out.below hbh (by omega))
  clear R0_16
  have R1_17 := Lib.hid ((R1_16).out.below hbh (by omega))
  clear R1_16
  have BEL_17 := Lib.hid (below_on (BEL_16).out hbh)
  clear BEL_16
  have GW_17 := Lib.hid ((GW_16).out.below hbh (GW_16).out.lt)
  clear GW_16
  have W0_17 := Lib.hid ((W0_16).out.below hbh (by omega))
  clear W0_16
  have X0_17 := Lib.hid ((X0_16).out.below hbh (X0_16).out.lt)
  clear X0_16
  have X1_17 := Lib.hid ((X1_16).out.below hbh (X1_16).out.lt)
  clear X1_16
  have GG_17 := Lib.hid ((GG_16).out.below hbh (GG_16).out.lt)
  clear GG_16
  have M0_17 := Lib.hid ((M0_16).out.below hbh (by omega))
  clear M0_16
  clear hbh
  have c_F0_0 : wh0.cell? ⟨w.heap.size, 0, none⟩ = some (.slice h0.A o0.length h0.c) := (F0_17).out.cell 0
  have l_F0 : w.heap.size < wh0.heap.size := (F0_17).out.lt
  have c_F1_0 : wh0.cell? ⟨w.heap.size + 1, 0, none⟩ = some (.slice h1.h.A0 o1.st.f0.length h1.h.c0) := (F1_17).out.cell 0
  have c_F1_1 : wh0.cell? ⟨w.heap.size + 1, 1, none⟩ = some (.slice h1.h.A1 o1.st.f1.length h1.h.c1) := (F1_17).out.cell 1
  have c_F1_2 : wh0.cell? ⟨w.heap.size + 1, 2, none⟩ = some (.slice h1.h.A2 o1.st.f2.length h1.h.c2) := (F1_17).out.cell 2
  have c_F1_3 : wh0.cell? ⟨w.heap.size + 1, 3, none⟩ = some (.slice h1.h.A3 o1.st.f3.length h1.h.c3) := (F1_17).out.cell 3
  have c_F1_4 : wh0.cell? ⟨w.heap.size + 1, 4, none⟩ = some (.slice h1.h.A4 o1.st.f4.length h1.h.c4) := (F1_17).out.cell 4
  have c_F1_5 : wh0.cell? ⟨w.heap.size + 1, 5, none⟩ = some (.slice h1.n.A o1.n.length h1.n.c) := (F1_17).out.cell 5
  have c_F1_6 : wh0.cell? ⟨w.heap.size + 1, 6, none⟩ = some (.slice h1.v.A o1.v.length h1.v.c) := (F1_17).out.cell 6
  have c_F1_7 : wh0.cell? ⟨w.heap.size + 1, 7, none⟩ = some (.slice h1.l.A o1.l.length h1.l.c) := (F1_17).out.cell 7
  have c_F1_8 : wh0.cell? ⟨w.heap.size + 1, 8, none⟩ = some (.slice h1.k.A o1.k.length h1.k.c) := (F1_17).out.cell 8
  have c_F1_9 : wh0.cell? ⟨w.heap.size + 1, 9, none⟩ = some (.slice h1.f.A o1.f.length h1.f.c) := (F1_17).out.cell 9
  have l_F1 : w.heap.size + 1 < wh0.heap.size := (F1_17).out.lt
  have allS : ∀ w', Below wh0.heap.size wh0 w' → (Below wh0.heap.size wh0 w' ∧ w'.cell? ⟨w.heap.size, 0, none⟩ = some (.slice h0.A o0.length h0.c) ∧ w'.cell? ⟨w.heap.size + 1, 0, none⟩ = some (.slice h1.h.A0 o1.st.f0.length h1.h.c0) ∧ w'.cell? ⟨w.heap.size + 1, 1, none⟩ = some (.slice h1.h.A1 o1.st.f1.length h1.h.c1) ∧ w'.cell? ⟨w.heap.size + 1, 2, none⟩ = some (.slice h1.h.A2 o1.st.f2.length h1.h.c2) ∧ w'.cell? ⟨w.heap.size + 1, 3, none⟩ = some (.slice h1.h.A3 o1.st.f3.length h1.h.c3) ∧ w'.cell? ⟨w.heap.size + 1, 4, none⟩ = some (.slice h1.h.A4 o1.st.f4.length h1.h.c4) ∧ w'.cell? ⟨w.heap.size + 1, 5, none⟩ = some (.slice h1.n.A o1.n.length h1.n.c) ∧ w'.cell? ⟨w.heap.size + 1, 6, none⟩ = some (.slice h1.v.A o1.v.length h1.v.c) ∧ w'.cell? ⟨w.heap.size + 1, 7, none⟩ = some (.slice h1.l.A o1.l.length h1.l.c) ∧ w'.cell? ⟨w.heap.size + 1, 8, none⟩ = some (.slice h1.k.A o1.k.length h1.k.c) ∧ w'.cell? ⟨w.heap.size + 1, 9, none⟩ = some (.slice h1.f.A o1.f.length h1.f.c)) := fun w' hb => ⟨hb, ((F0_17).out.below hb (F0_17).out.lt).cell 0, ((F1_17).out.below hb (F1_17).out.lt).cell 0, ((F1_17).out.below hb (F1_17).out.lt).cell 1, ((F1_17).out.below hb (F1_17).out.lt).cell 2, ((F1_17).out.below hb (F1_17).out.lt).cell 3, ((F1_17).out.below hb (F1_17).out.lt).cell 4, ((F1_17).out.below hb (F1_17).out.lt).cell 5, ((F1_17).out.below hb (F1_17).out.lt).cell 6, ((F1_17).out.below hb (F1_17).out.lt).cell 7, ((F1_17).out.below hb (F1_17).out.lt).cell 8, ((F1_17).out.below hb (F1_17).out.lt).cell 9⟩
  have AllS := Lib.hid allS
  clear allS
  have hct := fun (t'0 : PgH) (t'1 : VwdH) (V' : World) (B' : Nat) (r'0 : PgR V' B' t'0 o0) (r'1 : VwdR V' B' t'1 o1) (hB' : B' ≤ V'.heap.size) => inviewout_any t'0 o0 t'1 o1 V' B' r'0 r'1 hB' HS0.out HS1.out
  rw [HE.out, HR.out] at hct
  have Hct := Lib.hid hct
  clear hct
  go_upto_region 31 with (fail)
  go_cut [15, 16] (fun sa sb wx => GotOOc wh0 E r sa sb wx)
  case first =>
    go_region_held3 (fun w' => Below wh0.heap.size wh0 w' ∧ w'.cell? ⟨w.heap.size, 0, none⟩ = some (.slice h0.A o0.length h0.c) ∧ w'.cell? ⟨w.heap.size + 1, 0, none⟩ = some (.slice h1.h.A0 o1.st.f0.length h1.h.c0) ∧ w'.cell? ⟨w.heap.size + 1, 1, none⟩ = some (.slice h1.h.A1 o1.st.f1.length h1.h.c1) ∧ w'.cell? ⟨w.heap.size + 1, 2, none⟩ = some (.slice h1.h.A2 o1.st.f2.length h1.h.c2) ∧ w'.cell? ⟨w.heap.size + 1, 3, none⟩ = some (.slice h1.h.A3 o1.st.f3.length h1.h.c3) ∧ w'.cell? ⟨w.heap.size + 1, 4, none⟩ = some (.slice h1.h.A4 o1.st.f4.length h1.h.c4) ∧ w'.cell? ⟨w.heap.size + 1, 5, none⟩ = some (.slice h1.n.A o1.n.length h1.n.c) ∧ w'.cell? ⟨w.heap.size + 1, 6, none⟩ = some (.slice h1.v.A o1.v.length h1.v.c) ∧ w'.cell? ⟨w.heap.size + 1, 7, none⟩ = some (.slice h1.l.A o1.l.length h1.l.c) ∧ w'.cell? ⟨w.heap.size + 1, 8, none⟩ = some (.slice h1.k.A o1.k.length h1.k.c) ∧ w'.cell? ⟨w.heap.size + 1, 9, none⟩ = some (.slice h1.f.A o1.f.length h1.f.c)) (first | (go_split_ands; exact AllS.out _ (by go_grown)) | (exact AllS.out _ (by go_grown))) (first | (go_at_call 8; go_split_ands; refine (toPg_any h0 o0 _ w.heap.size ((R0_17).out.below (show Below wh0.heap.size wh0 _ from by go_grown) (by omega)) (Nat.le_trans (by omega) (show Below wh0.heap.size wh0 _ from by go_grown).size) HS0.out).mono ?_; rintro e v0 ⟨t0, rfl, hv0, -, ov0⟩; obtain ⟨hcc0, hff0⟩ := bcell hv0; have Ov0 := Lib.hid ov0.rd; have hBv0 : Below wh0.heap.size wh0 v0 := below_on (by go_grown) hv0; have hzv0 := hv0.size; (try simp at hzv0); have hy0 := hBv0.size; (try (have hsv0 : wh0.heap.size < v0.heap.size := (by omega))); have kv0 := Lib.hid hv0; clear ov0 hv0) | (go_at_call 20; go_split_ands; refine (toVwd_any h1 o1 _ w.heap.size ((R1_17).out.below (show Below wh0.heap.size wh0 _ from by go_grown) (by omega)) (Nat.le_trans (by omega) (show Below wh0.heap.size wh0 _ from by go_grown).size) HS1.out).mono ?_; rintro e v1 ⟨t1, rfl, hv1, -, ov1⟩; obtain ⟨hcc1, hff1⟩ := bcell hv1; have Ov1 := Lib.hid ov1.rd; have hBv1 : Below wh0.heap.size wh0 v1 := below_on (by go_grown) hv1; have hzv1 := hv1.size; (try simp at hzv1); have hy1 := hBv1.size; (try (have hsv1 : wh0.heap.size < v1.heap.size := (by omega))); have hk0_1 : Below v0.heap.size v0 v1 := below_on (by go_grown) hv1; (try (have hsk0_1 : v0.heap.size < v1.heap.size := (by omega))); have kv1 := Lib.hid hv1; clear ov1 hv1) | (go_at_call 26; go_split_ands; refine (Hct.out t0 t1 _ v1.heap.size (Ov0.out.up (show Below v0.heap.size v0 _ from by go_grown) (Nat.le_refl _) hk0_1.size) (Ov1.out.below (show Below v1.heap.size v1 _ from by go_grown) (Nat.le_refl _)) (show Below v1.heap.size v1 _ from by go_grown).size).mono ?_; rintro e vs ⟨hans, rfl, hvs, -, ivs⟩; obtain ⟨hccs, hffs⟩ := bcell hvs; have Iv := Lib.hid ivs; have hBvs : Below wh0.heap.size wh0 vs := below_on (by go_grown) hvs; have hzvs := hvs.size; (try simp at hzvs); have hyvs := hBvs.size; (try (have hsvs : wh0.heap.size < vs.heap.size := (by omega))); (try (have hsks_0 : v0.heap.size < vs.heap.size := (by omega))); (try (have hsks_1 : v1.heap.size < vs.heap.size := (by omega))); have kvs := Lib.hid hvs; clear ivs hvs))
    all_goals go_wp2_with fail
    all_goals go_meet
    · exact gotOOc_late hBv1 kvs.out Iv.out
    · exact gotOOc_early (hBv1.alloc hy1 _) (Bk.new v1 #[.slice none 0 0, .slice none 0 0, .slice none 0 0] 60) hy1 kvs.out Iv.out
    · exact gotOOc_early hBv1 ((Bk.new v0 #[.slice none 0 0, .slice none 0 0, .slice none 0 0] 60).below kv1.out (by simp)) hy0 kvs.out Iv.out
    · exact gotOOc_early hBv1 (((bk_drew (Bk.new wh0 #[.slice none 0 0, .slice none 0 0, .slice none 0 0] 60)).below kv0.out (by show _ < (World.alloc _ _).heap.size; simp)).below kv1.out (by omega)) (Nat.le_refl _) kvs.out Iv.out
  clear AllS Hct
  obtain ⟨bb1, hh, lo1, hi1, rfl, rfl, hby, hky, hiy, i1y1, i2y1, i3y1, i4y1, i5y1, i6y1⟩ := hcut
  obtain ⟨yr1, rfl⟩ : ∃ V, V = wc := ⟨_, rfl⟩
  clear c_F0_0 l_F0 c_F1_0 c_F1_1 c_F1_2 c_F1_3 c_F1_4 c_F1_5 c_F1_6 c_F1_7 c_F1_8 c_F1_9 l_F1
  have sz_18 := (hby).size
  have F0_18 := Lib.hid ((F0_17).out.below hby (F0_17).out.lt)
  clear F0_17
  have F1_18 := Lib.hid ((F1_17).out.below hby (F1_17).out.lt)
  clear F1_17
  have R0_18 := Lib.hid ((R0_17).out.below hby (by omega))
  clear R0_17
  have R1_18 := Lib.hid ((R1_17).out.below hby (by omega))
  clear R1_17
  have BEL_18 := Lib.hid (below_on (BEL_17).out hby)
  clear BEL_17
  have GW_18 := Lib.hid ((GW_17).out.below hby (GW_17).out.lt)
  clear GW_17
  have W0_18 := Lib.hid ((W0_17).out.below hby (by omega))
  clear W0_17
  have X0_18 := Lib.hid ((X0_17).out.below hby (X0_17).out.lt)
  clear X0_17
  have X1_18 := Lib.hid ((X1_17).out.below hby (X1_17).out.lt)
  clear X1_17
  have GG_18 := Lib.hid ((GG_17).out.below hby (GG_17).out.lt)
  clear GG_17
  have M0_18 := Lib.hid ((M0_17).out.below hby (by omega))
  clear M0_17
  clear hby
  have GH_18 := Lib.hid (hky)
  have H0_18 := Lib.hid (hiy)
  clear hky hiy
  have c_GW_0 : yr1.cell? ⟨bb0, 0, none⟩ = some (.slice hw.A0 E.f0.length hw.c0) := (GW_18).out.cell 0
  have c_GW_1 : yr1.cell? ⟨bb0, 1, none⟩ = some (.slice hw.A1 E.f1.length hw.c1) := (GW_18).out.cell 1
  have c_GW_2 : yr1.cell? ⟨bb0, 2, none⟩ = some (.slice hw.A2 E.f2.length hw.c2) := (GW_18).out.cell 2
  have l_GW : bb0 < yr1.heap.size := (GW_18).out.lt
  have c_GH_0 : yr1.cell? ⟨bb1, 0, none⟩ = some (.slice hh.A0 E.f0.length hh.c0) := (GH_18).out.cell 0
  have c_GH_1 : yr1.cell? ⟨bb1, 1, none⟩ = some (.slice hh.A1 E.f1.length hh.c1) := (GH_18).out.cell 1
  have c_GH_2 : yr1.cell? ⟨bb1, 2, none⟩ = some (.slice hh.A2 E.f2.length hh.c2) := (GH_18).out.cell 2
  have l_GH : bb1 < yr1.heap.size := (GH_18).out.lt
  go_wp2_with fail
  clear c_GW_0 c_GW_1 c_GW_2 l_GW c_GH_0 c_GH_1 c_GH_2 l_GH
  refine (eqOc_any hh hw E E yr1 yr1.heap.size ((H0_18).out.rd.up (Below.refl yr1.heap.size yr1) (by omega) (by omega)) ((W0_18).out.rd.up (Below.refl yr1.heap.size yr1) (by omega) (by omega)) (Nat.le_refl _) (OcS_L HSE.out) (OcS_L HSE.out) true (Lib.hid (by simp))).mono ?_
  rintro e wq2 ⟨rfl, hbq⟩
  have sz_19 := (hbq).size
  have F0_19 := Lib.hid ((F0_18).out.below hbq (F0_18).out.lt)
  clear F0_18
  have F1_19 := Lib.hid ((F1_18).out.below hbq (F1_18).out.lt)
  clear F1_18
  have R0_19 := Lib.hid ((R0_18).out.below hbq (by omega))
  clear R0_18
  have R1_19 := Lib.hid ((R1_18).out.below hbq (by omega))
  clear R1_18
  have BEL_19 := Lib.hid (below_on (BEL_18).out hbq)
  clear BEL_18
  have GW_19 := Lib.hid ((GW_18).out.below hbq (GW_18).out.lt)
  clear GW_18
  have W0_19 := Lib.hid ((W0_18).out.below hbq (by omega))
  clear W0_18
  have X0_19 := Lib.hid ((X0_18).out.below hbq (X0_18).out.lt)
  clear X0_18
  have X1_19 := Lib.hid ((X1_18).out.below hbq (X1_18).out.lt)
  clear X1_18
  have GG_19 := Lib.hid ((GG_18).out.below hbq (GG_18).out.lt)
  clear GG_18
  have M0_19 := Lib.hid ((M0_18).out.below hbq (by omega))
  clear M0_18
  have GH_19 := Lib.hid ((GH_18).out.below hbq (GH_18).out.lt)
  clear GH_18
  have H0_19 := Lib.hid ((H0_18).out.below hbq (by omega))
  clear H0_18
  clear hbq
  have c_GG_0 : wq2.cell? ⟨wi.heap.size, 0, none⟩ = some (.slice hg.A0 E.f0.length hg.c0) := (GG_19).out.cell 0
  have c_GG_1 : wq2.cell? ⟨wi.heap.size, 1, none⟩ = some (.slice hg.A1 E.f1.length hg.c1) := (GG_19).out.cell 1
  have c_GG_2 : wq2.cell? ⟨wi.heap.size, 2, none⟩ = some (.slice hg.A2 E.f2.length hg.c2) := (GG_19).out.cell 2
  have l_GG : wi.heap.size < wq2.heap.size := (GG_19).out.lt
  go_wp2_with fail
  clear c_GG_0 c_GG_1 c_GG_2 l_GG
  refine (heldOc_any hg E 1 wq2 _ (M0_19).out.rd (by omega) HSE.out (by omega) (by omega)).mono ?_
  rintro e wh1 ⟨rfl, hbh⟩
  have sz_20 := (hbh).size
  have F0_20 := Lib.hid ((F0_19).out.below hbh (F0_19).out.lt)
  clear F0_19
  have F1_20 := Lib.hid ((F1_19).out.below hbh (F1_19).out.lt)
  clear F1_19
  have R0_20 := Lib.hid ((R0_19).out.below hbh (by omega))
  clear R0_19
  have R1_20 := Lib.hid ((R1_19).out.below hbh (by omega))
  clear R1_19
  have BEL_20 := Lib.hid (below_on (BEL_19).out hbh)
  clear BEL_19
  have GW_20 := Lib.hid ((GW_19).out.below hbh (GW_19).out.lt)
  clear GW_19
  have W0_20 := Lib.hid ((W0_19).out.below hbh (by omega))
  clear W0_19
  have X0_20 := Lib.hid ((X0_19).out.below hbh (X0_19).out.lt)
  clear X0_19
  have X1_20 := Lib.hid ((X1_19).out.below hbh (X1_19).out.lt)
  clear X1_19
  have GG_20 := Lib.hid ((GG_19).out.below hbh (GG_19).out.lt)
  clear GG_19
  have M0_20 := Lib.hid ((M0_19).out.below hbh (by omega))
  clear M0_19
  have GH_20 := Lib.hid ((GH_19).out.below hbh (GH_19).out.lt)
  clear GH_19
  have H0_20 := Lib.hid ((H0_19).out.below hbh (by omega))
  clear H0_19
  clear hbh
  have hfin := (BEL_20).out
  go_wp2
  go_ret
  exact ⟨rfl, hfin⟩
end Go.Proofs.Ytaghidaamcnpkab
