/-
  The walk of the law on Before: it comes to true, whatever the arguments and the memory, and leaves all memory that was there as it was.
-/
import Derived.Test.YtidibnmlceccnaaSBef
import Derived.Deep.RegionHeld3
import Derived.Deep.DeepCutAuto
namespace Go.Proofs.Ytidibnmlceccnaa
open Go.RowKit Pl Go.BigFrame
set_option maxHeartbeats 16000000
set_option maxRecDepth 100000
set_option linter.unusedVariables false

theorem lwBefore (h0 : PgH) (o0 : Pg) (h1 : IsH) (o1 : Is) (w : World) (hR0 : PgR w w.heap.size h0 o0) (hL0 : PgL o0 maxLen) (hR1 : IsR w w.heap.size h1 o1) (hL1 : IsL o1 maxLen) :
    Calls Try.prog 9 #[PgV h0 o0, IsV h1 o1] w fun e w' => e = .returned (.bool true) ∧ Below w.heap.size w w' := by
  obtain ⟨W, hW⟩ : ∃ W, W = (w.alloc (.cells #[.slice h0.A o0.length h0.c] 24)) := ⟨_, rfl⟩
  have hbW : Below w.heap.size w W := by rw [hW]; go_grown
  have hsW : W.heap.size = w.heap.size + 1 := by rw [hW]; simp
  have k0 : Bk W (w.heap.size) 24 #[.slice h0.A o0.length h0.c] := by
    rw [hW]; have := Bk.new w #[.slice h0.A o0.length h0.c] 24
    exact this
  have HW := Lib.hid hW
  have F0_0 := Lib.hid (k0)
  have R0_0 := Lib.hid (hR0.below hbW (Nat.le_refl _))
  have R1_0 := Lib.hid (hR1.below hbW (Nat.le_refl _))
  have BEL_0 := Lib.hid (hbW)
  have hsWa := Nat.le_of_eq hsW
  have hsWb := Nat.le_of_eq hsW.symm
  clear hW hsW hbW k0 hR0 hR1
  obtain ⟨z0, hz0⟩ : ∃ z, szPg 1048576 o0 = z := ⟨_, rfl⟩
  have Z0 := Lib.hid hz0
  clear hz0
  have u0 : -1 ≤ z0 ∧ z0 ≤ 1048576 := by rw [← Z0.out]; exact szPg_ge _ _ (by omega)
  by_cases n1 : (1048576 : Int) < (o1.length : Int)
  · go_enter Try.func9, Try.ntmps9
    go_wp2
    rw [← HW.out]
    go_ret
    exact ⟨rfl, (BEL_0).out⟩
  have HS1 := Lib.hid (show IsS o1 from ⟨by omega⟩)
  by_cases n0 : z0 < 0
  · skip
    go_enter Try.func9, Try.ntmps9
    go_wp2_with fail
    rw [← HW.out]
    refine (szPg_any h0 o0 1048576 W w.heap.size (R0_0).out (by omega) hL0 (by omega) (by omega) z0 Z0).mono ?_
    rintro e ws0 ⟨rfl, hbs0⟩
    have sz_1 := (hbs0).size
    have F0_1 := Lib.hid ((F0_0).out.below hbs0 (F0_0).out.lt)
    clear F0_0
    have R0_1 := Lib.hid ((R0_0).out.below hbs0 (by omega))
    clear R0_0
    have R1_1 := Lib.hid ((R1_0).out.below hbs0 (by omega))
    clear R1_0
    have BEL_1 := Lib.hid (below_on (BEL_0).out hbs0)
    clear BEL_0
    clear hbs0
    go_wp2
    go_ret
    exact ⟨rfl, (BEL_1).out⟩
  have S0 : PgS o0 := szPg_small (by rw [Z0.out]; omega) (by omega) (by omega)
  have HS0 := Lib.hid S0
  clear S0
  obtain ⟨E, hE⟩ : ∃ E, befE o0 o1 = E := ⟨_, rfl⟩
  obtain ⟨r, hr⟩ : ∃ r, evR o0 o1 = r := ⟨_, rfl⟩
  have HE := Lib.hid hE
  have HR := Lib.hid hr
  have hSE : BssS E := by rw [← hE]; exact befE_small HS0.out HS1.out
  have HSE := Lib.hid hSE
  clear hE hSE
  clear hr
  go_enter Try.func9, Try.ntmps9
  go_wp2_with fail
  rw [← HW.out]
  refine (szPg_any h0 o0 1048576 W w.heap.size (R0_0).out (by omega) hL0 (by omega) (by omega) z0 Z0).mono ?_
  rintro e ws0 ⟨rfl, hbs0⟩
  have sz_1 := (hbs0).size
  have F0_1 := Lib.hid ((F0_0).out.below hbs0 (F0_0).out.lt)
  clear F0_0
  have R0_1 := Lib.hid ((R0_0).out.below hbs0 (by omega))
  clear R0_0
  have R1_1 := Lib.hid ((R1_0).out.below hbs0 (by omega))
  clear R1_0
  have BEL_1 := Lib.hid (below_on (BEL_0).out hbs0)
  clear BEL_0
  clear hbs0
  have c_F0_0 : ws0.cell? ⟨w.heap.size, 0, none⟩ = some (.slice h0.A o0.length h0.c) := (F0_1).out.cell 0
  have l_F0 : w.heap.size < ws0.heap.size := (F0_1).out.lt
  go_wp2_with fail
  clear c_F0_0 l_F0
  refine (toPg_any h0 o0 ws0 w.heap.size (R0_1).out (by omega) HS0.out).mono ?_
  rintro e wt0 ⟨t0, rfl, hbt, hlt, owt⟩
  have sz_2 := (hbt).size
  have F0_2 := Lib.hid ((F0_1).out.below hbt (F0_1).out.lt)
  clear F0_1
  have R0_2 := Lib.hid ((R0_1).out.below hbt (by omega))
  clear R0_1
  have R1_2 := Lib.hid ((R1_1).out.below hbt (by omega))
  clear R1_1
  have BEL_2 := Lib.hid (below_on (BEL_1).out hbt)
  clear BEL_1
  have T0_2 := Lib.hid (owt.rd)
  clear hbt hlt owt
  go_wp2_with fail
  refine (toIs_any h1 o1 wt0 w.heap.size (R1_2).out (by omega) HS1.out).mono ?_
  rintro e wt1 ⟨t1, rfl, hbt, hlt, owt⟩
  have sz_3 := (hbt).size
  have F0_3 := Lib.hid ((F0_2).out.below hbt (F0_2).out.lt)
  clear F0_2
  have R0_3 := Lib.hid ((R0_2).out.below hbt (by omega))
  clear R0_2
  have R1_3 := Lib.hid ((R1_2).out.below hbt (by omega))
  clear R1_2
  have BEL_3 := Lib.hid (below_on (BEL_2).out hbt)
  clear BEL_2
  have T0_3 := Lib.hid ((T0_2).out.below hbt (by omega))
  clear T0_2
  have T1_3 := Lib.hid (owt.rd)
  clear hbt hlt owt
  go_wp2_with fail
  have hs := sbefore_any t0 o0 t1 o1 wt1 wt1.heap.size ((T0_3).out.up (Below.refl wt1.heap.size wt1) (by omega) (by omega)) ((T1_3).out.up (Below.refl wt1.heap.size wt1) (by omega) (by omega)) (Nat.le_refl _) HS0.out HS1.out
  rw [HE.out, HR.out] at hs
  refine hs.mono ?_
  clear hs
  rintro e wu ⟨hw, rfl, hba, hla, owa⟩
  have sz_4 := (hba).size
  have F0_4 := Lib.hid ((F0_3).out.below hba (F0_3).out.lt)
  clear F0_3
  have R0_4 := Lib.hid ((R0_3).out.below hba (by omega))
  clear R0_3
  have R1_4 := Lib.hid ((R1_3).out.below hba (by omega))
  clear R1_3
  have BEL_4 := Lib.hid (below_on (BEL_3).out hba)
  clear BEL_3
  have T0_4 := Lib.hid ((T0_3).out.below hba (by omega))
  clear T0_3
  have T1_4 := Lib.hid ((T1_3).out.below hba (by omega))
  clear T1_3
  have W0_4 := Lib.hid (owa)
  clear hba hla owa
  clear T0_4
  clear T1_4
  have c_F0_0 : wu.cell? ⟨w.heap.size, 0, none⟩ = some (.slice h0.A o0.length h0.c) := (F0_4).out.cell 0
  have l_F0 : w.heap.size < wu.heap.size := (F0_4).out.lt
  go_wp2_with fail
  clear c_F0_0 l_F0
  refine (toPg_any h0 o0 wu w.heap.size (R0_4).out (by omega) HS0.out).mono ?_
  rintro e wx0 ⟨x0, rfl, hbt, hlt, owt⟩
  have sz_5 := (hbt).size
  have F0_5 := Lib.hid ((F0_4).out.below hbt (F0_4).out.lt)
  clear F0_4
  have R0_5 := Lib.hid ((R0_4).out.below hbt (by omega))
  clear R0_4
  have R1_5 := Lib.hid ((R1_4).out.below hbt (by omega))
  clear R1_4
  have BEL_5 := Lib.hid (below_on (BEL_4).out hbt)
  clear BEL_4
  have W0_5 := Lib.hid ((W0_4).out.below hbt (by omega))
  clear W0_4
  clear hbt hlt
  have Xo0_5 := Lib.hid (owt)
  have Xr0_5 := Lib.hid (owt.rd)
  clear owt
  go_wp2_with fail
  obtain ⟨Vx0, hVx0⟩ : ∃ V, V = wx0.alloc (.cells #[.slice x0.A o0.length x0.c] 32) := ⟨_, rfl⟩
  rw [← hVx0]
  have bVx0 : Below wx0.heap.size wx0 Vx0 := by rw [hVx0]; go_grown
  have zVx0 : Vx0.heap.size = wx0.heap.size + 1 := by rw [hVx0]; simp
  have kVx0 : Bk Vx0 wx0.heap.size 32 #[.slice x0.A o0.length x0.c] := by rw [hVx0]; exact Bk.new _ _ _
  have zVx0a := Nat.le_of_eq zVx0
  have zVx0b := Nat.le_of_eq zVx0.symm
  clear zVx0
  have sz_6 := (bVx0).size
  have F0_6 := Lib.hid ((F0_5).out.below bVx0 (F0_5).out.lt)
  clear F0_5
  have R0_6 := Lib.hid ((R0_5).out.below bVx0 (by omega))
  clear R0_5
  have R1_6 := Lib.hid ((R1_5).out.below bVx0 (by omega))
  clear R1_5
  have BEL_6 := Lib.hid (below_on (BEL_5).out bVx0)
  clear BEL_5
  have W0_6 := Lib.hid ((W0_5).out.below bVx0 (by omega))
  clear W0_5
  have Xo0_6 := Lib.hid ((Xo0_5).out.below bVx0 (by omega))
  clear Xo0_5
  have Xr0_6 := Lib.hid ((Xr0_5).out.below bVx0 (by omega))
  clear Xr0_5
  have X0_6 := Lib.hid (kVx0)
  clear hVx0 bVx0 kVx0
  refine (toIs_any h1 o1 Vx0 w.heap.size (R1_6).out (by omega) HS1.out).mono ?_
  rintro e wx1 ⟨x1, rfl, hbt, hlt, owt⟩
  have sz_7 := (hbt).size
  have F0_7 := Lib.hid ((F0_6).out.below hbt (F0_6).out.lt)
  clear F0_6
  have R0_7 := Lib.hid ((R0_6).out.below hbt (by omega))
  clear R0_6
  have R1_7 := Lib.hid ((R1_6).out.below hbt (by omega))
  clear R1_6
  have BEL_7 := Lib.hid (below_on (BEL_6).out hbt)
  clear BEL_6
  have W0_7 := Lib.hid ((W0_6).out.below hbt (by omega))
  clear W0_6
  have Xo0_7 := Lib.hid ((Xo0_6).out.below hbt (by omega))
  clear Xo0_6
  have Xr0_7 := Lib.hid ((Xr0_6).out.below hbt (by omega))
  clear Xr0_6
  have X0_7 := Lib.hid ((X0_6).out.below hbt (X0_6).out.lt)
  clear X0_6
  clear hbt hlt
  have Xo1_7 := Lib.hid (owt)
  have Xr1_7 := Lib.hid (owt.rd)
  clear owt
  have c_X0_0 : wx1.cell? ⟨wx0.heap.size, 0, none⟩ = some (.slice x0.A o0.length x0.c) := (X0_7).out.cell 0
  have l_X0 : wx0.heap.size < wx1.heap.size := (X0_7).out.lt
  go_wp2_with fail
  clear c_X0_0 l_X0
  have hs := ibefore_any x0 o0 x1 o1 wx1 wx1.heap.size ((Xr0_7).out.up (Below.refl wx1.heap.size wx1) (by omega) (by omega)) ((Xr1_7).out.up (Below.refl wx1.heap.size wx1) (by omega) (by omega)) (Nat.le_refl _) HS0.out HS1.out
  rw [HE.out, HR.out] at hs
  refine hs.mono ?_
  clear hs
  rintro e wi ⟨hg, rfl, hba, hla, owa⟩
  have sz_8 := (hba).size
  have F0_8 := Lib.hid ((F0_7).out.below hba (F0_7).out.lt)
  clear F0_7
  have R0_8 := Lib.hid ((R0_7).out.below hba (by omega))
  clear R0_7
  have R1_8 := Lib.hid ((R1_7).out.below hba (by omega))
  clear R1_7
  have BEL_8 := Lib.hid (below_on (BEL_7).out hba)
  clear BEL_7
  have W0_8 := Lib.hid ((W0_7).out.below hba (by omega))
  clear W0_7
  have Xo0_8 := Lib.hid ((Xo0_7).out.below hba (by omega))
  clear Xo0_7
  have Xr0_8 := Lib.hid ((Xr0_7).out.below hba (by omega))
  clear Xr0_7
  have X0_8 := Lib.hid ((X0_7).out.below hba (X0_7).out.lt)
  clear X0_7
  have Xo1_8 := Lib.hid ((Xo1_7).out.below hba (by omega))
  clear Xo1_7
  have Xr1_8 := Lib.hid ((Xr1_7).out.below hba (by omega))
  clear Xr1_7
  have G0_8 := Lib.hid (owa)
  clear hba hla owa
  go_wp2_with fail
  refine (eqBss_any hg hw E E wi wi.heap.size ((G0_8).out.rd.up (Below.refl wi.heap.size wi) (by omega) (by omega)) ((W0_8).out.rd.up (Below.refl wi.heap.size wi) (by omega) (by omega)) (Nat.le_refl _) (BssS_L HSE.out) (BssS_L HSE.out) true (Lib.hid (by simp))).mono ?_
  rintro e wq0 ⟨rfl, hbq⟩
  have sz_9 := (hbq).size
  have F0_9 := Lib.hid ((F0_8).out.below hbq (F0_8).out.lt)
  clear F0_8
  have R0_9 := Lib.hid ((R0_8).out.below hbq (by omega))
  clear R0_8
  have R1_9 := Lib.hid ((R1_8).out.below hbq (by omega))
  clear R1_8
  have BEL_9 := Lib.hid (below_on (BEL_8).out hbq)
  clear BEL_8
  have W0_9 := Lib.hid ((W0_8).out.below hbq (by omega))
  clear W0_8
  have Xo0_9 := Lib.hid ((Xo0_8).out.below hbq (by omega))
  clear Xo0_8
  have Xr0_9 := Lib.hid ((Xr0_8).out.below hbq (by omega))
  clear Xr0_8
  have X0_9 := Lib.hid ((X0_8).out.below hbq (X0_8).out.lt)
  clear X0_8
  have Xo1_9 := Lib.hid ((Xo1_8).out.below hbq (by omega))
  clear Xo1_8
  have Xr1_9 := Lib.hid ((Xr1_8).out.below hbq (by omega))
  clear Xr1_8
  have G0_9 := Lib.hid ((G0_8).out.below hbq (by omega))
  clear G0_8
  clear hbq
  have allS : ∀ w', Below wq0.heap.size wq0 w' → (Below wq0.heap.size wq0 w' ∧ w'.cell? ⟨wx0.heap.size, 0, none⟩ = some (.slice x0.A o0.length x0.c) ∧ w'.cell? ⟨w.heap.size, 0, none⟩ = some (.slice h0.A o0.length h0.c)) := fun w' hb => ⟨hb, ((X0_9).out.below hb (X0_9).out.lt).cell 0, ((F0_9).out.below hb (F0_9).out.lt).cell 0⟩
  have AllS := Lib.hid allS
  clear allS
  go_wp2_with fail
  go_region_held3 (fun w' => Below wq0.heap.size wq0 w' ∧ w'.cell? ⟨wx0.heap.size, 0, none⟩ = some (.slice x0.A o0.length x0.c) ∧ w'.cell? ⟨w.heap.size, 0, none⟩ = some (.slice h0.A o0.length h0.c)) (first | (go_split_ands; exact AllS.out _ (by go_grown)) | (exact AllS.out _ (by go_grown))) (first | (go_at_call 17; go_split_ands; refine (toPg_any h0 o0 _ w.heap.size ((R0_9).out.below (show Below wq0.heap.size wq0 _ from by go_grown) (by omega)) (Nat.le_trans (by omega) (show Below wq0.heap.size wq0 _ from by go_grown).size) HS0.out).mono ?_; rintro e ve0 ⟨y0, rfl, hv, -, ov⟩; have Ov := Lib.hid ov.rd; have hBv : Below wq0.heap.size wq0 ve0 := below_on (by go_grown) hv; clear ov hv) | (go_at_call 21; go_split_ands; refine (eqPg_any x0 y0 o0 o0 _ ve0.heap.size ((Xr0_9).out.up (show Below wq0.heap.size wq0 _ from by go_grown) (by omega) (Nat.le_trans (by omega) hBv.size)) (Ov.out.below (show Below ve0.heap.size ve0 _ from by go_grown) (Nat.le_refl _)) (show Below ve0.heap.size ve0 _ from by go_grown).size (PgS_L HS0.out) (PgS_L HS0.out) true (Lib.hid (by simp))).mono ?_; rintro e vf0 ⟨rfl, hvf⟩; have hBvf : Below wq0.heap.size wq0 vf0 := below_on (by go_grown) hvf; clear hvf))
  clear AllS Ov hBv
  try clear hHeld
  have sz_10 := (hBvf).size
  have F0_10 := Lib.hid ((F0_9).out.below hBvf (F0_9).out.lt)
  clear F0_9
  have R0_10 := Lib.hid ((R0_9).out.below hBvf (by omega))
  clear R0_9
  have R1_10 := Lib.hid ((R1_9).out.below hBvf (by omega))
  clear R1_9
  have BEL_10 := Lib.hid (below_on (BEL_9).out hBvf)
  clear BEL_9
  have W0_10 := Lib.hid ((W0_9).out.below hBvf (by omega))
  clear W0_9
  have Xo0_10 := Lib.hid ((Xo0_9).out.below hBvf (by omega))
  clear Xo0_9
  have Xr0_10 := Lib.hid ((Xr0_9).out.below hBvf (by omega))
  clear Xr0_9
  have X0_10 := Lib.hid ((X0_9).out.below hBvf (X0_9).out.lt)
  clear X0_9
  have Xo1_10 := Lib.hid ((Xo1_9).out.below hBvf (by omega))
  clear Xo1_9
  have Xr1_10 := Lib.hid ((Xr1_9).out.below hBvf (by omega))
  clear Xr1_9
  have G0_10 := Lib.hid ((G0_9).out.below hBvf (by omega))
  clear G0_9
  clear hBvf
  go_wp2_with fail
  refine (toIs_any h1 o1 vf0 w.heap.size (R1_10).out (by omega) HS1.out).mono ?_
  rintro e ve1 ⟨y1, rfl, hbe, hle, owe⟩
  have sz_11 := (hbe).size
  have F0_11 := Lib.hid ((F0_10).out.below hbe (F0_10).out.lt)
  clear F0_10
  have R0_11 := Lib.hid ((R0_10).out.below hbe (by omega))
  clear R0_10
  have R1_11 := Lib.hid ((R1_10).out.below hbe (by omega))
  clear R1_10
  have BEL_11 := Lib.hid (below_on (BEL_10).out hbe)
  clear BEL_10
  have W0_11 := Lib.hid ((W0_10).out.below hbe (by omega))
  clear W0_10
  have Xo0_11 := Lib.hid ((Xo0_10).out.below hbe (by omega))
  clear Xo0_10
  have Xr0_11 := Lib.hid ((Xr0_10).out.below hbe (by omega))
  clear Xr0_10
  have X0_11 := Lib.hid ((X0_10).out.below hbe (X0_10).out.lt)
  clear X0_10
  have Xo1_11 := Lib.hid ((Xo1_10).out.below hbe (by omega))
  clear Xo1_10
  have Xr1_11 := Lib.hid ((Xr1_10).out.below hbe (by omega))
  clear Xr1_10
  have G0_11 := Lib.hid ((G0_10).out.below hbe (by omega))
  clear G0_10
  have Y_11 := Lib.hid (owe.rd)
  clear hbe hle owe
  go_wp2_with fail
  refine (eqIs_any x1 y1 o1 o1 ve1 ve1.heap.size ((Xr1_11).out.up (Below.refl _ _) (by omega) (by omega)) (Y_11).out (Nat.le_refl _) (IsS_L HS1.out) (IsS_L HS1.out) true (Lib.hid (by simp))).mono ?_
  rintro e vf1 ⟨rfl, hbf⟩
  clear Y_11
  have sz_12 := (hbf).size
  have F0_12 := Lib.hid ((F0_11).out.below hbf (F0_11).out.lt)
  clear F0_11
  have R0_12 := Lib.hid ((R0_11).out.below hbf (by omega))
  clear R0_11
  have R1_12 := Lib.hid ((R1_11).out.below hbf (by omega))
  clear R1_11
  have BEL_12 := Lib.hid (below_on (BEL_11).out hbf)
  clear BEL_11
  have W0_12 := Lib.hid ((W0_11).out.below hbf (by omega))
  clear W0_11
  have Xo0_12 := Lib.hid ((Xo0_11).out.below hbf (by omega))
  clear Xo0_11
  have Xr0_12 := Lib.hid ((Xr0_11).out.below hbf (by omega))
  clear Xr0_11
  have X0_12 := Lib.hid ((X0_11).out.below hbf (X0_11).out.lt)
  clear X0_11
  have Xo1_12 := Lib.hid ((Xo1_11).out.below hbf (by omega))
  clear Xo1_11
  have Xr1_12 := Lib.hid ((Xr1_11).out.below hbf (by omega))
  clear Xr1_11
  have G0_12 := Lib.hid ((G0_11).out.below hbf (by omega))
  clear G0_11
  clear hbf
  clear Xr0_12
  clear Xr1_12
  have c_X0_0 : vf1.cell? ⟨wx0.heap.size, 0, none⟩ = some (.slice x0.A o0.length x0.c) := (X0_12).out.cell 0
  have l_X0 : wx0.heap.size < vf1.heap.size := (X0_12).out.lt
  go_wp2_with fail
  clear c_X0_0 l_X0
  have t0 := HS0.out.t
  refine (markPg_any x0 o0 (1) vf1 wu.heap.size wx0.heap.size (Xo0_12).out (by omega) HS0.out (by omega) (by omega)).mono ?_
  rintro e wm0 ⟨rfl, hom⟩
  have sz_13 := (hom).size
  have F0_13 := Lib.hid (only_bk (F0_12).out hom (by omega))
  clear F0_12
  have R0_13 := Lib.hid ((R0_12).out.below ((hom).to_below (B := w.heap.size) (by omega) (by omega)) (Nat.le_refl _))
  clear R0_12
  have R1_13 := Lib.hid ((R1_12).out.below ((hom).to_below (B := w.heap.size) (by omega) (by omega)) (Nat.le_refl _))
  clear R1_12
  have BEL_13 := Lib.hid ((BEL_12).out.trans ((hom).to_below (by omega) (by omega)))
  clear BEL_12
  have W0_13 := Lib.hid ((W0_12).out.keep (Nat.le_refl _) (Nat.le_refl _) fun i h1 h2 => (hom).block i (by omega) (by omega))
  clear W0_12
  clear Xo0_12
  have X0_13 := Lib.hid (only_bk (X0_12).out hom (by omega))
  clear X0_12
  have Xo1_13 := Lib.hid ((Xo1_12).out.keep (Nat.le_refl _) (Nat.le_refl _) fun i h1 h2 => (hom).block i (by omega) (by omega))
  clear Xo1_12
  have G0_13 := Lib.hid ((G0_12).out.keep (Nat.le_refl _) (Nat.le_refl _) fun i h1 h2 => (hom).block i (by omega) (by omega))
  clear G0_12
  clear hom
  go_wp2_with fail
  have t1 := HS1.out.l0
  refine (markIs_any x1 o1 (1 + 5 * (total o0 : Int)) wm0 Vx0.heap.size wx1.heap.size (Xo1_13).out (by omega) HS1.out (by omega) (by omega)).mono ?_
  rintro e wm1 ⟨rfl, hom, -⟩
  have sz_14 := (hom).size
  have F0_14 := Lib.hid (only_bk (F0_13).out hom (by omega))
  clear F0_13
  have R0_14 := Lib.hid ((R0_13).out.below ((hom).to_below (B := w.heap.size) (by omega) (by omega)) (Nat.le_refl _))
  clear R0_13
  have R1_14 := Lib.hid ((R1_13).out.below ((hom).to_below (B := w.heap.size) (by omega) (by omega)) (Nat.le_refl _))
  clear R1_13
  have BEL_14 := Lib.hid ((BEL_13).out.trans ((hom).to_below (by omega) (by omega)))
  clear BEL_13
  have W0_14 := Lib.hid ((W0_13).out.keep (Nat.le_refl _) (Nat.le_refl _) fun i h1 h2 => (hom).block i (by omega) (by omega))
  clear W0_13
  have X0_14 := Lib.hid (only_bk (X0_13).out hom (by omega))
  clear X0_13
  clear Xo1_13
  have G0_14 := Lib.hid ((G0_13).out.keep (Nat.le_refl _) (Nat.le_refl _) fun i h1 h2 => (hom).block i (by omega) (by omega))
  clear G0_13
  clear hom
  have al1 : 0 ≤ allIs o1 ∧ allIs o1 ≤ 9000000 := by unfold allIs; omega
  go_wp2_with fail
  refine (eqBss_any hg hw E E wm1 wm1.heap.size ((G0_14).out.rd.up (Below.refl wm1.heap.size wm1) (by omega) (by omega)) ((W0_14).out.rd.up (Below.refl wm1.heap.size wm1) (by omega) (by omega)) (Nat.le_refl _) (BssS_L HSE.out) (BssS_L HSE.out) true (Lib.hid (by simp))).mono ?_
  rintro e wq1 ⟨rfl, hbq⟩
  have sz_15 := (hbq).size
  have F0_15 := Lib.hid ((F0_14).out.below hbq (F0_14).out.lt)
  clear F0_14
  have R0_15 := Lib.hid ((R0_14).out.below hbq (by omega))
  clear R0_14
  have R1_15 := Lib.hid ((R1_14).out.below hbq (by omega))
  clear R1_14
  have BEL_15 := Lib.hid (below_on (BEL_14).out hbq)
  clear BEL_14
  have W0_15 := Lib.hid ((W0_14).out.below hbq (by omega))
  clear W0_14
  have X0_15 := Lib.hid ((X0_14).out.below hbq (X0_14).out.lt)
  clear X0_14
  have G0_15 := Lib.hid ((G0_14).out.below hbq (by omega))
  clear G0_14
  clear hbq
  go_wp2_with fail
  refine (markBss_any hg E 1 wq1 wx1.heap.size wi.heap.size (G0_15).out (by omega) HSE.out (by omega) (by omega)).mono ?_
  rintro e wmg ⟨rfl, hom, owm⟩
  have sz_16 := (hom).size
  have F0_16 := Lib.hid (only_bk (F0_15).out hom (by omega))
  clear F0_15
  have R0_16 := Lib.hid ((R0_15).out.below ((hom).to_below (B := w.heap.size) (by omega) (by omega)) (Nat.le_refl _))
  clear R0_15
  have R1_16 := Lib.hid ((R1_15).out.below ((hom).to_below (B := w.heap.size) (by omega) (by omega)) (Nat.le_refl _))
  clear R1_15
  have BEL_16 := Lib.hid ((BEL_15).out.trans ((hom).to_below (by omega) (by omega)))
  clear BEL_15
  have W0_16 := Lib.hid ((W0_15).out.keep (Nat.le_refl _) (Nat.le_refl _) fun i h1 h2 => (hom).block i (by omega) (by omega))
  clear W0_15
  have X0_16 := Lib.hid (only_bk (X0_15).out hom (by omega))
  clear X0_15
  clear G0_15
  have M0_16 := Lib.hid (owm)
  clear hom owm
  have aE : 0 ≤ allBss E ∧ allBss E ≤ 9000000 := by
    have t0 := HSE.out
    obtain ⟨q0, q1⟩ := t0
    unfold allBss; omega
  go_wp2_with fail
  refine (heldBss_any hg E 1 wmg _ (M0_16).out.rd (by omega) HSE.out (by omega) (by omega)).mono ?_
  rintro e wh0 ⟨rfl, hbh⟩
  have sz_17 := (hbh).size
  have F0_17 := Lib.hid ((F0_16).out.below hbh (F0_16).out.lt)
  clear F0_16
  have R0_17 := Lib.hid ((R0_16).out.below hbh (by omega))
  clear R0_16
  have R1_17 := Lib.hid ((R1_16).out.below hbh (by omega))
  clear R1_16
  have BEL_17 := Lib.hid (below_on (BEL_16).out hbh)
  clear BEL_16
  have W0_17 := Lib.hid ((W0_16).out.below hbh (by omega))
  clear W0_16
  have X0_17 := Lib.hid ((X0_16).out.below hbh (X0_16).out.lt)
  clear X0_16
  have M0_17 := Lib.hid ((M0_16).out.below hbh (by omega))
  clear M0_16
  clear hbh
  have c_F0_0 : wh0.cell? ⟨w.heap.size, 0, none⟩ = some (.slice h0.A o0.length h0.c) := (F0_17).out.cell 0
  have l_F0 : w.heap.size < wh0.heap.size := (F0_17).out.lt
  go_wp2_with fail
  clear c_F0_0 l_F0
  refine (toPg_any h0 o0 wh0 w.heap.size (R0_17).out (by omega) HS0.out).mono ?_
  rintro e wt20 ⟨s0, rfl, hbt, hlt, owt⟩
  have sz_18 := (hbt).size
  have F0_18 := Lib.hid ((F0_17).out.below hbt (F0_17).out.lt)
  clear F0_17
  have R0_18 := Lib.hid ((R0_17).out.below hbt (by omega))
  clear R0_17
  have R1_18 := Lib.hid ((R1_17).out.below hbt (by omega))
  clear R1_17
  have BEL_18 := Lib.hid (below_on (BEL_17).out hbt)
  clear BEL_17
  have W0_18 := Lib.hid ((W0_17).out.below hbt (by omega))
  clear W0_17
  have X0_18 := Lib.hid ((X0_17).out.below hbt (X0_17).out.lt)
  clear X0_17
  have M0_18 := Lib.hid ((M0_17).out.below hbt (by omega))
  clear M0_17
  have T0_18 := Lib.hid (owt.rd)
  clear hbt hlt owt
  go_wp2_with fail
  refine (toIs_any h1 o1 wt20 w.heap.size (R1_18).out (by omega) HS1.out).mono ?_
  rintro e wt21 ⟨s1, rfl, hbt, hlt, owt⟩
  have sz_19 := (hbt).size
  have F0_19 := Lib.hid ((F0_18).out.below hbt (F0_18).out.lt)
  clear F0_18
  have R0_19 := Lib.hid ((R0_18).out.below hbt (by omega))
  clear R0_18
  have R1_19 := Lib.hid ((R1_18).out.below hbt (by omega))
  clear R1_18
  have BEL_19 := Lib.hid (below_on (BEL_18).out hbt)
  clear BEL_18
  have W0_19 := Lib.hid ((W0_18).out.below hbt (by omega))
  clear W0_18
  have X0_19 := Lib.hid ((X0_18).out.below hbt (X0_18).out.lt)
  clear X0_18
  have M0_19 := Lib.hid ((M0_18).out.below hbt (by omega))
  clear M0_18
  have T0_19 := Lib.hid ((T0_18).out.below hbt (by omega))
  clear T0_18
  have T1_19 := Lib.hid (owt.rd)
  clear hbt hlt owt
  go_wp2_with fail
  have hs := ibefore_any s0 o0 s1 o1 wt21 wt21.heap.size ((T0_19).out.up (Below.refl wt21.heap.size wt21) (by omega) (by omega)) ((T1_19).out.up (Below.refl wt21.heap.size wt21) (by omega) (by omega)) (Nat.le_refl _) HS0.out HS1.out
  rw [HE.out, HR.out] at hs
  refine hs.mono ?_
  clear hs
  rintro e wj ⟨hh, rfl, hba, hla, owa⟩
  have sz_20 := (hba).size
  have F0_20 := Lib.hid ((F0_19).out.below hba (F0_19).out.lt)
  clear F0_19
  have R0_20 := Lib.hid ((R0_19).out.below hba (by omega))
  clear R0_19
  have R1_20 := Lib.hid ((R1_19).out.below hba (by omega))
  clear R1_19
  have BEL_20 := Lib.hid (below_on (BEL_19).out hba)
  clear BEL_19
  have W0_20 := Lib.hid ((W0_19).out.below hba (by omega))
  clear W0_19
  have X0_20 := Lib.hid ((X0_19).out.below hba (X0_19).out.lt)
  clear X0_19
  have M0_20 := Lib.hid ((M0_19).out.below hba (by omega))
  clear M0_19
  have T0_20 := Lib.hid ((T0_19).out.below hba (by omega))
  clear T0_19
  have T1_20 := Lib.hid ((T1_19).out.below hba (by omega))
  clear T1_19
  have H0_20 := Lib.hid (owa)
  clear hba hla owa
  clear T0_20
  clear T1_20
  go_wp2_with fail
  refine (eqBss_any hh hw E E wj wj.heap.size ((H0_20).out.rd.up (Below.refl wj.heap.size wj) (by omega) (by omega)) ((W0_20).out.rd.up (Below.refl wj.heap.size wj) (by omega) (by omega)) (Nat.le_refl _) (BssS_L HSE.out) (BssS_L HSE.out) true (Lib.hid (by simp))).mono ?_
  rintro e wq2 ⟨rfl, hbq⟩
  have sz_21 := (hbq).size
  have F0_21 := Lib.hid ((F0_20).out.below hbq (F0_20).out.lt)
  clear F0_20
  have R0_21 := Lib.hid ((R0_20).out.below hbq (by omega))
  clear R0_20
  have R1_21 := Lib.hid ((R1_20).out.below hbq (by omega))
  clear R1_20
  have BEL_21 := Lib.hid (below_on (BEL_20).out hbq)
  clear BEL_20
  have W0_21 := Lib.hid ((W0_20).out.below hbq (by omega))
  clear W0_20
  have X0_21 := Lib.hid ((X0_20).out.below hbq (X0_20).out.lt)
  clear X0_20
  have M0_21 := Lib.hid ((M0_20).out.below hbq (by omega))
  clear M0_20
  have H0_21 := Lib.hid ((H0_20).out.below hbq (by omega))
  clear H0_20
  clear hbq
  go_wp2_with fail
  refine (heldBss_any hg E 1 wq2 _ (M0_21).out.rd (by omega) HSE.out (by omega) (by omega)).mono ?_
  rintro e wh1 ⟨rfl, hbh⟩
  have sz_22 := (hbh).size
  have F0_22 := Lib.hid ((F0_21).out.below hbh (F0_21).out.lt)
  clear F0_21
  have R0_22 := Lib.hid ((R0_21).out.below hbh (by omega))
  clear R0_21
  have R1_22 := Lib.hid ((R1_21).out.below hbh (by omega))
  clear R1_21
  have BEL_22 := Lib.hid (below_on (BEL_21).out hbh)
  clear BEL_21
  have W0_22 := Lib.hid ((W0_21).out.below hbh (by omega))
  clear W0_21
  have X0_22 := Lib.hid ((X0_21).out.below hbh (X0_21).out.lt)
  clear X0_21
  have M0_22 := Lib.hid ((M0_21).out.below hbh (by omega))
  clear M0_21
  have H0_22 := Lib.hid ((H0_21).out.below hbh (by omega))
  clear H0_21
  clear hbh
  have hfin := (BEL_22).out
  go_wp2
  go_ret
  exact ⟨rfl, hfin⟩
end Go.Proofs.Ytidibnmlceccnaa
