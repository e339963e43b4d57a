/-
  The walk of the law on Guards: it comes to true, whatever the arguments and the memory, and leaves all memory that was there as it was.
-/
import Derived.Test.YtakadejpgndhpaaIGua
import Derived.Test.YtakadejpgndhpaaSGua
import Derived.Deep.RegionHeld3
import Derived.Deep.DeepCutAuto
namespace Go.Proofs.Ytakadejpgndhpaa
open Go.RowKit Pl Go.BigFrame
set_option maxHeartbeats 16000000
set_option maxRecDepth 100000
set_option linter.unusedVariables false

theorem lwGuards (h0 : PgH) (o0 : Pg) (w : World) (hR0 : PgR w w.heap.size h0 o0) (hL0 : PgL o0 maxLen) :
    Calls Try.prog 6 #[PgV h0 o0] w fun e w' => e = .returned (.bool true) ∧ Below w.heap.size w w' := by
  obtain ⟨W, hW⟩ : ∃ W, W = (w.alloc (.cells #[.slice h0.A o0.length h0.c] 24)) := ⟨_, rfl⟩
  have hbW : Below w.heap.size w W := by rw [hW]; go_grown
  have hsW : W.heap.size = w.heap.size + 1 := by rw [hW]; simp
  have k0 : Bk W (w.heap.size) 24 #[.slice h0.A o0.length h0.c] := by
    rw [hW]; have := Bk.new w #[.slice h0.A o0.length h0.c] 24
    exact this
  have HW := Lib.hid hW
  have F0_0 := Lib.hid (k0)
  have R0_0 := Lib.hid (hR0.below hbW (Nat.le_refl _))
  have BEL_0 := Lib.hid (hbW)
  have hsWa := Nat.le_of_eq hsW
  have hsWb := Nat.le_of_eq hsW.symm
  clear hW hsW hbW k0 hR0
  obtain ⟨z0, hz0⟩ : ∃ z, szPg 1048576 o0 = z := ⟨_, rfl⟩
  have Z0 := Lib.hid hz0
  clear hz0
  have u0 : -1 ≤ z0 ∧ z0 ≤ 1048576 := by rw [← Z0.out]; exact szPg_ge _ _ (by omega)
  by_cases n0 : z0 < 0
  · skip
    go_enter Try.func6, Try.ntmps6
    go_wp2_with fail
    rw [← HW.out]
    refine (szPg_any h0 o0 1048576 W w.heap.size (R0_0).out (by omega) hL0 (by omega) (by omega) z0 Z0).mono ?_
    rintro e ws0 ⟨rfl, hbs0⟩
    have sz_1 := (hbs0).size
    have F0_1 := Lib.hid ((F0_0).out.below hbs0 (F0_0).out.lt)
    clear F0_0
    have R0_1 := Lib.hid ((R0_0).out.below hbs0 (by omega))
    clear R0_0
    have BEL_1 := Lib.hid (below_on (BEL_0).out hbs0)
    clear BEL_0
    clear hbs0
    go_wp2
    go_ret
    exact ⟨rfl, (BEL_1).out⟩
  have S0 : PgS o0 := szPg_small (by rw [Z0.out]; omega) (by omega) (by omega)
  have HS0 := Lib.hid S0
  clear S0
  obtain ⟨E, hE⟩ : ∃ E, guE o0 = E := ⟨_, rfl⟩
  obtain ⟨r, hr⟩ : ∃ r, progB o0 = r := ⟨_, rfl⟩
  have HE := Lib.hid hE
  have HR := Lib.hid hr
  have hSE : BssS E := by rw [← hE]; exact guE_small HS0.out
  have HSE := Lib.hid hSE
  clear hE hSE
  clear hr
  go_enter Try.func6, Try.ntmps6
  go_wp2_with fail
  rw [← HW.out]
  refine (szPg_any h0 o0 1048576 W w.heap.size (R0_0).out (by omega) hL0 (by omega) (by omega) z0 Z0).mono ?_
  rintro e ws0 ⟨rfl, hbs0⟩
  have sz_1 := (hbs0).size
  have F0_1 := Lib.hid ((F0_0).out.below hbs0 (F0_0).out.lt)
  clear F0_0
  have R0_1 := Lib.hid ((R0_0).out.below hbs0 (by omega))
  clear R0_0
  have BEL_1 := Lib.hid (below_on (BEL_0).out hbs0)
  clear BEL_0
  clear hbs0
  have c_F0_0 : ws0.cell? ⟨w.heap.size, 0, none⟩ = some (.slice h0.A o0.length h0.c) := (F0_1).out.cell 0
  have l_F0 : w.heap.size < ws0.heap.size := (F0_1).out.lt
  go_wp2_with fail
  clear c_F0_0 l_F0
  refine (toPg_any h0 o0 ws0 w.heap.size (R0_1).out (by omega) HS0.out).mono ?_
  rintro e wt0 ⟨t0, rfl, hbt, hlt, owt⟩
  have sz_2 := (hbt).size
  have F0_2 := Lib.hid ((F0_1).out.below hbt (F0_1).out.lt)
  clear F0_1
  have R0_2 := Lib.hid ((R0_1).out.below hbt (by omega))
  clear R0_1
  have BEL_2 := Lib.hid (below_on (BEL_1).out hbt)
  clear BEL_1
  have T0_2 := Lib.hid (owt.rd)
  clear hbt hlt owt
  go_wp2_with fail
  have hs := sgua_any t0 o0 wt0 wt0.heap.size ((T0_2).out.up (Below.refl wt0.heap.size wt0) (by omega) (by omega)) (Nat.le_refl _) HS0.out
  rw [HE.out, HR.out] at hs
  refine hs.mono ?_
  clear hs
  rintro e wu ⟨hw, rfl, hba, hla, owa⟩
  have sz_3 := (hba).size
  have F0_3 := Lib.hid ((F0_2).out.below hba (F0_2).out.lt)
  clear F0_2
  have R0_3 := Lib.hid ((R0_2).out.below hba (by omega))
  clear R0_2
  have BEL_3 := Lib.hid (below_on (BEL_2).out hba)
  clear BEL_2
  have T0_3 := Lib.hid ((T0_2).out.below hba (by omega))
  clear T0_2
  have W0_3 := Lib.hid (owa)
  clear hba hla owa
  clear T0_3
  have c_F0_0 : wu.cell? ⟨w.heap.size, 0, none⟩ = some (.slice h0.A o0.length h0.c) := (F0_3).out.cell 0
  have l_F0 : w.heap.size < wu.heap.size := (F0_3).out.lt
  go_wp2_with fail
  clear c_F0_0 l_F0
  refine (toPg_any h0 o0 wu w.heap.size (R0_3).out (by omega) HS0.out).mono ?_
  rintro e wx0 ⟨x0, rfl, hbt, hlt, owt⟩
  have sz_4 := (hbt).size
  have F0_4 := Lib.hid ((F0_3).out.below hbt (F0_3).out.lt)
  clear F0_3
  have R0_4 := Lib.hid ((R0_3).out.below hbt (by omega))
  clear R0_3
  have BEL_4 := Lib.hid (below_on (BEL_3).out hbt)
  clear BEL_3
  have W0_4 := Lib.hid ((W0_3).out.below hbt (by omega))
  clear W0_3
  clear hbt hlt
  have Xo0_4 := Lib.hid (owt)
  have Xr0_4 := Lib.hid (owt.rd)
  clear owt
  go_wp2_with fail
  obtain ⟨Vx0, hVx0⟩ : ∃ V, V = wx0.alloc (.cells #[.slice x0.A o0.length x0.c] 30) := ⟨_, rfl⟩
  rw [← hVx0]
  have bVx0 : Below wx0.heap.size wx0 Vx0 := by rw [hVx0]; go_grown
  have zVx0 : Vx0.heap.size = wx0.heap.size + 1 := by rw [hVx0]; simp
  have kVx0 : Bk Vx0 wx0.heap.size 30 #[.slice x0.A o0.length x0.c] := by rw [hVx0]; exact Bk.new _ _ _
  have zVx0a := Nat.le_of_eq zVx0
  have zVx0b := Nat.le_of_eq zVx0.symm
  clear zVx0
  have sz_5 := (bVx0).size
  have F0_5 := Lib.hid ((F0_4).out.below bVx0 (F0_4).out.lt)
  clear F0_4
  have R0_5 := Lib.hid ((R0_4).out.below bVx0 (by omega))
  clear R0_4
  have BEL_5 := Lib.hid (below_on (BEL_4).out bVx0)
  clear BEL_4
  have W0_5 := Lib.hid ((W0_4).out.below bVx0 (by omega))
  clear W0_4
  have Xo0_5 := Lib.hid ((Xo0_4).out.below bVx0 (by omega))
  clear Xo0_4
  have Xr0_5 := Lib.hid ((Xr0_4).out.below bVx0 (by omega))
  clear Xr0_4
  have X0_5 := Lib.hid (kVx0)
  clear hVx0 bVx0 kVx0
  have hs := igua_any x0 o0 Vx0 Vx0.heap.size ((Xr0_5).out.up (Below.refl Vx0.heap.size Vx0) (by omega) (by omega)) (Nat.le_refl _) HS0.out
  rw [HE.out, HR.out] at hs
  refine hs.mono ?_
  clear hs
  rintro e wi ⟨hg, rfl, hba, hla, owa⟩
  have sz_6 := (hba).size
  have F0_6 := Lib.hid ((F0_5).out.below hba (F0_5).out.lt)
  clear F0_5
  have R0_6 := Lib.hid ((R0_5).out.below hba (by omega))
  clear R0_5
  have BEL_6 := Lib.hid (below_on (BEL_5).out hba)
  clear BEL_5
  have W0_6 := Lib.hid ((W0_5).out.below hba (by omega))
  clear W0_5
  have Xo0_6 := Lib.hid ((Xo0_5).out.below hba (by omega))
  clear Xo0_5
  have Xr0_6 := Lib.hid ((Xr0_5).out.below hba (by omega))
  clear Xr0_5
  have X0_6 := Lib.hid ((X0_5).out.below hba (X0_5).out.lt)
  clear X0_5
  have G0_6 := Lib.hid (owa)
  clear hba hla owa
  go_wp2_with fail
  refine (eqBss_any hg hw E E wi wi.heap.size ((G0_6).out.rd.up (Below.refl wi.heap.size wi) (by omega) (by omega)) ((W0_6).out.rd.up (Below.refl wi.heap.size wi) (by omega) (by omega)) (Nat.le_refl _) (BssS_L HSE.out) (BssS_L HSE.out) true (Lib.hid (by simp))).mono ?_
  rintro e wq0 ⟨rfl, hbq⟩
  have sz_7 := (hbq).size
  have F0_7 := Lib.hid ((F0_6).out.below hbq (F0_6).out.lt)
  clear F0_6
  have R0_7 := Lib.hid ((R0_6).out.below hbq (by omega))
  clear R0_6
  have BEL_7 := Lib.hid (below_on (BEL_6).out hbq)
  clear BEL_6
  have W0_7 := Lib.hid ((W0_6).out.below hbq (by omega))
  clear W0_6
  have Xo0_7 := Lib.hid ((Xo0_6).out.below hbq (by omega))
  clear Xo0_6
  have Xr0_7 := Lib.hid ((Xr0_6).out.below hbq (by omega))
  clear Xr0_6
  have X0_7 := Lib.hid ((X0_6).out.below hbq (X0_6).out.lt)
  clear X0_6
  have G0_7 := Lib.hid ((G0_6).out.below hbq (by omega))
  clear G0_6
  clear hbq
  have allS : ∀ w', Below wq0.heap.size wq0 w' → (Below wq0.heap.size wq0 w' ∧ w'.cell? ⟨wx0.heap.size, 0, none⟩ = some (.slice x0.A o0.length x0.c) ∧ w'.cell? ⟨w.heap.size, 0, none⟩ = some (.slice h0.A o0.length h0.c)) := fun w' hb => ⟨hb, ((X0_7).out.below hb (X0_7).out.lt).cell 0, ((F0_7).out.below hb (F0_7).out.lt).cell 0⟩
  have AllS := Lib.hid allS
  clear allS
  go_wp2_with fail
  go_region_held3 (fun w' => Below wq0.heap.size wq0 w' ∧ w'.cell? ⟨wx0.heap.size, 0, none⟩ = some (.slice x0.A o0.length x0.c) ∧ w'.cell? ⟨w.heap.size, 0, none⟩ = some (.slice h0.A o0.length h0.c)) (first | (go_split_ands; exact AllS.out _ (by go_grown)) | (exact AllS.out _ (by go_grown))) (first | (go_at_call 17; go_split_ands; refine (toPg_any h0 o0 _ w.heap.size ((R0_7).out.below (show Below wq0.heap.size wq0 _ from by go_grown) (by omega)) (Nat.le_trans (by omega) (show Below wq0.heap.size wq0 _ from by go_grown).size) HS0.out).mono ?_; rintro e ve0 ⟨y0, rfl, hv, -, ov⟩; have Ov := Lib.hid ov.rd; have hBv : Below wq0.heap.size wq0 ve0 := below_on (by go_grown) hv; clear ov hv) | (go_at_call 20; go_split_ands; refine (eqPg_any x0 y0 o0 o0 _ ve0.heap.size ((Xr0_7).out.up (show Below wq0.heap.size wq0 _ from by go_grown) (by omega) (Nat.le_trans (by omega) hBv.size)) (Ov.out.below (show Below ve0.heap.size ve0 _ from by go_grown) (Nat.le_refl _)) (show Below ve0.heap.size ve0 _ from by go_grown).size (PgS_L HS0.out) (PgS_L HS0.out) true (Lib.hid (by simp))).mono ?_; rintro e vf0 ⟨rfl, hvf⟩; have hBvf : Below wq0.heap.size wq0 vf0 := below_on (by go_grown) hvf; clear hvf))
  clear AllS Ov hBv
  try clear hHeld
  have sz_8 := (hBvf).size
  have F0_8 := Lib.hid ((F0_7).out.below hBvf (F0_7).out.lt)
  clear F0_7
  have R0_8 := Lib.hid ((R0_7).out.below hBvf (by omega))
  clear R0_7
  have BEL_8 := Lib.hid (below_on (BEL_7).out hBvf)
  clear BEL_7
  have W0_8 := Lib.hid ((W0_7).out.below hBvf (by omega))
  clear W0_7
  have Xo0_8 := Lib.hid ((Xo0_7).out.below hBvf (by omega))
  clear Xo0_7
  have Xr0_8 := Lib.hid ((Xr0_7).out.below hBvf (by omega))
  clear Xr0_7
  have X0_8 := Lib.hid ((X0_7).out.below hBvf (X0_7).out.lt)
  clear X0_7
  have G0_8 := Lib.hid ((G0_7).out.below hBvf (by omega))
  clear G0_7
  clear hBvf
  have c_X0_0 : vf0.cell? ⟨wx0.heap.size, 0, none⟩ = some (.slice x0.A o0.length x0.c) := (X0_8).out.cell 0
  have l_X0 : wx0.heap.size < vf0.heap.size := (X0_8).out.lt
  go_wp2_with fail
  clear c_X0_0 l_X0
  have t0 := HS0.out.t
  refine (markPg_any x0 o0 (1) vf0 wu.heap.size wx0.heap.size (Xo0_8).out (by omega) HS0.out (by omega) (by omega)).mono ?_
  rintro e wm0 ⟨rfl, hom⟩
  have sz_9 := (hom).size
  have F0_9 := Lib.hid (only_bk (F0_8).out hom (by omega))
  clear F0_8
  have R0_9 := Lib.hid ((R0_8).out.below ((hom).to_below (B := w.heap.size) (by omega) (by omega)) (Nat.le_refl _))
  clear R0_8
  have BEL_9 := Lib.hid ((BEL_8).out.trans ((hom).to_below (by omega) (by omega)))
  clear BEL_8
  have W0_9 := Lib.hid ((W0_8).out.keep (Nat.le_refl _) (Nat.le_refl _) fun i h1 h2 => (hom).block i (by omega) (by omega))
  clear W0_8
  clear Xo0_8
  clear Xr0_8
  have X0_9 := Lib.hid (only_bk (X0_8).out hom (by omega))
  clear X0_8
  have G0_9 := Lib.hid ((G0_8).out.keep (Nat.le_refl _) (Nat.le_refl _) fun i h1 h2 => (hom).block i (by omega) (by omega))
  clear G0_8
  clear hom
  go_wp2_with fail
  refine (eqBss_any hg hw E E wm0 wm0.heap.size ((G0_9).out.rd.up (Below.refl wm0.heap.size wm0) (by omega) (by omega)) ((W0_9).out.rd.up (Below.refl wm0.heap.size wm0) (by omega) (by omega)) (Nat.le_refl _) (BssS_L HSE.out) (BssS_L HSE.out) true (Lib.hid (by simp))).mono ?_
  rintro e wq1 ⟨rfl, hbq⟩
  have sz_10 := (hbq).size
  have F0_10 := Lib.hid ((F0_9).out.below hbq (F0_9).out.lt)
  clear F0_9
  have R0_10 := Lib.hid ((R0_9).out.below hbq (by omega))
  clear R0_9
  have BEL_10 := Lib.hid (below_on (BEL_9).out hbq)
  clear BEL_9
  have W0_10 := Lib.hid ((W0_9).out.below hbq (by omega))
  clear W0_9
  have X0_10 := Lib.hid ((X0_9).out.below hbq (X0_9).out.lt)
  clear X0_9
  have G0_10 := Lib.hid ((G0_9).out.below hbq (by omega))
  clear G0_9
  clear hbq
  go_wp2_with fail
  refine (markBss_any hg E 1 wq1 Vx0.heap.size wi.heap.size (G0_10).out (by omega) HSE.out (by omega) (by omega)).mono ?_
  rintro e wmg ⟨rfl, hom, owm⟩
  have sz_11 := (hom).size
  have F0_11 := Lib.hid (only_bk (F0_10).out hom (by omega))
  clear F0_10
  have R0_11 := Lib.hid ((R0_10).out.below ((hom).to_below (B := w.heap.size) (by omega) (by omega)) (Nat.le_refl _))
  clear R0_10
  have BEL_11 := Lib.hid ((BEL_10).out.trans ((hom).to_below (by omega) (by omega)))
  clear BEL_10
  have W0_11 := Lib.hid ((W0_10).out.keep (Nat.le_refl _) (Nat.le_refl _) fun i h1 h2 => (hom).block i (by omega) (by omega))
  clear W0_10
  have X0_11 := Lib.hid (only_bk (X0_10).out hom (by omega))
  clear X0_10
  clear G0_10
  have M0_11 := Lib.hid (owm)
  clear hom owm
  have aE : 0 ≤ allBss E ∧ allBss E ≤ 9000000 := by
    have t0 := HSE.out
    obtain ⟨q0, q1⟩ := t0
    unfold allBss; omega
  go_wp2_with fail
  refine (heldBss_any hg E 1 wmg _ (M0_11).out.rd (by omega) HSE.out (by omega) (by omega)).mono ?_
  rintro e wh0 ⟨rfl, hbh⟩
  have sz_12 := (hbh).size
  have F0_12 := Lib.hid ((F0_11).out.below hbh (F0_11).out.lt)
  clear F0_11
  have R0_12 := Lib.hid ((R0_11).out.below hbh (by omega))
  clear R0_11
  have BEL_12 := Lib.hid (below_on (BEL_11).out hbh)
  clear BEL_11
  have W0_12 := Lib.hid ((W0_11).out.below hbh (by omega))
  clear W0_11
  have X0_12 := Lib.hid ((X0_11).out.below hbh (X0_11).out.lt)
  clear X0_11
  have M0_12 := Lib.hid ((M0_11).out.below hbh (by omega))
  clear M0_11
  clear hbh
  have c_F0_0 : wh0.cell? ⟨w.heap.size, 0, none⟩ = some (.slice h0.A o0.length h0.c) := (F0_12).out.cell 0
  have l_F0 : w.heap.size < wh0.heap.size := (F0_12).out.lt
  go_wp2_with fail
  clear c_F0_0 l_F0
  refine (toPg_any h0 o0 wh0 w.heap.size (R0_12).out (by omega) HS0.out).mono ?_
  rintro e wt20 ⟨s0, rfl, hbt, hlt, owt⟩
  have sz_13 := (hbt).size
  have F0_13 := Lib.hid ((F0_12).out.below hbt (F0_12).out.lt)
  clear F0_12
  have R0_13 := Lib.hid ((R0_12).out.below hbt (by omega))
  clear R0_12
  have BEL_13 := Lib.hid (below_on (BEL_12).out hbt)
  clear BEL_12
  have W0_13 := Lib.hid ((W0_12).out.below hbt (by omega))
  clear W0_12
  have X0_13 := Lib.hid ((X0_12).out.below hbt (X0_12).out.lt)
  clear X0_12
  have M0_13 := Lib.hid ((M0_12).out.below hbt (by omega))
  clear M0_12
  have T0_13 := Lib.hid (owt.rd)
  clear hbt hlt owt
  go_wp2_with fail
  have hs := igua_any s0 o0 wt20 wt20.heap.size ((T0_13).out.up (Below.refl wt20.heap.size wt20) (by omega) (by omega)) (Nat.le_refl _) HS0.out
  rw [HE.out, HR.out] at hs
  refine hs.mono ?_
  clear hs
  rintro e wj ⟨hh, rfl, hba, hla, owa⟩
  have sz_14 := (hba).size
  have F0_14 := Lib.hid ((F0_13).out.below hba (F0_13).out.lt)
  clear F0_13
  have R0_14 := Lib.hid ((R0_13).out.below hba (by omega))
  clear R0_13
  have BEL_14 := Lib.hid (below_on (BEL_13).out hba)
  clear BEL_13
  have W0_14 := Lib.hid ((W0_13).out.below hba (by omega))
  clear W0_13
  have X0_14 := Lib.hid ((X0_13).out.below hba (X0_13).out.lt)
  clear X0_13
  have M0_14 := Lib.hid ((M0_13).out.below hba (by omega))
  clear M0_13
  have T0_14 := Lib.hid ((T0_13).out.below hba (by omega))
  clear T0_13
  have H0_14 := Lib.hid (owa)
  clear hba hla owa
  clear T0_14
  go_wp2_with fail
  refine (eqBss_any hh hw E E wj wj.heap.size ((H0_14).out.rd.up (Below.refl wj.heap.size wj) (by omega) (by omega)) ((W0_14).out.rd.up (Below.refl wj.heap.size wj) (by omega) (by omega)) (Nat.le_refl _) (BssS_L HSE.out) (BssS_L HSE.out) true (Lib.hid (by simp))).mono ?_
  rintro e wq2 ⟨rfl, hbq⟩
  have sz_15 := (hbq).size
  have F0_15 := Lib.hid ((F0_14).out.below hbq (F0_14).out.lt)
  clear F0_14
  have R0_15 := Lib.hid ((R0_14).out.below hbq (by omega))
  clear R0_14
  have BEL_15 := Lib.hid (below_on (BEL_14).out hbq)
  clear BEL_14
  have W0_15 := Lib.hid ((W0_14).out.below hbq (by omega))
  clear W0_14
  have X0_15 := Lib.hid ((X0_14).out.below hbq (X0_14).out.lt)
  clear X0_14
  have M0_15 := Lib.hid ((M0_14).out.below hbq (by omega))
  clear M0_14
  have H0_15 := Lib.hid ((H0_14).out.below hbq (by omega))
  clear H0_14
  clear hbq
  go_wp2_with fail
  refine (heldBss_any hg E 1 wq2 _ (M0_15).out.rd (by omega) HSE.out (by omega) (by omega)).mono ?_
  rintro e wh1 ⟨rfl, hbh⟩
  have sz_16 := (hbh).size
  have F0_16 := Lib.hid ((F0_15).out.below hbh (F0_15).out.lt)
  clear F0_15
  have R0_16 := Lib.hid ((R0_15).out.below hbh (by omega))
  clear R0_15
  have BEL_16 := Lib.hid (below_on (BEL_15).out hbh)
  clear BEL_15
  have W0_16 := Lib.hid ((W0_15).out.below hbh (by omega))
  clear W0_15
  have X0_16 := Lib.hid ((X0_15).out.below hbh (X0_15).out.lt)
  clear X0_15
  have M0_16 := Lib.hid ((M0_15).out.below hbh (by omega))
  clear M0_15
  have H0_16 := Lib.hid ((H0_15).out.below hbh (by omega))
  clear H0_15
  clear hbh
  have hfin := (BEL_16).out
  go_wp2
  go_ret
  exact ⟨rfl, hfin⟩
end Go.Proofs.Ytakadejpgndhpaa
