/-
  The walk of the law on SimpleOk: it comes to true, whatever the arguments and the memory, and leaves all memory that was there as it was.
-/
import Derived.Test.YtaghidaamcnpkaaSimp
import Derived.Deep.RegionHeld3
namespace Go.Proofs.Ytaghidaamcnpkaa
open Go.RowKit Pl Go.BigFrame
set_option maxHeartbeats 8000000
set_option maxRecDepth 100000
set_option linter.unusedVariables false

theorem lwSimpleOk (h0 : PgH) (o0 : Pg) (w : World) (hR0 : PgR w w.heap.size h0 o0) (hL0 : PgL o0 maxLen) :
    Calls Try.prog 3 #[PgV h0 o0] w fun e w' => e = .returned (.bool true) ∧ Below w.heap.size w w' := by
  obtain ⟨W, hW⟩ : ∃ W, W = (w.alloc (.cells #[.slice h0.A o0.length h0.c] 24)) := ⟨_, rfl⟩
  have hbW : Below w.heap.size w W := by rw [hW]; go_grown
  have hsW : W.heap.size = w.heap.size + 1 := by rw [hW]; simp
  have k0 : Bk W (w.heap.size) 24 #[.slice h0.A o0.length h0.c] := by
    rw [hW]; have := Bk.new w #[.slice h0.A o0.length h0.c] 24
    exact this
  have HW := Lib.hid hW
  have F0_0 := Lib.hid (k0)
  have R0_0 := Lib.hid (hR0.below hbW (Nat.le_refl _))
  have BEL_0 := Lib.hid (hbW)
  have hsWa := Nat.le_of_eq hsW
  have hsWb := Nat.le_of_eq hsW.symm
  clear hW hsW hbW k0 hR0
  obtain ⟨z0, hz0⟩ : ∃ z, szPg 1048576 o0 = z := ⟨_, rfl⟩
  have Z0 := Lib.hid hz0
  clear hz0
  have u0 : -1 ≤ z0 ∧ z0 ≤ 1048576 := by rw [← Z0.out]; exact szPg_ge _ _ (by omega)
  by_cases n0 : z0 < 0
  · skip
    go_enter Try.func3, Try.ntmps3
    go_wp2_with fail
    rw [← HW.out]
    refine (szPg_any h0 o0 1048576 W w.heap.size (R0_0).out (by omega) hL0 (by omega) (by omega) z0 Z0).mono ?_
    rintro e ws0 ⟨rfl, hbs0⟩
    have sz_1 := (hbs0).size
    have F0_1 := Lib.hid ((F0_0).out.below hbs0 (F0_0).out.lt)
    clear F0_0
    have R0_1 := Lib.hid ((R0_0).out.below hbs0 (by omega))
    clear R0_0
    have BEL_1 := Lib.hid (below_on (BEL_0).out hbs0)
    clear BEL_0
    clear hbs0
    go_wp2
    go_ret
    exact ⟨rfl, (BEL_1).out⟩
  have S0 : PgS o0 := szPg_small (by rw [Z0.out]; omega) (by omega) (by omega)
  have HS0 := Lib.hid S0
  clear S0
  obtain ⟨r, hr⟩ : ∃ r, simB o0 = r := ⟨_, rfl⟩
  have HR := Lib.hid hr
  clear hr
  go_enter Try.func3, Try.ntmps3
  go_wp2_with fail
  rw [← HW.out]
  refine (szPg_any h0 o0 1048576 W w.heap.size (R0_0).out (by omega) hL0 (by omega) (by omega) z0 Z0).mono ?_
  rintro e ws0 ⟨rfl, hbs0⟩
  have sz_1 := (hbs0).size
  have F0_1 := Lib.hid ((F0_0).out.below hbs0 (F0_0).out.lt)
  clear F0_0
  have R0_1 := Lib.hid ((R0_0).out.below hbs0 (by omega))
  clear R0_0
  have BEL_1 := Lib.hid (below_on (BEL_0).out hbs0)
  clear BEL_0
  clear hbs0
  have c_F0_0 : ws0.cell? ⟨w.heap.size, 0, none⟩ = some (.slice h0.A o0.length h0.c) := (F0_1).out.cell 0
  have l_F0 : w.heap.size < ws0.heap.size := (F0_1).out.lt
  go_wp2_with fail
  clear c_F0_0 l_F0
  refine (toPg_any h0 o0 ws0 w.heap.size (R0_1).out (by omega) HS0.out).mono ?_
  rintro e wt ⟨t0, rfl, hbt, hlt, owt⟩
  have sz_2 := (hbt).size
  have F0_2 := Lib.hid ((F0_1).out.below hbt (F0_1).out.lt)
  clear F0_1
  have R0_2 := Lib.hid ((R0_1).out.below hbt (by omega))
  clear R0_1
  have BEL_2 := Lib.hid (below_on (BEL_1).out hbt)
  clear BEL_1
  have T0_2 := Lib.hid (owt.rd)
  clear hbt hlt owt
  go_wp2_with fail
  refine (ssimple_any t0 o0 wt wt.heap.size (T0_2).out (Nat.le_refl _) HS0.out r HR).mono ?_
  rintro e wu ⟨rfl, hbu⟩
  clear T0_2
  have sz_3 := (hbu).size
  have F0_3 := Lib.hid ((F0_2).out.below hbu (F0_2).out.lt)
  clear F0_2
  have R0_3 := Lib.hid ((R0_2).out.below hbu (by omega))
  clear R0_2
  have BEL_3 := Lib.hid (below_on (BEL_2).out hbu)
  clear BEL_2
  clear hbu
  have c_F0_0 : wu.cell? ⟨w.heap.size, 0, none⟩ = some (.slice h0.A o0.length h0.c) := (F0_3).out.cell 0
  have l_F0 : w.heap.size < wu.heap.size := (F0_3).out.lt
  go_wp2_with fail
  clear c_F0_0 l_F0
  refine (toPg_any h0 o0 wu w.heap.size (R0_3).out (by omega) HS0.out).mono ?_
  rintro e wx0 ⟨x0, rfl, hbx, hlx, own⟩
  have sz_4 := (hbx).size
  have F0_4 := Lib.hid ((F0_3).out.below hbx (F0_3).out.lt)
  clear F0_3
  have R0_4 := Lib.hid ((R0_3).out.below hbx (by omega))
  clear R0_3
  have BEL_4 := Lib.hid (below_on (BEL_3).out hbx)
  clear BEL_3
  clear hbx hlx
  have Xo0_4 := Lib.hid (own)
  have Xr0_4 := Lib.hid (own.rd)
  clear own
  go_wp2_with fail
  obtain ⟨Vx0, hVx0⟩ : ∃ V, V = wx0.alloc (.cells #[.slice x0.A o0.length x0.c] 29) := ⟨_, rfl⟩
  rw [← hVx0]
  have bVx0 : Below wx0.heap.size wx0 Vx0 := by rw [hVx0]; go_grown
  have zVx0 : Vx0.heap.size = wx0.heap.size + 1 := by rw [hVx0]; simp
  have kVx0 : Bk Vx0 wx0.heap.size 29 #[.slice x0.A o0.length x0.c] := by rw [hVx0]; exact Bk.new _ _ _
  have zVx0a := Nat.le_of_eq zVx0
  have zVx0b := Nat.le_of_eq zVx0.symm
  clear zVx0
  have sz_5 := (bVx0).size
  have F0_5 := Lib.hid ((F0_4).out.below bVx0 (F0_4).out.lt)
  clear F0_4
  have R0_5 := Lib.hid ((R0_4).out.below bVx0 (by omega))
  clear R0_4
  have BEL_5 := Lib.hid (below_on (BEL_4).out bVx0)
  clear BEL_4
  have Xo0_5 := Lib.hid ((Xo0_4).out.below bVx0 (by omega))
  clear Xo0_4
  have Xr0_5 := Lib.hid ((Xr0_4).out.below bVx0 (by omega))
  clear Xr0_4
  have X0_5 := Lib.hid (kVx0)
  clear hVx0 bVx0 kVx0
  have c_X0_0 : Vx0.cell? ⟨wx0.heap.size, 0, none⟩ = some (.slice x0.A o0.length x0.c) := (X0_5).out.cell 0
  have l_X0 : wx0.heap.size < Vx0.heap.size := (X0_5).out.lt
  refine (isimple_any x0 o0 Vx0 Vx0.heap.size ((Xr0_5).out.up (Below.refl _ _) (by omega) (by omega))  (Nat.le_refl _) HS0.out r HR).mono ?_
  rintro e wi ⟨rfl, hbi⟩
  clear c_X0_0 l_X0
  have sz_6 := (hbi).size
  have F0_6 := Lib.hid ((F0_5).out.below hbi (F0_5).out.lt)
  clear F0_5
  have R0_6 := Lib.hid ((R0_5).out.below hbi (by omega))
  clear R0_5
  have BEL_6 := Lib.hid (below_on (BEL_5).out hbi)
  clear BEL_5
  have Xo0_6 := Lib.hid ((Xo0_5).out.below hbi (by omega))
  clear Xo0_5
  have Xr0_6 := Lib.hid ((Xr0_5).out.below hbi (by omega))
  clear Xr0_5
  have X0_6 := Lib.hid ((X0_5).out.below hbi (X0_5).out.lt)
  clear X0_5
  clear hbi
  have allS : ∀ w', Below wi.heap.size wi w' → (Below wi.heap.size wi w' ∧ w'.cell? ⟨wx0.heap.size, 0, none⟩ = some (.slice x0.A o0.length x0.c) ∧ w'.cell? ⟨w.heap.size, 0, none⟩ = some (.slice h0.A o0.length h0.c)) := fun w' hb => ⟨hb, ((X0_6).out.below hb (X0_6).out.lt).cell 0, ((F0_6).out.below hb (F0_6).out.lt).cell 0⟩
  have AllS := Lib.hid allS
  clear allS
  go_wp2_with fail
  go_region_held3 (fun w' => Below wi.heap.size wi w' ∧ w'.cell? ⟨wx0.heap.size, 0, none⟩ = some (.slice x0.A o0.length x0.c) ∧ w'.cell? ⟨w.heap.size, 0, none⟩ = some (.slice h0.A o0.length h0.c)) (first | (go_split_ands; exact AllS.out _ (by go_grown)) | (exact AllS.out _ (by go_grown))) (first | (go_at_call 8; go_split_ands; refine (toPg_any h0 o0 _ w.heap.size ((R0_6).out.below (show Below wi.heap.size wi _ from by go_grown) (by omega)) (Nat.le_trans (by omega) (show Below wi.heap.size wi _ from by go_grown).size) HS0.out).mono ?_; rintro e ve0 ⟨y0, rfl, hv, -, ov⟩; have Ov := Lib.hid ov.rd; have hBv : Below wi.heap.size wi ve0 := below_on (by go_grown) hv; clear ov hv) | (go_at_call 10; go_split_ands; refine (eqPg_any x0 y0 o0 o0 _ ve0.heap.size ((Xr0_6).out.up (show Below wi.heap.size wi _ from by go_grown) (by omega) (Nat.le_trans (by omega) hBv.size)) (Ov.out.below (show Below ve0.heap.size ve0 _ from by go_grown) (Nat.le_refl _)) (show Below ve0.heap.size ve0 _ from by go_grown).size (PgS_L HS0.out) (PgS_L HS0.out) true (Lib.hid (by simp))).mono ?_; rintro e vf0 ⟨rfl, hvf⟩; have hBvf : Below wi.heap.size wi vf0 := below_on (by go_grown) hvf; clear hvf))
  clear AllS Ov hBv
  try clear hHeld
  have sz_7 := (hBvf).size
  have F0_7 := Lib.hid ((F0_6).out.below hBvf (F0_6).out.lt)
  clear F0_6
  have R0_7 := Lib.hid ((R0_6).out.below hBvf (by omega))
  clear R0_6
  have BEL_7 := Lib.hid (below_on (BEL_6).out hBvf)
  clear BEL_6
  have Xo0_7 := Lib.hid ((Xo0_6).out.below hBvf (by omega))
  clear Xo0_6
  have Xr0_7 := Lib.hid ((Xr0_6).out.below hBvf (by omega))
  clear Xr0_6
  have X0_7 := Lib.hid ((X0_6).out.below hBvf (X0_6).out.lt)
  clear X0_6
  clear hBvf
  have hfin := (BEL_7).out
  go_wp2
  go_ret
  exact ⟨rfl, hfin⟩
end Go.Proofs.Ytaghidaamcnpkaa
