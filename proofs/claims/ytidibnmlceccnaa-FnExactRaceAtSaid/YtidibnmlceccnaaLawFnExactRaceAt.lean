/-
  At every program and order, RaceAt answers as its reference model does, and the arguments read afterwards as they did before. No condition.
-/
import Derived.Test.YtidibnmlceccnaaSRaceAt
import Derived.Deep.RegionHeld3
import Derived.Test.YtidibnmlceccnaaOpenIs
import Derived.Test.YtidibnmlceccnaaOpenP
namespace Go.Proofs.Ytidibnmlceccnaa
open Go.RowKit Pl Go.BigFrame
set_option maxHeartbeats 8000000
set_option maxRecDepth 100000
set_option linter.unusedVariables false

theorem lwRaceAt (h0 : PgH) (o0 : Pg) (h1 : IsH) (o1 : Is) (w : World) (hR0 : PgR w w.heap.size h0 o0) (hL0 : PgL o0 maxLen) (hR1 : IsR w w.heap.size h1 o1) (hL1 : IsL o1 maxLen) :
    Calls Try.prog 14 #[PgV h0 o0, IsV h1 o1] w fun e w' => e = .returned (.bool true) ∧ Below w.heap.size w w' := by
  obtain ⟨W, hW⟩ : ∃ W, W = (w.alloc (.cells #[.slice h0.A o0.length h0.c] 24)) := ⟨_, rfl⟩
  have hbW : Below w.heap.size w W := by rw [hW]; go_grown
  have hsW : W.heap.size = w.heap.size + 1 := by rw [hW]; simp
  have k0 : Bk W (w.heap.size) 24 #[.slice h0.A o0.length h0.c] := by
    rw [hW]; have := Bk.new w #[.slice h0.A o0.length h0.c] 24
    exact this
  have HW := Lib.hid hW
  have F0_0 := Lib.hid (k0)
  have R0_0 := Lib.hid (hR0.below hbW (Nat.le_refl _))
  have R1_0 := Lib.hid (hR1.below hbW (Nat.le_refl _))
  have BEL_0 := Lib.hid (hbW)
  have hsWa := Nat.le_of_eq hsW
  have hsWb := Nat.le_of_eq hsW.symm
  clear hW hsW hbW k0 hR0 hR1
  obtain ⟨z0, hz0⟩ : ∃ z, szPg 1048576 o0 = z := ⟨_, rfl⟩
  have Z0 := Lib.hid hz0
  clear hz0
  have u0 : -1 ≤ z0 ∧ z0 ≤ 1048576 := by rw [← Z0.out]; exact szPg_ge _ _ (by omega)
  by_cases n1 : (1048576 : Int) < (o1.length : Int)
  · go_enter Try.func14, Try.ntmps14
    go_wp2
    rw [← HW.out]
    go_ret
    exact ⟨rfl, (BEL_0).out⟩
  have HS1 := Lib.hid (show IsS o1 from ⟨by omega⟩)
  by_cases n0 : z0 < 0
  · skip
    go_enter Try.func14, Try.ntmps14
    go_wp2_with fail
    rw [← HW.out]
    refine (szPg_any h0 o0 1048576 W w.heap.size (R0_0).out (by omega) hL0 (by omega) (by omega) z0 Z0).mono ?_
    rintro e ws0 ⟨rfl, hbs0⟩
    have sz_1 := (hbs0).size
    have F0_1 := Lib.hid ((F0_0).out.below hbs0 (F0_0).out.lt)
    clear F0_0
    have R0_1 := Lib.hid ((R0_0).out.below hbs0 (by omega))
    clear R0_0
    have R1_1 := Lib.hid ((R1_0).out.below hbs0 (by omega))
    clear R1_0
    have BEL_1 := Lib.hid (below_on (BEL_0).out hbs0)
    clear BEL_0
    clear hbs0
    go_wp2
    go_ret
    exact ⟨rfl, (BEL_1).out⟩
  have S0 : PgS o0 := szPg_small (by rw [Z0.out]; omega) (by omega) (by omega)
  have HS0 := Lib.hid S0
  clear S0
  obtain ⟨r, hr⟩ : ∃ r, racZ o0 o1 = r := ⟨_, rfl⟩
  have HR := Lib.hid hr
  clear hr
  go_enter Try.func14, Try.ntmps14
  go_wp2_with fail
  rw [← HW.out]
  refine (szPg_any h0 o0 1048576 W w.heap.size (R0_0).out (by omega) hL0 (by omega) (by omega) z0 Z0).mono ?_
  rintro e ws0 ⟨rfl, hbs0⟩
  have sz_1 := (hbs0).size
  have F0_1 := Lib.hid ((F0_0).out.below hbs0 (F0_0).out.lt)
  clear F0_0
  have R0_1 := Lib.hid ((R0_0).out.below hbs0 (by omega))
  clear R0_0
  have R1_1 := Lib.hid ((R1_0).out.below hbs0 (by omega))
  clear R1_0
  have BEL_1 := Lib.hid (below_on (BEL_0).out hbs0)
  clear BEL_0
  clear hbs0
  have c_F0_0 : ws0.cell? ⟨w.heap.size, 0, none⟩ = some (.slice h0.A o0.length h0.c) := (F0_1).out.cell 0
  have l_F0 : w.heap.size < ws0.heap.size := (F0_1).out.lt
  go_wp2_with fail
  clear c_F0_0 l_F0
  refine (toPg_any h0 o0 ws0 w.heap.size (R0_1).out (by omega) HS0.out).mono ?_
  rintro e wt0 ⟨t0, rfl, hbt, hlt, owt⟩
  have sz_2 := (hbt).size
  have F0_2 := Lib.hid ((F0_1).out.below hbt (F0_1).out.lt)
  clear F0_1
  have R0_2 := Lib.hid ((R0_1).out.below hbt (by omega))
  clear R0_1
  have R1_2 := Lib.hid ((R1_1).out.below hbt (by omega))
  clear R1_1
  have BEL_2 := Lib.hid (below_on (BEL_1).out hbt)
  clear BEL_1
  have T0_2 := Lib.hid (owt.rd)
  clear hbt hlt owt
  go_wp2_with fail
  refine (toIs_any h1 o1 wt0 w.heap.size (R1_2).out (by omega) HS1.out).mono ?_
  rintro e wt1 ⟨t1, rfl, hbt, hlt, owt⟩
  have sz_3 := (hbt).size
  have F0_3 := Lib.hid ((F0_2).out.below hbt (F0_2).out.lt)
  clear F0_2
  have R0_3 := Lib.hid ((R0_2).out.below hbt (by omega))
  clear R0_2
  have R1_3 := Lib.hid ((R1_2).out.below hbt (by omega))
  clear R1_2
  have BEL_3 := Lib.hid (below_on (BEL_2).out hbt)
  clear BEL_2
  have T0_3 := Lib.hid ((T0_2).out.below hbt (by omega))
  clear T0_2
  have T1_3 := Lib.hid (owt.rd)
  clear hbt hlt owt
  go_wp2_with fail
  refine (srace_any t0 o0 t1 o1 wt1 wt1.heap.size ((T0_3).out.up (Below.refl wt1.heap.size wt1) (by omega) (by omega)) ((T1_3).out.up (Below.refl wt1.heap.size wt1) (by omega) (by omega)) (Nat.le_refl _) HS0.out HS1.out r HR).mono ?_
  rintro e wu ⟨rfl, hbu⟩
  clear T0_3
  clear T1_3
  have sz_4 := (hbu).size
  have F0_4 := Lib.hid ((F0_3).out.below hbu (F0_3).out.lt)
  clear F0_3
  have R0_4 := Lib.hid ((R0_3).out.below hbu (by omega))
  clear R0_3
  have R1_4 := Lib.hid ((R1_3).out.below hbu (by omega))
  clear R1_3
  have BEL_4 := Lib.hid (below_on (BEL_3).out hbu)
  clear BEL_3
  clear hbu
  have c_F0_0 : wu.cell? ⟨w.heap.size, 0, none⟩ = some (.slice h0.A o0.length h0.c) := (F0_4).out.cell 0
  have l_F0 : w.heap.size < wu.heap.size := (F0_4).out.lt
  go_wp2_with fail
  clear c_F0_0 l_F0
  refine (toPg_any h0 o0 wu w.heap.size (R0_4).out (by omega) HS0.out).mono ?_
  rintro e wx0 ⟨x0, rfl, hbx, hlx, own⟩
  have sz_5 := (hbx).size
  have F0_5 := Lib.hid ((F0_4).out.below hbx (F0_4).out.lt)
  clear F0_4
  have R0_5 := Lib.hid ((R0_4).out.below hbx (by omega))
  clear R0_4
  have R1_5 := Lib.hid ((R1_4).out.below hbx (by omega))
  clear R1_4
  have BEL_5 := Lib.hid (below_on (BEL_4).out hbx)
  clear BEL_4
  clear hbx hlx
  have Xo0_5 := Lib.hid (own)
  have Xr0_5 := Lib.hid (own.rd)
  clear own
  go_wp2_with fail
  obtain ⟨Vx0, hVx0⟩ : ∃ V, V = wx0.alloc (.cells #[.slice x0.A o0.length x0.c] 32) := ⟨_, rfl⟩
  rw [← hVx0]
  have bVx0 : Below wx0.heap.size wx0 Vx0 := by rw [hVx0]; go_grown
  have zVx0 : Vx0.heap.size = wx0.heap.size + 1 := by rw [hVx0]; simp
  have kVx0 : Bk Vx0 wx0.heap.size 32 #[.slice x0.A o0.length x0.c] := by rw [hVx0]; exact Bk.new _ _ _
  have zVx0a := Nat.le_of_eq zVx0
  have zVx0b := Nat.le_of_eq zVx0.symm
  clear zVx0
  have sz_6 := (bVx0).size
  have F0_6 := Lib.hid ((F0_5).out.below bVx0 (F0_5).out.lt)
  clear F0_5
  have R0_6 := Lib.hid ((R0_5).out.below bVx0 (by omega))
  clear R0_5
  have R1_6 := Lib.hid ((R1_5).out.below bVx0 (by omega))
  clear R1_5
  have BEL_6 := Lib.hid (below_on (BEL_5).out bVx0)
  clear BEL_5
  have Xo0_6 := Lib.hid ((Xo0_5).out.below bVx0 (by omega))
  clear Xo0_5
  have Xr0_6 := Lib.hid ((Xr0_5).out.below bVx0 (by omega))
  clear Xr0_5
  have X0_6 := Lib.hid (kVx0)
  clear hVx0 bVx0 kVx0
  refine (toIs_any h1 o1 Vx0 w.heap.size (R1_6).out (by omega) HS1.out).mono ?_
  rintro e wx1 ⟨x1, rfl, hbx, hlx, own⟩
  have sz_7 := (hbx).size
  have F0_7 := Lib.hid ((F0_6).out.below hbx (F0_6).out.lt)
  clear F0_6
  have R0_7 := Lib.hid ((R0_6).out.below hbx (by omega))
  clear R0_6
  have R1_7 := Lib.hid ((R1_6).out.below hbx (by omega))
  clear R1_6
  have BEL_7 := Lib.hid (below_on (BEL_6).out hbx)
  clear BEL_6
  have Xo0_7 := Lib.hid ((Xo0_6).out.below hbx (by omega))
  clear Xo0_6
  have Xr0_7 := Lib.hid ((Xr0_6).out.below hbx (by omega))
  clear Xr0_6
  have X0_7 := Lib.hid ((X0_6).out.below hbx (X0_6).out.lt)
  clear X0_6
  clear hbx hlx
  have Xo1_7 := Lib.hid (own)
  have Xr1_7 := Lib.hid (own.rd)
  clear own
  have c_X0_0 : wx1.cell? ⟨wx0.heap.size, 0, none⟩ = some (.slice x0.A o0.length x0.c) := (X0_7).out.cell 0
  have l_X0 : wx0.heap.size < wx1.heap.size := (X0_7).out.lt
  go_wp2_with fail
  clear c_X0_0 l_X0
  refine (irace_any x0 o0 x1 o1 wx1 wx1.heap.size ((Xr0_7).out.up (Below.refl wx1.heap.size wx1) (by omega) (by omega)) ((Xr1_7).out.up (Below.refl wx1.heap.size wx1) (by omega) (by omega)) (Nat.le_refl _) HS0.out HS1.out r HR).mono ?_
  rintro e wi ⟨rfl, hbi⟩
  have sz_8 := (hbi).size
  have F0_8 := Lib.hid ((F0_7).out.below hbi (F0_7).out.lt)
  clear F0_7
  have R0_8 := Lib.hid ((R0_7).out.below hbi (by omega))
  clear R0_7
  have R1_8 := Lib.hid ((R1_7).out.below hbi (by omega))
  clear R1_7
  have BEL_8 := Lib.hid (below_on (BEL_7).out hbi)
  clear BEL_7
  have Xo0_8 := Lib.hid ((Xo0_7).out.below hbi (by omega))
  clear Xo0_7
  have Xr0_8 := Lib.hid ((Xr0_7).out.below hbi (by omega))
  clear Xr0_7
  have X0_8 := Lib.hid ((X0_7).out.below hbi (X0_7).out.lt)
  clear X0_7
  have Xo1_8 := Lib.hid ((Xo1_7).out.below hbi (by omega))
  clear Xo1_7
  have Xr1_8 := Lib.hid ((Xr1_7).out.below hbi (by omega))
  clear Xr1_7
  clear hbi
  have allS : ∀ w', Below wi.heap.size wi w' → (Below wi.heap.size wi w' ∧ w'.cell? ⟨wx0.heap.size, 0, none⟩ = some (.slice x0.A o0.length x0.c) ∧ w'.cell? ⟨w.heap.size, 0, none⟩ = some (.slice h0.A o0.length h0.c)) := fun w' hb => ⟨hb, ((X0_8).out.below hb (X0_8).out.lt).cell 0, ((F0_8).out.below hb (F0_8).out.lt).cell 0⟩
  have AllS := Lib.hid allS
  clear allS
  go_wp2_with fail
  go_region_held3 (fun w' => Below wi.heap.size wi w' ∧ w'.cell? ⟨wx0.heap.size, 0, none⟩ = some (.slice x0.A o0.length x0.c) ∧ w'.cell? ⟨w.heap.size, 0, none⟩ = some (.slice h0.A o0.length h0.c)) (first | (go_split_ands; exact AllS.out _ (by go_grown)) | (exact AllS.out _ (by go_grown))) (first | (go_at_call 17; go_split_ands; refine (toPg_any h0 o0 _ w.heap.size ((R0_8).out.below (show Below wi.heap.size wi _ from by go_grown) (by omega)) (Nat.le_trans (by omega) (show Below wi.heap.size wi _ from by go_grown).size) HS0.out).mono ?_; rintro e ve0 ⟨y0, rfl, hv, -, ov⟩; have Ov := Lib.hid ov.rd; have hBv : Below wi.heap.size wi ve0 := below_on (by go_grown) hv; clear ov hv) | (go_at_call 21; go_split_ands; refine (eqPg_any x0 y0 o0 o0 _ ve0.heap.size ((Xr0_8).out.up (show Below wi.heap.size wi _ from by go_grown) (by omega) (Nat.le_trans (by omega) hBv.size)) (Ov.out.below (show Below ve0.heap.size ve0 _ from by go_grown) (Nat.le_refl _)) (show Below ve0.heap.size ve0 _ from by go_grown).size (PgS_L HS0.out) (PgS_L HS0.out) true (Lib.hid (by simp))).mono ?_; rintro e vf0 ⟨rfl, hvf⟩; have hBvf : Below wi.heap.size wi vf0 := below_on (by go_grown) hvf; clear hvf))
  clear AllS Ov hBv
  try clear hHeld
  have sz_9 := (hBvf).size
  have F0_9 := Lib.hid ((F0_8).out.below hBvf (F0_8).out.lt)
  clear F0_8
  have R0_9 := Lib.hid ((R0_8).out.below hBvf (by omega))
  clear R0_8
  have R1_9 := Lib.hid ((R1_8).out.below hBvf (by omega))
  clear R1_8
  have BEL_9 := Lib.hid (below_on (BEL_8).out hBvf)
  clear BEL_8
  have Xo0_9 := Lib.hid ((Xo0_8).out.below hBvf (by omega))
  clear Xo0_8
  have Xr0_9 := Lib.hid ((Xr0_8).out.below hBvf (by omega))
  clear Xr0_8
  have X0_9 := Lib.hid ((X0_8).out.below hBvf (X0_8).out.lt)
  clear X0_8
  have Xo1_9 := Lib.hid ((Xo1_8).out.below hBvf (by omega))
  clear Xo1_8
  have Xr1_9 := Lib.hid ((Xr1_8).out.below hBvf (by omega))
  clear Xr1_8
  clear hBvf
  go_wp2_with fail
  refine (toIs_any h1 o1 vf0 w.heap.size (R1_9).out (by omega) HS1.out).mono ?_
  rintro e ve1 ⟨y1, rfl, hbe, hle, owe⟩
  have sz_10 := (hbe).size
  have F0_10 := Lib.hid ((F0_9).out.below hbe (F0_9).out.lt)
  clear F0_9
  have R0_10 := Lib.hid ((R0_9).out.below hbe (by omega))
  clear R0_9
  have R1_10 := Lib.hid ((R1_9).out.below hbe (by omega))
  clear R1_9
  have BEL_10 := Lib.hid (below_on (BEL_9).out hbe)
  clear BEL_9
  have Xo0_10 := Lib.hid ((Xo0_9).out.below hbe (by omega))
  clear Xo0_9
  have Xr0_10 := Lib.hid ((Xr0_9).out.below hbe (by omega))
  clear Xr0_9
  have X0_10 := Lib.hid ((X0_9).out.below hbe (X0_9).out.lt)
  clear X0_9
  have Xo1_10 := Lib.hid ((Xo1_9).out.below hbe (by omega))
  clear Xo1_9
  have Xr1_10 := Lib.hid ((Xr1_9).out.below hbe (by omega))
  clear Xr1_9
  have Y_10 := Lib.hid (owe.rd)
  clear hbe hle owe
  go_wp2_with fail
  refine (eqIs_any x1 y1 o1 o1 ve1 ve1.heap.size ((Xr1_10).out.up (Below.refl _ _) (by omega) (by omega)) (Y_10).out (Nat.le_refl _) (IsS_L HS1.out) (IsS_L HS1.out) true (Lib.hid (by simp))).mono ?_
  rintro e vf1 ⟨rfl, hbf⟩
  clear Y_10
  have sz_11 := (hbf).size
  have F0_11 := Lib.hid ((F0_10).out.below hbf (F0_10).out.lt)
  clear F0_10
  have R0_11 := Lib.hid ((R0_10).out.below hbf (by omega))
  clear R0_10
  have R1_11 := Lib.hid ((R1_10).out.below hbf (by omega))
  clear R1_10
  have BEL_11 := Lib.hid (below_on (BEL_10).out hbf)
  clear BEL_10
  have Xo0_11 := Lib.hid ((Xo0_10).out.below hbf (by omega))
  clear Xo0_10
  have Xr0_11 := Lib.hid ((Xr0_10).out.below hbf (by omega))
  clear Xr0_10
  have X0_11 := Lib.hid ((X0_10).out.below hbf (X0_10).out.lt)
  clear X0_10
  have Xo1_11 := Lib.hid ((Xo1_10).out.below hbf (by omega))
  clear Xo1_10
  have Xr1_11 := Lib.hid ((Xr1_10).out.below hbf (by omega))
  clear Xr1_10
  clear hbf
  have hfin := (BEL_11).out
  go_wp2
  go_ret
  exact ⟨rfl, hfin⟩
end Go.Proofs.Ytidibnmlceccnaa
namespace Go.Proofs.Ytidibnmlceccnaa.fnExactRaceAt
open Go.ChangeShapes Go.WideShapes Go.ChangeAt Go.RowKit
set_option linter.unusedVariables false

set_option maxRecDepth 100000 in
theorem lifted (os : Os) (started : os.Started) (H : Type) (enc : TypeId × Value → H) :
    ReturnsInHanded {} Try.checked os 14 .any (Rows.fnExactRaceAtSpec.pre6 enc Try.prog Try.f14 Rows.fnExactRaceAtRow.domain false) (Rows.fnExactRaceAtSpec.post enc Try.prog Try.f14 false true false false) := by
  refine returnsInHanded_of_change (C := Try.checked) Try.own started (by kernel_rfl) Try.func14
    (ChangeSpec.witness6 (enc := enc) (C := Try.checked) false ⟨#[], #[.agg #[.slice none 0 0], .slice none 0 0], []⟩ 8 (by kernel_rfl) (by kernel_rfl) (by kernel_rfl) (by kernel_rfl)) ?_
  intro W base args ds gs before hval0 hW hcnd _
  have hval : ∀ (j : Nat) t v, Try.f14.params[j]? = some t → args[j]? = some v → Value.okWide Try.prog W .any base t v := hval0
  have hW' := hW
  obtain ⟨p, q, hA0, hV, rfl, hfz, hnd⟩ := hW
  have hA : DataW.TrodAll enc Try.prog W 0 (fun _ => true) true Try.f14.params.toList args.toList ds p := hA0
  rw [Try.params14] at hA hval
  obtain ⟨v0, vs0, d0, ds0, p0, q0, hargs, rfl, rfl, h0, r90⟩ := trodAll_cons hA
  obtain ⟨v1, vs1, d1, ds1, p1, q1, rfl, rfl, rfl, h1, r91⟩ := trodAll_cons r90
  obtain ⟨rfl, rfl, rfl⟩ := trodAll_nil r91
  obtain rfl : args = #[v0, v1] := by cases args; simp_all
  obtain ⟨rfl, rfl⟩ := trodVars_none hV
  have k0 := h0
  have lt0 : ∀ x ∈ p0, x.block < W.heap.size := by obtain ⟨m, hm⟩ := k0; exact DataW.trod_lt m _ _ _ hm
  obtain ⟨A0, c0, L0, rfl, hn0, hr0⟩ := open_prog (hval 0 24 v0 rfl rfl) h0
  have k1 := h1
  have lt1 : ∀ x ∈ p1, x.block < W.heap.size := by obtain ⟨m, hm⟩ := k1; exact DataW.trod_lt m _ _ _ hm
  obtain ⟨H1, O1, rfl, hn1, hr1⟩ := open_Is (hval 1 25 v1 rfl rfl) h1
  clear hA0 hval0
  refine (lwRaceAt ⟨A0, c0⟩ L0 H1 O1 W hr0 ⟨hn0⟩ hr1 hn1).mono fun e W' ⟨he, bel⟩ => ?_
  subst he
  exact ⟨_, rfl, _, _, _, [], _, [], hW', trodAll_mk1 (shut_bool Try.underlying4 _), (trodAll_cons_mk (Below.trod Try.laidOut (by kernel_rfl) (of_decide_eq_true (by kernel_rfl)) k0 bel lt0) (trodAll_cons_mk (Below.trod Try.laidOut (by kernel_rfl) (of_decide_eq_true (by kernel_rfl)) k1 bel lt1) trodAll_mk0)), rfl, bel.frame _, fun h => by cases h⟩

set_option maxHeartbeats 8000000 in
theorem over : Rows.fnExactRaceAtRow.holds Try.pinned (OpenSpec.ofChange Rows.fnExactRaceAtSpec) :=
  OpenClaim.holds_of_wide 14 Try.f14 rfl rfl rfl rfl rfl rfl rfl ⟨rfl, rfl, rfl, rfl, rfl⟩ rfl rfl rfl rfl rfl (by as_aux_lemma => kernel_rfl) Try.func14 (by as_aux_lemma => kernel_rfl)
    (of_decide_eq_true (by as_aux_lemma => kernel_rfl)) (by unfold Func.isWrapper; first | (rw [if_pos (by decide +kernel)]; kernel_rfl) | (rw [if_neg (by decide +kernel)]; exact ⟨rfl, rfl⟩))
    (fun os started H enc _ => lifted os started H enc)

theorem proved : Rows.FnExactRaceAtSaid := over
#print axioms proved
end Go.Proofs.Ytidibnmlceccnaa.fnExactRaceAt
