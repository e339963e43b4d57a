/-
  The walk of the law on ClockJoin: it comes to true, whatever the arguments and the memory, and leaves all memory that was there as it was.
-/
import Derived.Test.YtidibnmlceccnaaJoi
import Derived.Deep.RegionHeld3
import Derived.Deep.DeepCutAuto
namespace Go.Proofs.Ytidibnmlceccnaa
open Go.RowKit Pl Go.BigFrame
set_option maxHeartbeats 16000000
set_option maxRecDepth 100000
set_option linter.unusedVariables false

theorem lwClockJoin (h0 : IsH) (o0 : Is) (h1 : IsH) (o1 : Is) (w : World) (hR0 : IsR w w.heap.size h0 o0) (hL0 : IsL o0 maxLen) (hR1 : IsR w w.heap.size h1 o1) (hL1 : IsL o1 maxLen) :
    Calls Try.prog 11 #[IsV h0 o0, IsV h1 o1] w fun e w' => e = .returned (.bool true) ∧ Below w.heap.size w w' := by
  have R0_0 := Lib.hid (hR0)
  have R1_0 := Lib.hid (hR1)
  have BEL_0 := Lib.hid (Below.refl w.heap.size w)
  clear hR0 hR1
  by_cases n0 : (1048576 : Int) < (o0.length : Int)
  · go_enter Try.func11, Try.ntmps11
    go_wp2
    go_ret
    exact ⟨rfl, (BEL_0).out⟩
  have HS0 := Lib.hid (show IsS o0 from ⟨by omega⟩)
  by_cases n1 : (1048576 : Int) < (o1.length : Int)
  · go_enter Try.func11, Try.ntmps11
    go_wp2
    go_ret
    exact ⟨rfl, (BEL_0).out⟩
  have HS1 := Lib.hid (show IsS o1 from ⟨by omega⟩)
  obtain ⟨E, hE⟩ : ∃ E, joiE o0 o1 = E := ⟨_, rfl⟩
  obtain ⟨r, hr⟩ : ∃ r, joiR o0 o1 = r := ⟨_, rfl⟩
  have HE := Lib.hid hE
  have HR := Lib.hid hr
  have hSE : IlS E := by rw [← hE]; exact joiE_small HS0.out HS1.out
  have HSE := Lib.hid hSE
  clear hE hSE
  clear hr
  go_enter Try.func11, Try.ntmps11
  go_wp2_with fail
  refine (toIs_any h0 o0 w w.heap.size (R0_0).out (by omega) HS0.out).mono ?_
  rintro e wt0 ⟨t0, rfl, hbt, hlt, owt⟩
  have sz_1 := (hbt).size
  have R0_1 := Lib.hid ((R0_0).out.below hbt (by omega))
  clear R0_0
  have R1_1 := Lib.hid ((R1_0).out.below hbt (by omega))
  clear R1_0
  have BEL_1 := Lib.hid (below_on (BEL_0).out hbt)
  clear BEL_0
  have T0_1 := Lib.hid (owt.rd)
  clear hbt hlt owt
  go_wp2_with fail
  refine (toIs_any h1 o1 wt0 w.heap.size (R1_1).out (by omega) HS1.out).mono ?_
  rintro e wt1 ⟨t1, rfl, hbt, hlt, owt⟩
  have sz_2 := (hbt).size
  have R0_2 := Lib.hid ((R0_1).out.below hbt (by omega))
  clear R0_1
  have R1_2 := Lib.hid ((R1_1).out.below hbt (by omega))
  clear R1_1
  have BEL_2 := Lib.hid (below_on (BEL_1).out hbt)
  clear BEL_1
  have T0_2 := Lib.hid ((T0_1).out.below hbt (by omega))
  clear T0_1
  have T1_2 := Lib.hid (owt.rd)
  clear hbt hlt owt
  go_wp2_with fail
  have hs := sjoin_any t0 o0 t1 o1 wt1 wt1.heap.size ((T0_2).out.up (Below.refl wt1.heap.size wt1) (by omega) (by omega)) ((T1_2).out.up (Below.refl wt1.heap.size wt1) (by omega) (by omega)) (Nat.le_refl _) HS0.out HS1.out
  rw [HE.out, HR.out] at hs
  refine hs.mono ?_
  clear hs
  rintro e wu ⟨hw, rfl, hba, hla, owa⟩
  have sz_3 := (hba).size
  have R0_3 := Lib.hid ((R0_2).out.below hba (by omega))
  clear R0_2
  have R1_3 := Lib.hid ((R1_2).out.below hba (by omega))
  clear R1_2
  have BEL_3 := Lib.hid (below_on (BEL_2).out hba)
  clear BEL_2
  have T0_3 := Lib.hid ((T0_2).out.below hba (by omega))
  clear T0_2
  have T1_3 := Lib.hid ((T1_2).out.below hba (by omega))
  clear T1_2
  have W0_3 := Lib.hid (owa)
  clear hba hla owa
  clear T0_3
  clear T1_3
  go_wp2_with fail
  refine (toIs_any h0 o0 wu w.heap.size (R0_3).out (by omega) HS0.out).mono ?_
  rintro e wx0 ⟨x0, rfl, hbt, hlt, owt⟩
  have sz_4 := (hbt).size
  have R0_4 := Lib.hid ((R0_3).out.below hbt (by omega))
  clear R0_3
  have R1_4 := Lib.hid ((R1_3).out.below hbt (by omega))
  clear R1_3
  have BEL_4 := Lib.hid (below_on (BEL_3).out hbt)
  clear BEL_3
  have W0_4 := Lib.hid ((W0_3).out.below hbt (by omega))
  clear W0_3
  clear hbt hlt
  have Xo0_4 := Lib.hid (owt)
  have Xr0_4 := Lib.hid (owt.rd)
  clear owt
  go_wp2_with fail
  refine (toIs_any h1 o1 wx0 w.heap.size (R1_4).out (by omega) HS1.out).mono ?_
  rintro e wx1 ⟨x1, rfl, hbt, hlt, owt⟩
  have sz_5 := (hbt).size
  have R0_5 := Lib.hid ((R0_4).out.below hbt (by omega))
  clear R0_4
  have R1_5 := Lib.hid ((R1_4).out.below hbt (by omega))
  clear R1_4
  have BEL_5 := Lib.hid (below_on (BEL_4).out hbt)
  clear BEL_4
  have W0_5 := Lib.hid ((W0_4).out.below hbt (by omega))
  clear W0_4
  have Xo0_5 := Lib.hid ((Xo0_4).out.below hbt (by omega))
  clear Xo0_4
  have Xr0_5 := Lib.hid ((Xr0_4).out.below hbt (by omega))
  clear Xr0_4
  clear hbt hlt
  have Xo1_5 := Lib.hid (owt)
  have Xr1_5 := Lib.hid (owt.rd)
  clear owt
  go_wp2_with fail
  have hs := ijoin_any x0 o0 x1 o1 wx1 wx1.heap.size ((Xr0_5).out.up (Below.refl wx1.heap.size wx1) (by omega) (by omega)) ((Xr1_5).out.up (Below.refl wx1.heap.size wx1) (by omega) (by omega)) (Nat.le_refl _) HS0.out HS1.out
  rw [HE.out, HR.out] at hs
  refine hs.mono ?_
  clear hs
  rintro e wi ⟨hg, rfl, hba, hla, owa⟩
  have sz_6 := (hba).size
  have R0_6 := Lib.hid ((R0_5).out.below hba (by omega))
  clear R0_5
  have R1_6 := Lib.hid ((R1_5).out.below hba (by omega))
  clear R1_5
  have BEL_6 := Lib.hid (below_on (BEL_5).out hba)
  clear BEL_5
  have W0_6 := Lib.hid ((W0_5).out.below hba (by omega))
  clear W0_5
  have Xo0_6 := Lib.hid ((Xo0_5).out.below hba (by omega))
  clear Xo0_5
  have Xr0_6 := Lib.hid ((Xr0_5).out.below hba (by omega))
  clear Xr0_5
  have Xo1_6 := Lib.hid ((Xo1_5).out.below hba (by omega))
  clear Xo1_5
  have Xr1_6 := Lib.hid ((Xr1_5).out.below hba (by omega))
  clear Xr1_5
  have G0_6 := Lib.hid (owa)
  clear hba hla owa
  go_wp2_with fail
  refine (eqIl_any hg hw E E wi wi.heap.size ((G0_6).out.rd.up (Below.refl wi.heap.size wi) (by omega) (by omega)) ((W0_6).out.rd.up (Below.refl wi.heap.size wi) (by omega) (by omega)) (Nat.le_refl _) (IlS_L HSE.out) (IlS_L HSE.out) true (Lib.hid (by simp))).mono ?_
  rintro e wq0 ⟨rfl, hbq⟩
  have sz_7 := (hbq).size
  have R0_7 := Lib.hid ((R0_6).out.below hbq (by omega))
  clear R0_6
  have R1_7 := Lib.hid ((R1_6).out.below hbq (by omega))
  clear R1_6
  have BEL_7 := Lib.hid (below_on (BEL_6).out hbq)
  clear BEL_6
  have W0_7 := Lib.hid ((W0_6).out.below hbq (by omega))
  clear W0_6
  have Xo0_7 := Lib.hid ((Xo0_6).out.below hbq (by omega))
  clear Xo0_6
  have Xr0_7 := Lib.hid ((Xr0_6).out.below hbq (by omega))
  clear Xr0_6
  have Xo1_7 := Lib.hid ((Xo1_6).out.below hbq (by omega))
  clear Xo1_6
  have Xr1_7 := Lib.hid ((Xr1_6).out.below hbq (by omega))
  clear Xr1_6
  have G0_7 := Lib.hid ((G0_6).out.below hbq (by omega))
  clear G0_6
  clear hbq
  go_wp2_with fail
  refine (toIs_any h0 o0 wq0 w.heap.size (R0_7).out (by omega) HS0.out).mono ?_
  rintro e ve0 ⟨y0, rfl, hbe, hle, owe⟩
  have sz_8 := (hbe).size
  have R0_8 := Lib.hid ((R0_7).out.below hbe (by omega))
  clear R0_7
  have R1_8 := Lib.hid ((R1_7).out.below hbe (by omega))
  clear R1_7
  have BEL_8 := Lib.hid (below_on (BEL_7).out hbe)
  clear BEL_7
  have W0_8 := Lib.hid ((W0_7).out.below hbe (by omega))
  clear W0_7
  have Xo0_8 := Lib.hid ((Xo0_7).out.below hbe (by omega))
  clear Xo0_7
  have Xr0_8 := Lib.hid ((Xr0_7).out.below hbe (by omega))
  clear Xr0_7
  have Xo1_8 := Lib.hid ((Xo1_7).out.below hbe (by omega))
  clear Xo1_7
  have Xr1_8 := Lib.hid ((Xr1_7).out.below hbe (by omega))
  clear Xr1_7
  have G0_8 := Lib.hid ((G0_7).out.below hbe (by omega))
  clear G0_7
  have Y_8 := Lib.hid (owe.rd)
  clear hbe hle owe
  go_wp2_with fail
  refine (eqIs_any x0 y0 o0 o0 ve0 ve0.heap.size ((Xr0_8).out.up (Below.refl _ _) (by omega) (by omega)) (Y_8).out (Nat.le_refl _) (IsS_L HS0.out) (IsS_L HS0.out) true (Lib.hid (by simp))).mono ?_
  rintro e vf0 ⟨rfl, hbf⟩
  clear Y_8
  have sz_9 := (hbf).size
  have R0_9 := Lib.hid ((R0_8).out.below hbf (by omega))
  clear R0_8
  have R1_9 := Lib.hid ((R1_8).out.below hbf (by omega))
  clear R1_8
  have BEL_9 := Lib.hid (below_on (BEL_8).out hbf)
  clear BEL_8
  have W0_9 := Lib.hid ((W0_8).out.below hbf (by omega))
  clear W0_8
  have Xo0_9 := Lib.hid ((Xo0_8).out.below hbf (by omega))
  clear Xo0_8
  have Xr0_9 := Lib.hid ((Xr0_8).out.below hbf (by omega))
  clear Xr0_8
  have Xo1_9 := Lib.hid ((Xo1_8).out.below hbf (by omega))
  clear Xo1_8
  have Xr1_9 := Lib.hid ((Xr1_8).out.below hbf (by omega))
  clear Xr1_8
  have G0_9 := Lib.hid ((G0_8).out.below hbf (by omega))
  clear G0_8
  clear hbf
  go_wp2_with fail
  refine (toIs_any h1 o1 vf0 w.heap.size (R1_9).out (by omega) HS1.out).mono ?_
  rintro e ve1 ⟨y1, rfl, hbe, hle, owe⟩
  have sz_10 := (hbe).size
  have R0_10 := Lib.hid ((R0_9).out.below hbe (by omega))
  clear R0_9
  have R1_10 := Lib.hid ((R1_9).out.below hbe (by omega))
  clear R1_9
  have BEL_10 := Lib.hid (below_on (BEL_9).out hbe)
  clear BEL_9
  have W0_10 := Lib.hid ((W0_9).out.below hbe (by omega))
  clear W0_9
  have Xo0_10 := Lib.hid ((Xo0_9).out.below hbe (by omega))
  clear Xo0_9
  have Xr0_10 := Lib.hid ((Xr0_9).out.below hbe (by omega))
  clear Xr0_9
  have Xo1_10 := Lib.hid ((Xo1_9).out.below hbe (by omega))
  clear Xo1_9
  have Xr1_10 := Lib.hid ((Xr1_9).out.below hbe (by omega))
  clear Xr1_9
  have G0_10 := Lib.hid ((G0_9).out.below hbe (by omega))
  clear G0_9
  have Y_10 := Lib.hid (owe.rd)
  clear hbe hle owe
  go_wp2_with fail
  refine (eqIs_any x1 y1 o1 o1 ve1 ve1.heap.size ((Xr1_10).out.up (Below.refl _ _) (by omega) (by omega)) (Y_10).out (Nat.le_refl _) (IsS_L HS1.out) (IsS_L HS1.out) true (Lib.hid (by simp))).mono ?_
  rintro e vf1 ⟨rfl, hbf⟩
  clear Y_10
  have sz_11 := (hbf).size
  have R0_11 := Lib.hid ((R0_10).out.below hbf (by omega))
  clear R0_10
  have R1_11 := Lib.hid ((R1_10).out.below hbf (by omega))
  clear R1_10
  have BEL_11 := Lib.hid (below_on (BEL_10).out hbf)
  clear BEL_10
  have W0_11 := Lib.hid ((W0_10).out.below hbf (by omega))
  clear W0_10
  have Xo0_11 := Lib.hid ((Xo0_10).out.below hbf (by omega))
  clear Xo0_10
  have Xr0_11 := Lib.hid ((Xr0_10).out.below hbf (by omega))
  clear Xr0_10
  have Xo1_11 := Lib.hid ((Xo1_10).out.below hbf (by omega))
  clear Xo1_10
  have Xr1_11 := Lib.hid ((Xr1_10).out.below hbf (by omega))
  clear Xr1_10
  have G0_11 := Lib.hid ((G0_10).out.below hbf (by omega))
  clear G0_10
  clear hbf
  clear Xr0_11
  clear Xr1_11
  go_wp2_with fail
  have t0 := HS0.out.l0
  refine (markIs_any x0 o0 (1) vf1 wu.heap.size wx0.heap.size (Xo0_11).out (by omega) HS0.out (by omega) (by omega)).mono ?_
  rintro e wm0 ⟨rfl, hom, -⟩
  have sz_12 := (hom).size
  have R0_12 := Lib.hid ((R0_11).out.below ((hom).to_below (B := w.heap.size) (by omega) (by omega)) (Nat.le_refl _))
  clear R0_11
  have R1_12 := Lib.hid ((R1_11).out.below ((hom).to_below (B := w.heap.size) (by omega) (by omega)) (Nat.le_refl _))
  clear R1_11
  have BEL_12 := Lib.hid ((BEL_11).out.trans ((hom).to_below (by omega) (by omega)))
  clear BEL_11
  have W0_12 := Lib.hid ((W0_11).out.keep (Nat.le_refl _) (Nat.le_refl _) fun i h1 h2 => (hom).block i (by omega) (by omega))
  clear W0_11
  clear Xo0_11
  have Xo1_12 := Lib.hid ((Xo1_11).out.keep (Nat.le_refl _) (Nat.le_refl _) fun i h1 h2 => (hom).block i (by omega) (by omega))
  clear Xo1_11
  have G0_12 := Lib.hid ((G0_11).out.keep (Nat.le_refl _) (Nat.le_refl _) fun i h1 h2 => (hom).block i (by omega) (by omega))
  clear G0_11
  clear hom
  have al0 : 0 ≤ allIs o0 ∧ allIs o0 ≤ 9000000 := by unfold allIs; omega
  go_wp2_with fail
  have t1 := HS1.out.l0
  refine (markIs_any x1 o1 (1 + allIs o0) wm0 wx0.heap.size wx1.heap.size (Xo1_12).out (by omega) HS1.out (by omega) (by omega)).mono ?_
  rintro e wm1 ⟨rfl, hom, -⟩
  have sz_13 := (hom).size
  have R0_13 := Lib.hid ((R0_12).out.below ((hom).to_below (B := w.heap.size) (by omega) (by omega)) (Nat.le_refl _))
  clear R0_12
  have R1_13 := Lib.hid ((R1_12).out.below ((hom).to_below (B := w.heap.size) (by omega) (by omega)) (Nat.le_refl _))
  clear R1_12
  have BEL_13 := Lib.hid ((BEL_12).out.trans ((hom).to_below (by omega) (by omega)))
  clear BEL_12
  have W0_13 := Lib.hid ((W0_12).out.keep (Nat.le_refl _) (Nat.le_refl _) fun i h1 h2 => (hom).block i (by omega) (by omega))
  clear W0_12
  clear Xo1_12
  have G0_13 := Lib.hid ((G0_12).out.keep (Nat.le_refl _) (Nat.le_refl _) fun i h1 h2 => (hom).block i (by omega) (by omega))
  clear G0_12
  clear hom
  have al1 : 0 ≤ allIs o1 ∧ allIs o1 ≤ 9000000 := by unfold allIs; omega
  go_wp2_with fail
  refine (eqIl_any hg hw E E wm1 wm1.heap.size ((G0_13).out.rd.up (Below.refl wm1.heap.size wm1) (by omega) (by omega)) ((W0_13).out.rd.up (Below.refl wm1.heap.size wm1) (by omega) (by omega)) (Nat.le_refl _) (IlS_L HSE.out) (IlS_L HSE.out) true (Lib.hid (by simp))).mono ?_
  rintro e wq1 ⟨rfl, hbq⟩
  have sz_14 := (hbq).size
  have R0_14 := Lib.hid ((R0_13).out.below hbq (by omega))
  clear R0_13
  have R1_14 := Lib.hid ((R1_13).out.below hbq (by omega))
  clear R1_13
  have BEL_14 := Lib.hid (below_on (BEL_13).out hbq)
  clear BEL_13
  have W0_14 := Lib.hid ((W0_13).out.below hbq (by omega))
  clear W0_13
  have G0_14 := Lib.hid ((G0_13).out.below hbq (by omega))
  clear G0_13
  clear hbq
  go_wp2_with fail
  refine (markIl_any hg E 1 wq1 wx1.heap.size wi.heap.size (G0_14).out (by omega) HSE.out (by omega) (by omega)).mono ?_
  rintro e wmg ⟨rfl, hom, owm⟩
  have sz_15 := (hom).size
  have R0_15 := Lib.hid ((R0_14).out.below ((hom).to_below (B := w.heap.size) (by omega) (by omega)) (Nat.le_refl _))
  clear R0_14
  have R1_15 := Lib.hid ((R1_14).out.below ((hom).to_below (B := w.heap.size) (by omega) (by omega)) (Nat.le_refl _))
  clear R1_14
  have BEL_15 := Lib.hid ((BEL_14).out.trans ((hom).to_below (by omega) (by omega)))
  clear BEL_14
  have W0_15 := Lib.hid ((W0_14).out.keep (Nat.le_refl _) (Nat.le_refl _) fun i h1 h2 => (hom).block i (by omega) (by omega))
  clear W0_14
  clear G0_14
  have M0_15 := Lib.hid (owm)
  clear hom owm
  have aE : 0 ≤ allIl E ∧ allIl E ≤ 9000000 := by
    have t0 := HSE.out
    obtain ⟨q0⟩ := t0
    unfold allIl; omega
  go_wp2_with fail
  refine (heldIl_any hg E 1 wmg _ (M0_15).out.rd (by omega) HSE.out (by omega) (by omega)).mono ?_
  rintro e wh0 ⟨rfl, hbh⟩
  have sz_16 := (hbh).size
  have R0_16 := Lib.hid ((R0_15).out.below hbh (by omega))
  clear R0_15
  have R1_16 := Lib.hid ((R1_15).out.below hbh (by omega))
  clear R1_15
  have BEL_16 := Lib.hid (below_on (BEL_15).out hbh)
  clear BEL_15
  have W0_16 := Lib.hid ((W0_15).out.below hbh (by omega))
  clear W0_15
  have M0_16 := Lib.hid ((M0_15).out.below hbh (by omega))
  clear M0_15
  clear hbh
  go_wp2_with fail
  refine (toIs_any h0 o0 wh0 w.heap.size (R0_16).out (by omega) HS0.out).mono ?_
  rintro e wt20 ⟨s0, rfl, hbt, hlt, owt⟩
  have sz_17 := (hbt).size
  have R0_17 := Lib.hid ((R0_16).out.below hbt (by omega))
  clear R0_16
  have R1_17 := Lib.hid ((R1_16).out.below hbt (by omega))
  clear R1_16
  have BEL_17 := Lib.hid (below_on (BEL_16).out hbt)
  clear BEL_16
  have W0_17 := Lib.hid ((W0_16).out.below hbt (by omega))
  clear W0_16
  have M0_17 := Lib.hid ((M0_16).out.below hbt (by omega))
  clear M0_16
  have T0_17 := Lib.hid (owt.rd)
  clear hbt hlt owt
  go_wp2_with fail
  refine (toIs_any h1 o1 wt20 w.heap.size (R1_17).out (by omega) HS1.out).mono ?_
  rintro e wt21 ⟨s1, rfl, hbt, hlt, owt⟩
  have sz_18 := (hbt).size
  have R0_18 := Lib.hid ((R0_17).out.below hbt (by omega))
  clear R0_17
  have R1_18 := Lib.hid ((R1_17).out.below hbt (by omega))
  clear R1_17
  have BEL_18 := Lib.hid (below_on (BEL_17).out hbt)
  clear BEL_17
  have W0_18 := Lib.hid ((W0_17).out.below hbt (by omega))
  clear W0_17
  have M0_18 := Lib.hid ((M0_17).out.below hbt (by omega))
  clear M0_17
  have T0_18 := Lib.hid ((T0_17).out.below hbt (by omega))
  clear T0_17
  have T1_18 := Lib.hid (owt.rd)
  clear hbt hlt owt
  go_wp2_with fail
  have hs := ijoin_any s0 o0 s1 o1 wt21 wt21.heap.size ((T0_18).out.up (Below.refl wt21.heap.size wt21) (by omega) (by omega)) ((T1_18).out.up (Below.refl wt21.heap.size wt21) (by omega) (by omega)) (Nat.le_refl _) HS0.out HS1.out
  rw [HE.out, HR.out] at hs
  refine hs.mono ?_
  clear hs
  rintro e wj ⟨hh, rfl, hba, hla, owa⟩
  have sz_19 := (hba).size
  have R0_19 := Lib.hid ((R0_18).out.below hba (by omega))
  clear R0_18
  have R1_19 := Lib.hid ((R1_18).out.below hba (by omega))
  clear R1_18
  have BEL_19 := Lib.hid (below_on (BEL_18).out hba)
  clear BEL_18
  have W0_19 := Lib.hid ((W0_18).out.below hba (by omega))
  clear W0_18
  have M0_19 := Lib.hid ((M0_18).out.below hba (by omega))
  clear M0_18
  have T0_19 := Lib.hid ((T0_18).out.below hba (by omega))
  clear T0_18
  have T1_19 := Lib.hid ((T1_18).out.below hba (by omega))
  clear T1_18
  have H0_19 := Lib.hid (owa)
  clear hba hla owa
  clear T0_19
  clear T1_19
  go_wp2_with fail
  refine (eqIl_any hh hw E E wj wj.heap.size ((H0_19).out.rd.up (Below.refl wj.heap.size wj) (by omega) (by omega)) ((W0_19).out.rd.up (Below.refl wj.heap.size wj) (by omega) (by omega)) (Nat.le_refl _) (IlS_L HSE.out) (IlS_L HSE.out) true (Lib.hid (by simp))).mono ?_
  rintro e wq2 ⟨rfl, hbq⟩
  have sz_20 := (hbq).size
  have R0_20 := Lib.hid ((R0_19).out.below hbq (by omega))
  clear R0_19
  have R1_20 := Lib.hid ((R1_19).out.below hbq (by omega))
  clear R1_19
  have BEL_20 := Lib.hid (below_on (BEL_19).out hbq)
  clear BEL_19
  have W0_20 := Lib.hid ((W0_19).out.below hbq (by omega))
  clear W0_19
  have M0_20 := Lib.hid ((M0_19).out.below hbq (by omega))
  clear M0_19
  have H0_20 := Lib.hid ((H0_19).out.below hbq (by omega))
  clear H0_19
  clear hbq
  go_wp2_with fail
  refine (heldIl_any hg E 1 wq2 _ (M0_20).out.rd (by omega) HSE.out (by omega) (by omega)).mono ?_
  rintro e wh1 ⟨rfl, hbh⟩
  have sz_21 := (hbh).size
  have R0_21 := Lib.hid ((R0_20).out.below hbh (by omega))
  clear R0_20
  have R1_21 := Lib.hid ((R1_20).out.below hbh (by omega))
  clear R1_20
  have BEL_21 := Lib.hid (below_on (BEL_20).out hbh)
  clear BEL_20
  have W0_21 := Lib.hid ((W0_20).out.below hbh (by omega))
  clear W0_20
  have M0_21 := Lib.hid ((M0_20).out.below hbh (by omega))
  clear M0_20
  have H0_21 := Lib.hid ((H0_20).out.below hbh (by omega))
  clear H0_20
  clear hbh
  have hfin := (BEL_21).out
  go_wp2
  go_ret
  exact ⟨rfl, hfin⟩
end Go.Proofs.Ytidibnmlceccnaa
