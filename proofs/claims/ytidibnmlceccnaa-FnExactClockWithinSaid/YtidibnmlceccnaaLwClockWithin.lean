/-
  The walk of the law on ClockWithin: it comes to true, whatever the arguments and the memory, and leaves all memory that was there as it was.
-/
import Derived.Test.YtidibnmlceccnaaClk5
import Derived.Deep.RegionHeld3
namespace Go.Proofs.Ytidibnmlceccnaa
open Go.RowKit Pl Go.BigFrame
set_option maxHeartbeats 8000000
set_option maxRecDepth 100000
set_option linter.unusedVariables false

theorem lwClockWithin (h0 : IsH) (o0 : Is) (h1 : IsH) (o1 : Is) (w : World) (hR0 : IsR w w.heap.size h0 o0) (hL0 : IsL o0 maxLen) (hR1 : IsR w w.heap.size h1 o1) (hL1 : IsL o1 maxLen) :
    Calls Try.prog 10 #[IsV h0 o0, IsV h1 o1] w fun e w' => e = .returned (.bool true) ∧ Below w.heap.size w w' := by
  have R0_0 := Lib.hid (hR0)
  have R1_0 := Lib.hid (hR1)
  have BEL_0 := Lib.hid (Below.refl w.heap.size w)
  clear hR0 hR1
  by_cases n0 : (1048576 : Int) < (o0.length : Int)
  · go_enter Try.func10, Try.ntmps10
    go_wp2
    go_ret
    exact ⟨rfl, (BEL_0).out⟩
  have HS0 := Lib.hid (show IsS o0 from ⟨by omega⟩)
  by_cases n1 : (1048576 : Int) < (o1.length : Int)
  · go_enter Try.func10, Try.ntmps10
    go_wp2
    go_ret
    exact ⟨rfl, (BEL_0).out⟩
  have HS1 := Lib.hid (show IsS o1 from ⟨by omega⟩)
  obtain ⟨r, hr⟩ : ∃ r, withL o0 o1 = r := ⟨_, rfl⟩
  have HR := Lib.hid hr
  clear hr
  go_enter Try.func10, Try.ntmps10
  go_wp2_with fail
  refine (toIs_any h0 o0 w w.heap.size (R0_0).out (by omega) HS0.out).mono ?_
  rintro e wt0 ⟨t0, rfl, hbt, hlt, owt⟩
  have sz_1 := (hbt).size
  have R0_1 := Lib.hid ((R0_0).out.below hbt (by omega))
  clear R0_0
  have R1_1 := Lib.hid ((R1_0).out.below hbt (by omega))
  clear R1_0
  have BEL_1 := Lib.hid (below_on (BEL_0).out hbt)
  clear BEL_0
  have T0_1 := Lib.hid (owt.rd)
  clear hbt hlt owt
  go_wp2_with fail
  refine (toIs_any h1 o1 wt0 w.heap.size (R1_1).out (by omega) HS1.out).mono ?_
  rintro e wt1 ⟨t1, rfl, hbt, hlt, owt⟩
  have sz_2 := (hbt).size
  have R0_2 := Lib.hid ((R0_1).out.below hbt (by omega))
  clear R0_1
  have R1_2 := Lib.hid ((R1_1).out.below hbt (by omega))
  clear R1_1
  have BEL_2 := Lib.hid (below_on (BEL_1).out hbt)
  clear BEL_1
  have T0_2 := Lib.hid ((T0_1).out.below hbt (by omega))
  clear T0_1
  have T1_2 := Lib.hid (owt.rd)
  clear hbt hlt owt
  go_wp2_with fail
  refine (swithin_any t0 o0 t1 o1 wt1 wt1.heap.size ((T0_2).out.up (Below.refl wt1.heap.size wt1) (by omega) (by omega)) ((T1_2).out.up (Below.refl wt1.heap.size wt1) (by omega) (by omega)) (Nat.le_refl _) HS0.out HS1.out r HR).mono ?_
  rintro e wu ⟨rfl, hbu⟩
  clear T0_2
  clear T1_2
  have sz_3 := (hbu).size
  have R0_3 := Lib.hid ((R0_2).out.below hbu (by omega))
  clear R0_2
  have R1_3 := Lib.hid ((R1_2).out.below hbu (by omega))
  clear R1_2
  have BEL_3 := Lib.hid (below_on (BEL_2).out hbu)
  clear BEL_2
  clear hbu
  go_wp2_with fail
  refine (toIs_any h0 o0 wu w.heap.size (R0_3).out (by omega) HS0.out).mono ?_
  rintro e wx0 ⟨x0, rfl, hbx, hlx, own⟩
  have sz_4 := (hbx).size
  have R0_4 := Lib.hid ((R0_3).out.below hbx (by omega))
  clear R0_3
  have R1_4 := Lib.hid ((R1_3).out.below hbx (by omega))
  clear R1_3
  have BEL_4 := Lib.hid (below_on (BEL_3).out hbx)
  clear BEL_3
  clear hbx hlx
  have Xo0_4 := Lib.hid (own)
  have Xr0_4 := Lib.hid (own.rd)
  clear own
  go_wp2_with fail
  refine (toIs_any h1 o1 wx0 w.heap.size (R1_4).out (by omega) HS1.out).mono ?_
  rintro e wx1 ⟨x1, rfl, hbx, hlx, own⟩
  have sz_5 := (hbx).size
  have R0_5 := Lib.hid ((R0_4).out.below hbx (by omega))
  clear R0_4
  have R1_5 := Lib.hid ((R1_4).out.below hbx (by omega))
  clear R1_4
  have BEL_5 := Lib.hid (below_on (BEL_4).out hbx)
  clear BEL_4
  have Xo0_5 := Lib.hid ((Xo0_4).out.below hbx (by omega))
  clear Xo0_4
  have Xr0_5 := Lib.hid ((Xr0_4).out.below hbx (by omega))
  clear Xr0_4
  clear hbx hlx
  have Xo1_5 := Lib.hid (own)
  have Xr1_5 := Lib.hid (own.rd)
  clear own
  go_wp2_with fail
  refine (iwithin_any x0 o0 x1 o1 wx1 wx1.heap.size ((Xr0_5).out.up (Below.refl wx1.heap.size wx1) (by omega) (by omega)) ((Xr1_5).out.up (Below.refl wx1.heap.size wx1) (by omega) (by omega)) (Nat.le_refl _) HS0.out HS1.out r HR).mono ?_
  rintro e wi ⟨rfl, hbi⟩
  have sz_6 := (hbi).size
  have R0_6 := Lib.hid ((R0_5).out.below hbi (by omega))
  clear R0_5
  have R1_6 := Lib.hid ((R1_5).out.below hbi (by omega))
  clear R1_5
  have BEL_6 := Lib.hid (below_on (BEL_5).out hbi)
  clear BEL_5
  have Xo0_6 := Lib.hid ((Xo0_5).out.below hbi (by omega))
  clear Xo0_5
  have Xr0_6 := Lib.hid ((Xr0_5).out.below hbi (by omega))
  clear Xr0_5
  have Xo1_6 := Lib.hid ((Xo1_5).out.below hbi (by omega))
  clear Xo1_5
  have Xr1_6 := Lib.hid ((Xr1_5).out.below hbi (by omega))
  clear Xr1_5
  clear hbi
  go_wp2_with fail
  refine (toIs_any h0 o0 wi w.heap.size (R0_6).out (by omega) HS0.out).mono ?_
  rintro e ve0 ⟨y0, rfl, hbe, hle, owe⟩
  have sz_7 := (hbe).size
  have R0_7 := Lib.hid ((R0_6).out.below hbe (by omega))
  clear R0_6
  have R1_7 := Lib.hid ((R1_6).out.below hbe (by omega))
  clear R1_6
  have BEL_7 := Lib.hid (below_on (BEL_6).out hbe)
  clear BEL_6
  have Xo0_7 := Lib.hid ((Xo0_6).out.below hbe (by omega))
  clear Xo0_6
  have Xr0_7 := Lib.hid ((Xr0_6).out.below hbe (by omega))
  clear Xr0_6
  have Xo1_7 := Lib.hid ((Xo1_6).out.below hbe (by omega))
  clear Xo1_6
  have Xr1_7 := Lib.hid ((Xr1_6).out.below hbe (by omega))
  clear Xr1_6
  have Y_7 := Lib.hid (owe.rd)
  clear hbe hle owe
  go_wp2_with fail
  refine (eqIs_any x0 y0 o0 o0 ve0 ve0.heap.size ((Xr0_7).out.up (Below.refl _ _) (by omega) (by omega)) (Y_7).out (Nat.le_refl _) (IsS_L HS0.out) (IsS_L HS0.out) true (Lib.hid (by simp))).mono ?_
  rintro e vf0 ⟨rfl, hbf⟩
  clear Y_7
  have sz_8 := (hbf).size
  have R0_8 := Lib.hid ((R0_7).out.below hbf (by omega))
  clear R0_7
  have R1_8 := Lib.hid ((R1_7).out.below hbf (by omega))
  clear R1_7
  have BEL_8 := Lib.hid (below_on (BEL_7).out hbf)
  clear BEL_7
  have Xo0_8 := Lib.hid ((Xo0_7).out.below hbf (by omega))
  clear Xo0_7
  have Xr0_8 := Lib.hid ((Xr0_7).out.below hbf (by omega))
  clear Xr0_7
  have Xo1_8 := Lib.hid ((Xo1_7).out.below hbf (by omega))
  clear Xo1_7
  have Xr1_8 := Lib.hid ((Xr1_7).out.below hbf (by omega))
  clear Xr1_7
  clear hbf
  go_wp2_with fail
  refine (toIs_any h1 o1 vf0 w.heap.size (R1_8).out (by omega) HS1.out).mono ?_
  rintro e ve1 ⟨y1, rfl, hbe, hle, owe⟩
  have sz_9 := (hbe).size
  have R0_9 := Lib.hid ((R0_8).out.below hbe (by omega))
  clear R0_8
  have R1_9 := Lib.hid ((R1_8).out.below hbe (by omega))
  clear R1_8
  have BEL_9 := Lib.hid (below_on (BEL_8).out hbe)
  clear BEL_8
  have Xo0_9 := Lib.hid ((Xo0_8).out.below hbe (by omega))
  clear Xo0_8
  have Xr0_9 := Lib.hid ((Xr0_8).out.below hbe (by omega))
  clear Xr0_8
  have Xo1_9 := Lib.hid ((Xo1_8).out.below hbe (by omega))
  clear Xo1_8
  have Xr1_9 := Lib.hid ((Xr1_8).out.below hbe (by omega))
  clear Xr1_8
  have Y_9 := Lib.hid (owe.rd)
  clear hbe hle owe
  go_wp2_with fail
  refine (eqIs_any x1 y1 o1 o1 ve1 ve1.heap.size ((Xr1_9).out.up (Below.refl _ _) (by omega) (by omega)) (Y_9).out (Nat.le_refl _) (IsS_L HS1.out) (IsS_L HS1.out) true (Lib.hid (by simp))).mono ?_
  rintro e vf1 ⟨rfl, hbf⟩
  clear Y_9
  have sz_10 := (hbf).size
  have R0_10 := Lib.hid ((R0_9).out.below hbf (by omega))
  clear R0_9
  have R1_10 := Lib.hid ((R1_9).out.below hbf (by omega))
  clear R1_9
  have BEL_10 := Lib.hid (below_on (BEL_9).out hbf)
  clear BEL_9
  have Xo0_10 := Lib.hid ((Xo0_9).out.below hbf (by omega))
  clear Xo0_9
  have Xr0_10 := Lib.hid ((Xr0_9).out.below hbf (by omega))
  clear Xr0_9
  have Xo1_10 := Lib.hid ((Xo1_9).out.below hbf (by omega))
  clear Xo1_9
  have Xr1_10 := Lib.hid ((Xr1_9).out.below hbf (by omega))
  clear Xr1_9
  clear hbf
  have hfin := (BEL_10).out
  go_wp2
  go_ret
  exact ⟨rfl, hfin⟩
end Go.Proofs.Ytidibnmlceccnaa
