/-
  The walk of the law on ViewBegin: it comes to true, whatever the arguments and the memory, and leaves all memory that was there as it was.
-/
import Derived.Test.YtiljakbjbiinkaaNBeg2
import Derived.Test.YtiljakbjbiinkaaSNBg4
import Derived.Test.YtiljakbjbiinkaaVwdM
import Derived.Deep.RegionHeld3
import Derived.Deep.DeepCutAuto
namespace Go.Proofs.Ytiljakbjbiinkaa
open Go.RowKit Pl Go.BigFrame
set_option maxHeartbeats 16000000
set_option maxRecDepth 100000
set_option linter.unusedVariables false

theorem tot_rep3 (n : Nat) : tot (List.replicate n [(0 : Int), 0, 0]) = 3 * n := by
  induction n with
  | zero => rfl
  | succ n ih => rw [List.replicate_succ, tot_cons, ih]; simp; omega
theorem viewBegE_small {L : Pg} (h : PgS L) : VwdS (viewBegE L) := by
  unfold viewBegE
  split
  · rename_i hp
    have h3 := (prog_len hp).2
    have t1 := tot_rep3 L.length
    have t2 := tot_rep3 2
    exact ⟨⟨by simp [viewBegS, begS]; omega, by simp [viewBegS, begS]; omega, by simp [viewBegS, begS], by simp [viewBegS, begS], by simp [viewBegS, begS]⟩, ⟨by show tNN (List.replicate 3 [(⟨0, [0, 0, 0], false⟩ : Nt)]) ≤ 1048576; decide⟩, ⟨by simp [viewBegS]; omega, by show tot (List.replicate L.length [(0 : Int), 0, 0]) ≤ _; omega⟩, ⟨by simp [viewBegS], by show tot (List.replicate 2 [(0 : Int), 0, 0]) ≤ _; omega⟩, ⟨by simp [viewBegS], by show tot (List.replicate 2 [(0 : Int), 0, 0]) ≤ _; omega⟩, by simp [viewBegS]⟩
  · exact ⟨⟨by simp [VwdE, StaE], by simp [VwdE, StaE], by simp [VwdE, StaE], by simp [VwdE, StaE], by simp [VwdE, StaE]⟩, ⟨by decide⟩, ⟨by simp [VwdE], by simp [VwdE, tot]⟩, ⟨by simp [VwdE], by simp [VwdE, tot]⟩, ⟨by simp [VwdE], by simp [VwdE, tot]⟩, by simp [VwdE]⟩
theorem lwViewBegin (h0 : PgH) (o0 : Pg) (w : World) (hR0 : PgR w w.heap.size h0 o0) (hL0 : PgL o0 maxLen) :
    Calls Try.prog 6 #[PgV h0 o0] w fun e w' => e = .returned (.bool true) ∧ Below w.heap.size w w' := by
  obtain ⟨W, hW⟩ : ∃ W, W = (w.alloc (.cells #[.slice h0.A o0.length h0.c] 24)) := ⟨_, rfl⟩
  have hbW : Below w.heap.size w W := by rw [hW]; go_grown
  have hsW : W.heap.size = w.heap.size + 1 := by rw [hW]; simp
  have k0 : Bk W (w.heap.size) 24 #[.slice h0.A o0.length h0.c] := by
    rw [hW]; have := Bk.new w #[.slice h0.A o0.length h0.c] 24
    exact this
  have HW := Lib.hid hW
  have F0_0 := Lib.hid (k0)
  have R0_0 := Lib.hid (hR0.below hbW (Nat.le_refl _))
  have BEL_0 := Lib.hid (hbW)
  have hsWa := Nat.le_of_eq hsW
  have hsWb := Nat.le_of_eq hsW.symm
  clear hW hsW hbW k0 hR0
  obtain ⟨z0, hz0⟩ : ∃ z, szPg 1048576 o0 = z := ⟨_, rfl⟩
  have Z0 := Lib.hid hz0
  clear hz0
  have u0 : -1 ≤ z0 ∧ z0 ≤ 1048576 := by rw [← Z0.out]; exact szPg_ge _ _ (by omega)
  by_cases n0 : z0 < 0
  · skip
    go_enter Try.func6, Try.ntmps6
    go_wp2_with fail
    rw [← HW.out]
    refine (szPg_any h0 o0 1048576 W w.heap.size (R0_0).out (by omega) hL0 (by omega) (by omega) z0 Z0).mono ?_
    rintro e ws0 ⟨rfl, hbs0⟩
    have sz_1 := (hbs0).size
    have F0_1 := Lib.hid ((F0_0).out.below hbs0 (F0_0).out.lt)
    clear F0_0
    have R0_1 := Lib.hid ((R0_0).out.below hbs0 (by omega))
    clear R0_0
    have BEL_1 := Lib.hid (below_on (BEL_0).out hbs0)
    clear BEL_0
    clear hbs0
    go_wp2
    go_ret
    exact ⟨rfl, (BEL_1).out⟩
  have S0 : PgS o0 := szPg_small (by rw [Z0.out]; omega) (by omega) (by omega)
  have HS0 := Lib.hid S0
  clear S0
  obtain ⟨E, hE⟩ : ∃ E, viewBegE o0 = E := ⟨_, rfl⟩
  obtain ⟨r, hr⟩ : ∃ r, progB o0 = r := ⟨_, rfl⟩
  have HE := Lib.hid hE
  have HR := Lib.hid hr
  have hSE : VwdS E := by rw [← hE]; exact viewBegE_small HS0.out
  have HSE := Lib.hid hSE
  clear hE hSE
  clear hr
  go_enter Try.func6, Try.ntmps6
  go_wp2_with fail
  rw [← HW.out]
  refine (szPg_any h0 o0 1048576 W w.heap.size (R0_0).out (by omega) hL0 (by omega) (by omega) z0 Z0).mono ?_
  rintro e ws0 ⟨rfl, hbs0⟩
  have sz_1 := (hbs0).size
  have F0_1 := Lib.hid ((F0_0).out.below hbs0 (F0_0).out.lt)
  clear F0_0
  have R0_1 := Lib.hid ((R0_0).out.below hbs0 (by omega))
  clear R0_0
  have BEL_1 := Lib.hid (below_on (BEL_0).out hbs0)
  clear BEL_0
  clear hbs0
  have c_F0_0 : ws0.cell? ⟨w.heap.size, 0, none⟩ = some (.slice h0.A o0.length h0.c) := (F0_1).out.cell 0
  have l_F0 : w.heap.size < ws0.heap.size := (F0_1).out.lt
  go_wp2_with fail
  clear c_F0_0 l_F0
  refine (toPg_any h0 o0 ws0 w.heap.size (R0_1).out (by omega) HS0.out).mono ?_
  rintro e wt0 ⟨t0, rfl, hbt, hlt, owt⟩
  have sz_2 := (hbt).size
  have F0_2 := Lib.hid ((F0_1).out.below hbt (F0_1).out.lt)
  clear F0_1
  have R0_2 := Lib.hid ((R0_1).out.below hbt (by omega))
  clear R0_1
  have BEL_2 := Lib.hid (below_on (BEL_1).out hbt)
  clear BEL_1
  have T0_2 := Lib.hid (owt.rd)
  clear hbt hlt owt
  go_wp2_with fail
  have hs := svbeg_any t0 o0 wt0 wt0.heap.size ((T0_2).out.up (Below.refl wt0.heap.size wt0) (by omega) (by omega)) (Nat.le_refl _) HS0.out
  rw [HE.out, HR.out] at hs
  refine hs.mono ?_
  clear hs
  rintro e wu ⟨hw, rfl, hba, hla, owa⟩
  have sz_3 := (hba).size
  have F0_3 := Lib.hid ((F0_2).out.below hba (F0_2).out.lt)
  clear F0_2
  have R0_3 := Lib.hid ((R0_2).out.below hba (by omega))
  clear R0_2
  have BEL_3 := Lib.hid (below_on (BEL_2).out hba)
  clear BEL_2
  have T0_3 := Lib.hid ((T0_2).out.below hba (by omega))
  clear T0_2
  have W0_3 := Lib.hid (owa)
  clear hba hla owa
  clear T0_3
  have c_F0_0 : wu.cell? ⟨w.heap.size, 0, none⟩ = some (.slice h0.A o0.length h0.c) := (F0_3).out.cell 0
  have l_F0 : w.heap.size < wu.heap.size := (F0_3).out.lt
  go_wp2_with fail
  clear c_F0_0 l_F0
  obtain ⟨VW, hVW⟩ : ∃ V, V = wu.alloc (.cells #[.slice hw.h.A0 E.st.f0.length hw.h.c0, .slice hw.h.A1 E.st.f1.length hw.h.c1, .slice hw.h.A2 E.st.f2.length hw.h.c2, .slice hw.h.A3 E.st.f3.length hw.h.c3, .slice hw.h.A4 E.st.f4.length hw.h.c4, .slice hw.n.A E.n.length hw.n.c, .slice hw.v.A E.v.length hw.v.c, .slice hw.l.A E.l.length hw.l.c, .slice hw.k.A E.k.length hw.k.c, .slice hw.f.A E.f.length hw.f.c] 45) := ⟨_, rfl⟩
  rw [← hVW]
  have bVW : Below wu.heap.size wu VW := by rw [hVW]; go_grown
  have zVW : VW.heap.size = wu.heap.size + 1 := by rw [hVW]; simp
  have kVW : Bk VW wu.heap.size 45 #[.slice hw.h.A0 E.st.f0.length hw.h.c0, .slice hw.h.A1 E.st.f1.length hw.h.c1, .slice hw.h.A2 E.st.f2.length hw.h.c2, .slice hw.h.A3 E.st.f3.length hw.h.c3, .slice hw.h.A4 E.st.f4.length hw.h.c4, .slice hw.n.A E.n.length hw.n.c, .slice hw.v.A E.v.length hw.v.c, .slice hw.l.A E.l.length hw.l.c, .slice hw.k.A E.k.length hw.k.c, .slice hw.f.A E.f.length hw.f.c] := by rw [hVW]; exact Bk.new _ _ _
  have zVWa := Nat.le_of_eq zVW
  have zVWb := Nat.le_of_eq zVW.symm
  clear zVW
  have sz_4 := (bVW).size
  have F0_4 := Lib.hid ((F0_3).out.below bVW (F0_3).out.lt)
  clear F0_3
  have R0_4 := Lib.hid ((R0_3).out.below bVW (by omega))
  clear R0_3
  have BEL_4 := Lib.hid (below_on (BEL_3).out bVW)
  clear BEL_3
  have W0_4 := Lib.hid ((W0_3).out.below bVW (by omega))
  clear W0_3
  have GW_4 := Lib.hid (kVW)
  clear hVW bVW kVW
  refine (toPg_any h0 o0 VW w.heap.size (R0_4).out (by omega) HS0.out).mono ?_
  rintro e wx0 ⟨x0, rfl, hbt, hlt, owt⟩
  have sz_5 := (hbt).size
  have F0_5 := Lib.hid ((F0_4).out.below hbt (F0_4).out.lt)
  clear F0_4
  have R0_5 := Lib.hid ((R0_4).out.below hbt (by omega))
  clear R0_4
  have BEL_5 := Lib.hid (below_on (BEL_4).out hbt)
  clear BEL_4
  have W0_5 := Lib.hid ((W0_4).out.below hbt (by omega))
  clear W0_4
  have GW_5 := Lib.hid ((GW_4).out.below hbt (GW_4).out.lt)
  clear GW_4
  clear hbt hlt
  have Xo0_5 := Lib.hid (owt)
  have Xr0_5 := Lib.hid (owt.rd)
  clear owt
  go_wp2_with fail
  obtain ⟨Vx0, hVx0⟩ : ∃ V, V = wx0.alloc (.cells #[.slice x0.A o0.length x0.c] 30) := ⟨_, rfl⟩
  rw [← hVx0]
  have bVx0 : Below wx0.heap.size wx0 Vx0 := by rw [hVx0]; go_grown
  have zVx0 : Vx0.heap.size = wx0.heap.size + 1 := by rw [hVx0]; simp
  have kVx0 : Bk Vx0 wx0.heap.size 30 #[.slice x0.A o0.length x0.c] := by rw [hVx0]; exact Bk.new _ _ _
  have zVx0a := Nat.le_of_eq zVx0
  have zVx0b := Nat.le_of_eq zVx0.symm
  clear zVx0
  have sz_6 := (bVx0).size
  have F0_6 := Lib.hid ((F0_5).out.below bVx0 (F0_5).out.lt)
  clear F0_5
  have R0_6 := Lib.hid ((R0_5).out.below bVx0 (by omega))
  clear R0_5
  have BEL_6 := Lib.hid (below_on (BEL_5).out bVx0)
  clear BEL_5
  have W0_6 := Lib.hid ((W0_5).out.below bVx0 (by omega))
  clear W0_5
  have GW_6 := Lib.hid ((GW_5).out.below bVx0 (GW_5).out.lt)
  clear GW_5
  have Xo0_6 := Lib.hid ((Xo0_5).out.below bVx0 (by omega))
  clear Xo0_5
  have Xr0_6 := Lib.hid ((Xr0_5).out.below bVx0 (by omega))
  clear Xr0_5
  have X0_6 := Lib.hid (kVx0)
  clear hVx0 bVx0 kVx0
  have hs := ivbeg_any x0 o0 Vx0 Vx0.heap.size ((Xr0_6).out.up (Below.refl Vx0.heap.size Vx0) (by omega) (by omega)) (Nat.le_refl _) HS0.out
  rw [HE.out, HR.out] at hs
  refine hs.mono ?_
  clear hs
  rintro e wi ⟨hg, rfl, hba, hla, owa⟩
  have sz_7 := (hba).size
  have F0_7 := Lib.hid ((F0_6).out.below hba (F0_6).out.lt)
  clear F0_6
  have R0_7 := Lib.hid ((R0_6).out.below hba (by omega))
  clear R0_6
  have BEL_7 := Lib.hid (below_on (BEL_6).out hba)
  clear BEL_6
  have W0_7 := Lib.hid ((W0_6).out.below hba (by omega))
  clear W0_6
  have GW_7 := Lib.hid ((GW_6).out.below hba (GW_6).out.lt)
  clear GW_6
  have Xo0_7 := Lib.hid ((Xo0_6).out.below hba (by omega))
  clear Xo0_6
  have Xr0_7 := Lib.hid ((Xr0_6).out.below hba (by omega))
  clear Xr0_6
  have X0_7 := Lib.hid ((X0_6).out.below hba (X0_6).out.lt)
  clear X0_6
  have G0_7 := Lib.hid (owa)
  clear hba hla owa
  have c_GW_0 : wi.cell? ⟨wu.heap.size, 0, none⟩ = some (.slice hw.h.A0 E.st.f0.length hw.h.c0) := (GW_7).out.cell 0
  have c_GW_1 : wi.cell? ⟨wu.heap.size, 1, none⟩ = some (.slice hw.h.A1 E.st.f1.length hw.h.c1) := (GW_7).out.cell 1
  have c_GW_2 : wi.cell? ⟨wu.heap.size, 2, none⟩ = some (.slice hw.h.A2 E.st.f2.length hw.h.c2) := (GW_7).out.cell 2
  have c_GW_3 : wi.cell? ⟨wu.heap.size, 3, none⟩ = some (.slice hw.h.A3 E.st.f3.length hw.h.c3) := (GW_7).out.cell 3
  have c_GW_4 : wi.cell? ⟨wu.heap.size, 4, none⟩ = some (.slice hw.h.A4 E.st.f4.length hw.h.c4) := (GW_7).out.cell 4
  have c_GW_5 : wi.cell? ⟨wu.heap.size, 5, none⟩ = some (.slice hw.n.A E.n.length hw.n.c) := (GW_7).out.cell 5
  have c_GW_6 : wi.cell? ⟨wu.heap.size, 6, none⟩ = some (.slice hw.v.A E.v.length hw.v.c) := (GW_7).out.cell 6
  have c_GW_7 : wi.cell? ⟨wu.heap.size, 7, none⟩ = some (.slice hw.l.A E.l.length hw.l.c) := (GW_7).out.cell 7
  have c_GW_8 : wi.cell? ⟨wu.heap.size, 8, none⟩ = some (.slice hw.k.A E.k.length hw.k.c) := (GW_7).out.cell 8
  have c_GW_9 : wi.cell? ⟨wu.heap.size, 9, none⟩ = some (.slice hw.f.A E.f.length hw.f.c) := (GW_7).out.cell 9
  have l_GW : wu.heap.size < wi.heap.size := (GW_7).out.lt
  go_wp2_with fail
  clear c_GW_0 c_GW_1 c_GW_2 c_GW_3 c_GW_4 c_GW_5 c_GW_6 c_GW_7 c_GW_8 c_GW_9 l_GW
  obtain ⟨VG, hVG⟩ : ∃ V, V = wi.alloc (.cells #[.slice hg.h.A0 E.st.f0.length hg.h.c0, .slice hg.h.A1 E.st.f1.length hg.h.c1, .slice hg.h.A2 E.st.f2.length hg.h.c2, .slice hg.h.A3 E.st.f3.length hg.h.c3, .slice hg.h.A4 E.st.f4.length hg.h.c4, .slice hg.n.A E.n.length hg.n.c, .slice hg.v.A E.v.length hg.v.c, .slice hg.l.A E.l.length hg.l.c, .slice hg.k.A E.k.length hg.k.c, .slice hg.f.A E.f.length hg.f.c] 45) := ⟨_, rfl⟩
  rw [← hVG]
  have bVG : Below wi.heap.size wi VG := by rw [hVG]; go_grown
  have zVG : VG.heap.size = wi.heap.size + 1 := by rw [hVG]; simp
  have kVG : Bk VG wi.heap.size 45 #[.slice hg.h.A0 E.st.f0.length hg.h.c0, .slice hg.h.A1 E.st.f1.length hg.h.c1, .slice hg.h.A2 E.st.f2.length hg.h.c2, .slice hg.h.A3 E.st.f3.length hg.h.c3, .slice hg.h.A4 E.st.f4.length hg.h.c4, .slice hg.n.A E.n.length hg.n.c, .slice hg.v.A E.v.length hg.v.c, .slice hg.l.A E.l.length hg.l.c, .slice hg.k.A E.k.length hg.k.c, .slice hg.f.A E.f.length hg.f.c] := by rw [hVG]; exact Bk.new _ _ _
  have zVGa := Nat.le_of_eq zVG
  have zVGb := Nat.le_of_eq zVG.symm
  clear zVG
  have sz_8 := (bVG).size
  have F0_8 := Lib.hid ((F0_7).out.below bVG (F0_7).out.lt)
  clear F0_7
  have R0_8 := Lib.hid ((R0_7).out.below bVG (by omega))
  clear R0_7
  have BEL_8 := Lib.hid (below_on (BEL_7).out bVG)
  clear BEL_7
  have W0_8 := Lib.hid ((W0_7).out.below bVG (by omega))
  clear W0_7
  have GW_8 := Lib.hid ((GW_7).out.below bVG (GW_7).out.lt)
  clear GW_7
  have Xo0_8 := Lib.hid ((Xo0_7).out.below bVG (by omega))
  clear Xo0_7
  have Xr0_8 := Lib.hid ((Xr0_7).out.below bVG (by omega))
  clear Xr0_7
  have X0_8 := Lib.hid ((X0_7).out.below bVG (X0_7).out.lt)
  clear X0_7
  have G0_8 := Lib.hid ((G0_7).out.below bVG (by omega))
  clear G0_7
  have GG_8 := Lib.hid (kVG)
  clear hVG bVG kVG
  refine (eqVwd_any hg hw E E VG VG.heap.size ((G0_8).out.rd.up (Below.refl VG.heap.size VG) (by omega) (by omega)) ((W0_8).out.rd.up (Below.refl VG.heap.size VG) (by omega) (by omega)) (Nat.le_refl _) (VwdS_L HSE.out) (VwdS_L HSE.out) true (Lib.hid (by simp))).mono ?_
  rintro e wq0 ⟨rfl, hbq⟩
  have sz_9 := (hbq).size
  have F0_9 := Lib.hid ((F0_8).out.below hbq (F0_8).out.lt)
  clear F0_8
  have R0_9 := Lib.hid ((R0_8).out.below hbq (by omega))
  clear R0_8
  have BEL_9 := Lib.hid (below_on (BEL_8).out hbq)
  clear BEL_8
  have W0_9 := Lib.hid ((W0_8).out.below hbq (by omega))
  clear W0_8
  have GW_9 := Lib.hid ((GW_8).out.below hbq (GW_8).out.lt)
  clear GW_8
  have Xo0_9 := Lib.hid ((Xo0_8).out.below hbq (by omega))
  clear Xo0_8
  have Xr0_9 := Lib.hid ((Xr0_8).out.below hbq (by omega))
  clear Xr0_8
  have X0_9 := Lib.hid ((X0_8).out.below hbq (X0_8).out.lt)
  clear X0_8
  have G0_9 := Lib.hid ((G0_8).out.below hbq (by omega))
  clear G0_8
  have GG_9 := Lib.hid ((GG_8).out.below hbq (GG_8).out.lt)
  clear GG_8
  clear hbq
  have allS : ∀ w', Below wq0.heap.size wq0 w' → (Below wq0.heap.size wq0 w' ∧ w'.cell? ⟨wx0.heap.size, 0, none⟩ = some (.slice x0.A o0.length x0.c) ∧ w'.cell? ⟨w.heap.size, 0, none⟩ = some (.slice h0.A o0.length h0.c)) := fun w' hb => ⟨hb, ((X0_9).out.below hb (X0_9).out.lt).cell 0, ((F0_9).out.below hb (F0_9).out.lt).cell 0⟩
  have AllS := Lib.hid allS
  clear allS
  go_wp2_with fail
  go_region_held3 (fun w' => Below wq0.heap.size wq0 w' ∧ w'.cell? ⟨wx0.heap.size, 0, none⟩ = some (.slice x0.A o0.length x0.c) ∧ w'.cell? ⟨w.heap.size, 0, none⟩ = some (.slice h0.A o0.length h0.c)) (first | (go_split_ands; exact AllS.out _ (by go_grown)) | (exact AllS.out _ (by go_grown))) (first | (go_at_call 12; go_split_ands; refine (toPg_any h0 o0 _ w.heap.size ((R0_9).out.below (show Below wq0.heap.size wq0 _ from by go_grown) (by omega)) (Nat.le_trans (by omega) (show Below wq0.heap.size wq0 _ from by go_grown).size) HS0.out).mono ?_; rintro e ve0 ⟨y0, rfl, hv, -, ov⟩; have Ov := Lib.hid ov.rd; have hBv : Below wq0.heap.size wq0 ve0 := below_on (by go_grown) hv; clear ov hv) | (go_at_call 15; go_split_ands; refine (eqPg_any x0 y0 o0 o0 _ ve0.heap.size ((Xr0_9).out.up (show Below wq0.heap.size wq0 _ from by go_grown) (by omega) (Nat.le_trans (by omega) hBv.size)) (Ov.out.below (show Below ve0.heap.size ve0 _ from by go_grown) (Nat.le_refl _)) (show Below ve0.heap.size ve0 _ from by go_grown).size (PgS_L HS0.out) (PgS_L HS0.out) true (Lib.hid (by simp))).mono ?_; rintro e vf0 ⟨rfl, hvf⟩; have hBvf : Below wq0.heap.size wq0 vf0 := below_on (by go_grown) hvf; clear hvf))
  clear AllS Ov hBv
  try clear hHeld
  have sz_10 := (hBvf).size
  have F0_10 := Lib.hid ((F0_9).out.below hBvf (F0_9).out.lt)
  clear F0_9
  have R0_10 := Lib.hid ((R0_9).out.below hBvf (by omega))
  clear R0_9
  have BEL_10 := Lib.hid (below_on (BEL_9).out hBvf)
  clear BEL_9
  have W0_10 := Lib.hid ((W0_9).out.below hBvf (by omega))
  clear W0_9
  have GW_10 := Lib.hid ((GW_9).out.below hBvf (GW_9).out.lt)
  clear GW_9
  have Xo0_10 := Lib.hid ((Xo0_9).out.below hBvf (by omega))
  clear Xo0_9
  have Xr0_10 := Lib.hid ((Xr0_9).out.below hBvf (by omega))
  clear Xr0_9
  have X0_10 := Lib.hid ((X0_9).out.below hBvf (X0_9).out.lt)
  clear X0_9
  have G0_10 := Lib.hid ((G0_9).out.below hBvf (by omega))
  clear G0_9
  have GG_10 := Lib.hid ((GG_9).out.below hBvf (GG_9).out.lt)
  clear GG_9
  clear hBvf
  have c_X0_0 : vf0.cell? ⟨wx0.heap.size, 0, none⟩ = some (.slice x0.A o0.length x0.c) := (X0_10).out.cell 0
  have l_X0 : wx0.heap.size < vf0.heap.size := (X0_10).out.lt
  go_wp2_with fail
  clear c_X0_0 l_X0
  have t0 := HS0.out.t
  refine (markPg_any x0 o0 (1) vf0 VW.heap.size wx0.heap.size (Xo0_10).out (by omega) HS0.out (by omega) (by omega)).mono ?_
  rintro e wm0 ⟨rfl, hom⟩
  have sz_11 := (hom).size
  have F0_11 := Lib.hid (only_bk (F0_10).out hom (by omega))
  clear F0_10
  have R0_11 := Lib.hid ((R0_10).out.below ((hom).to_below (B := w.heap.size) (by omega) (by omega)) (Nat.le_refl _))
  clear R0_10
  have BEL_11 := Lib.hid ((BEL_10).out.trans ((hom).to_below (by omega) (by omega)))
  clear BEL_10
  have W0_11 := Lib.hid ((W0_10).out.keep (Nat.le_refl _) (Nat.le_refl _) fun i h1 h2 => (hom).block i (by omega) (by omega))
  clear W0_10
  have GW_11 := Lib.hid (only_bk (GW_10).out hom (by omega))
  clear GW_10
  clear Xo0_10
  clear Xr0_10
  have X0_11 := Lib.hid (only_bk (X0_10).out hom (by omega))
  clear X0_10
  have G0_11 := Lib.hid ((G0_10).out.keep (Nat.le_refl _) (Nat.le_refl _) fun i h1 h2 => (hom).block i (by omega) (by omega))
  clear G0_10
  have GG_11 := Lib.hid (only_bk (GG_10).out hom (by omega))
  clear GG_10
  clear hom
  have c_GW_0 : wm0.cell? ⟨wu.heap.size, 0, none⟩ = some (.slice hw.h.A0 E.st.f0.length hw.h.c0) := (GW_11).out.cell 0
  have c_GW_1 : wm0.cell? ⟨wu.heap.size, 1, none⟩ = some (.slice hw.h.A1 E.st.f1.length hw.h.c1) := (GW_11).out.cell 1
  have c_GW_2 : wm0.cell? ⟨wu.heap.size, 2, none⟩ = some (.slice hw.h.A2 E.st.f2.length hw.h.c2) := (GW_11).out.cell 2
  have c_GW_3 : wm0.cell? ⟨wu.heap.size, 3, none⟩ = some (.slice hw.h.A3 E.st.f3.length hw.h.c3) := (GW_11).out.cell 3
  have c_GW_4 : wm0.cell? ⟨wu.heap.size, 4, none⟩ = some (.slice hw.h.A4 E.st.f4.length hw.h.c4) := (GW_11).out.cell 4
  have c_GW_5 : wm0.cell? ⟨wu.heap.size, 5, none⟩ = some (.slice hw.n.A E.n.length hw.n.c) := (GW_11).out.cell 5
  have c_GW_6 : wm0.cell? ⟨wu.heap.size, 6, none⟩ = some (.slice hw.v.A E.v.length hw.v.c) := (GW_11).out.cell 6
  have c_GW_7 : wm0.cell? ⟨wu.heap.size, 7, none⟩ = some (.slice hw.l.A E.l.length hw.l.c) := (GW_11).out.cell 7
  have c_GW_8 : wm0.cell? ⟨wu.heap.size, 8, none⟩ = some (.slice hw.k.A E.k.length hw.k.c) := (GW_11).out.cell 8
  have c_GW_9 : wm0.cell? ⟨wu.heap.size, 9, none⟩ = some (.slice hw.f.A E.f.length hw.f.c) := (GW_11).out.cell 9
  have l_GW : wu.heap.size < wm0.heap.size := (GW_11).out.lt
  have c_GG_0 : wm0.cell? ⟨wi.heap.size, 0, none⟩ = some (.slice hg.h.A0 E.st.f0.length hg.h.c0) := (GG_11).out.cell 0
  have c_GG_1 : wm0.cell? ⟨wi.heap.size, 1, none⟩ = some (.slice hg.h.A1 E.st.f1.length hg.h.c1) := (GG_11).out.cell 1
  have c_GG_2 : wm0.cell? ⟨wi.heap.size, 2, none⟩ = some (.slice hg.h.A2 E.st.f2.length hg.h.c2) := (GG_11).out.cell 2
  have c_GG_3 : wm0.cell? ⟨wi.heap.size, 3, none⟩ = some (.slice hg.h.A3 E.st.f3.length hg.h.c3) := (GG_11).out.cell 3
  have c_GG_4 : wm0.cell? ⟨wi.heap.size, 4, none⟩ = some (.slice hg.h.A4 E.st.f4.length hg.h.c4) := (GG_11).out.cell 4
  have c_GG_5 : wm0.cell? ⟨wi.heap.size, 5, none⟩ = some (.slice hg.n.A E.n.length hg.n.c) := (GG_11).out.cell 5
  have c_GG_6 : wm0.cell? ⟨wi.heap.size, 6, none⟩ = some (.slice hg.v.A E.v.length hg.v.c) := (GG_11).out.cell 6
  have c_GG_7 : wm0.cell? ⟨wi.heap.size, 7, none⟩ = some (.slice hg.l.A E.l.length hg.l.c) := (GG_11).out.cell 7
  have c_GG_8 : wm0.cell? ⟨wi.heap.size, 8, none⟩ = some (.slice hg.k.A E.k.length hg.k.c) := (GG_11).out.cell 8
  have c_GG_9 : wm0.cell? ⟨wi.heap.size, 9, none⟩ = some (.slice hg.f.A E.f.length hg.f.c) := (GG_11).out.cell 9
  have l_GG : wi.heap.size < wm0.heap.size := (GG_11).out.lt
  go_wp2_with fail
  clear c_GW_0 c_GW_1 c_GW_2 c_GW_3 c_GW_4 c_GW_5 c_GW_6 c_GW_7 c_GW_8 c_GW_9 l_GW c_GG_0 c_GG_1 c_GG_2 c_GG_3 c_GG_4 c_GG_5 c_GG_6 c_GG_7 c_GG_8 c_GG_9 l_GG
  refine (eqVwd_any hg hw E E wm0 wm0.heap.size ((G0_11).out.rd.up (Below.refl wm0.heap.size wm0) (by omega) (by omega)) ((W0_11).out.rd.up (Below.refl wm0.heap.size wm0) (by omega) (by omega)) (Nat.le_refl _) (VwdS_L HSE.out) (VwdS_L HSE.out) true (Lib.hid (by simp))).mono ?_
  rintro e wq1 ⟨rfl, hbq⟩
  have sz_12 := (hbq).size
  have F0_12 := Lib.hid ((F0_11).out.below hbq (F0_11).out.lt)
  clear F0_11
  have R0_12 := Lib.hid ((R0_11).out.below hbq (by omega))
  clear R0_11
  have BEL_12 := Lib.hid (below_on (BEL_11).out hbq)
  clear BEL_11
  have W0_12 := Lib.hid ((W0_11).out.below hbq (by omega))
  clear W0_11
  have GW_12 := Lib.hid ((GW_11).out.below hbq (GW_11).out.lt)
  clear GW_11
  have X0_12 := Lib.hid ((X0_11).out.below hbq (X0_11).out.lt)
  clear X0_11
  have G0_12 := Lib.hid ((G0_11).out.below hbq (by omega))
  clear G0_11
  have GG_12 := Lib.hid ((GG_11).out.below hbq (GG_11).out.lt)
  clear GG_11
  clear hbq
  have c_GG_0 : wq1.cell? ⟨wi.heap.size, 0, none⟩ = some (.slice hg.h.A0 E.st.f0.length hg.h.c0) := (GG_12).out.cell 0
  have c_GG_1 : wq1.cell? ⟨wi.heap.size, 1, none⟩ = some (.slice hg.h.A1 E.st.f1.length hg.h.c1) := (GG_12).out.cell 1
  have c_GG_2 : wq1.cell? ⟨wi.heap.size, 2, none⟩ = some (.slice hg.h.A2 E.st.f2.length hg.h.c2) := (GG_12).out.cell 2
  have c_GG_3 : wq1.cell? ⟨wi.heap.size, 3, none⟩ = some (.slice hg.h.A3 E.st.f3.length hg.h.c3) := (GG_12).out.cell 3
  have c_GG_4 : wq1.cell? ⟨wi.heap.size, 4, none⟩ = some (.slice hg.h.A4 E.st.f4.length hg.h.c4) := (GG_12).out.cell 4
  have c_GG_5 : wq1.cell? ⟨wi.heap.size, 5, none⟩ = some (.slice hg.n.A E.n.length hg.n.c) := (GG_12).out.cell 5
  have c_GG_6 : wq1.cell? ⟨wi.heap.size, 6, none⟩ = some (.slice hg.v.A E.v.length hg.v.c) := (GG_12).out.cell 6
  have c_GG_7 : wq1.cell? ⟨wi.heap.size, 7, none⟩ = some (.slice hg.l.A E.l.length hg.l.c) := (GG_12).out.cell 7
  have c_GG_8 : wq1.cell? ⟨wi.heap.size, 8, none⟩ = some (.slice hg.k.A E.k.length hg.k.c) := (GG_12).out.cell 8
  have c_GG_9 : wq1.cell? ⟨wi.heap.size, 9, none⟩ = some (.slice hg.f.A E.f.length hg.f.c) := (GG_12).out.cell 9
  have l_GG : wi.heap.size < wq1.heap.size := (GG_12).out.lt
  go_wp2_with fail
  clear c_GG_0 c_GG_1 c_GG_2 c_GG_3 c_GG_4 c_GG_5 c_GG_6 c_GG_7 c_GG_8 c_GG_9 l_GG
  refine (markVwd_any hg E 1 wq1 Vx0.heap.size wi.heap.size (G0_12).out (by omega) HSE.out (by omega) (by omega)).mono ?_
  rintro e wmg ⟨rfl, hom, owm⟩
  have sz_13 := (hom).size
  have F0_13 := Lib.hid (only_bk (F0_12).out hom (by omega))
  clear F0_12
  have R0_13 := Lib.hid ((R0_12).out.below ((hom).to_below (B := w.heap.size) (by omega) (by omega)) (Nat.le_refl _))
  clear R0_12
  have BEL_13 := Lib.hid ((BEL_12).out.trans ((hom).to_below (by omega) (by omega)))
  clear BEL_12
  have W0_13 := Lib.hid ((W0_12).out.keep (Nat.le_refl _) (Nat.le_refl _) fun i h1 h2 => (hom).block i (by omega) (by omega))
  clear W0_12
  have GW_13 := Lib.hid (only_bk (GW_12).out hom (by omega))
  clear GW_12
  have X0_13 := Lib.hid (only_bk (X0_12).out hom (by omega))
  clear X0_12
  clear G0_12
  have GG_13 := Lib.hid (only_bk (GG_12).out hom (by omega))
  clear GG_12
  have M0_13 := Lib.hid (owm)
  clear hom owm
  have aE := allVwd_nn HSE.out
  have c_GG_0 : wmg.cell? ⟨wi.heap.size, 0, none⟩ = some (.slice hg.h.A0 E.st.f0.length hg.h.c0) := (GG_13).out.cell 0
  have c_GG_1 : wmg.cell? ⟨wi.heap.size, 1, none⟩ = some (.slice hg.h.A1 E.st.f1.length hg.h.c1) := (GG_13).out.cell 1
  have c_GG_2 : wmg.cell? ⟨wi.heap.size, 2, none⟩ = some (.slice hg.h.A2 E.st.f2.length hg.h.c2) := (GG_13).out.cell 2
  have c_GG_3 : wmg.cell? ⟨wi.heap.size, 3, none⟩ = some (.slice hg.h.A3 E.st.f3.length hg.h.c3) := (GG_13).out.cell 3
  have c_GG_4 : wmg.cell? ⟨wi.heap.size, 4, none⟩ = some (.slice hg.h.A4 E.st.f4.length hg.h.c4) := (GG_13).out.cell 4
  have c_GG_5 : wmg.cell? ⟨wi.heap.size, 5, none⟩ = some (.slice hg.n.A E.n.length hg.n.c) := (GG_13).out.cell 5
  have c_GG_6 : wmg.cell? ⟨wi.heap.size, 6, none⟩ = some (.slice hg.v.A E.v.length hg.v.c) := (GG_13).out.cell 6
  have c_GG_7 : wmg.cell? ⟨wi.heap.size, 7, none⟩ = some (.slice hg.l.A E.l.length hg.l.c) := (GG_13).out.cell 7
  have c_GG_8 : wmg.cell? ⟨wi.heap.size, 8, none⟩ = some (.slice hg.k.A E.k.length hg.k.c) := (GG_13).out.cell 8
  have c_GG_9 : wmg.cell? ⟨wi.heap.size, 9, none⟩ = some (.slice hg.f.A E.f.length hg.f.c) := (GG_13).out.cell 9
  have l_GG : wi.heap.size < wmg.heap.size := (GG_13).out.lt
  go_wp2_with fail
  clear c_GG_0 c_GG_1 c_GG_2 c_GG_3 c_GG_4 c_GG_5 c_GG_6 c_GG_7 c_GG_8 c_GG_9 l_GG
  refine (heldVwd_any hg E 1 wmg _ (M0_13).out.rd (by omega) HSE.out (by omega) (by omega)).mono ?_
  rintro e wh0 ⟨rfl, hbh⟩
  have sz_14 := (hbh).size
  have F0_14 := Lib.hid ((F0_13).out.below hbh (F0_13).out.lt)
  clear F0_13
  have R0_14 := Lib.hid ((R0_13).out.below hbh (by omega))
  clear R0_13
  have BEL_14 := Lib.hid (below_on (BEL_13).out hbh)
  clear BEL_13
  have W0_14 := Lib.hid ((W0_13).out.below hbh (by omega))
  clear W0_13
  have GW_14 := Lib.hid ((GW_13).out.below hbh (GW_13).out.lt)
  clear GW_13
  have X0_14 := Lib.hid ((X0_13).out.below hbh (X0_13).out.lt)
  clear X0_13
  have GG_14 := Lib.hid ((GG_13).out.below hbh (GG_13).out.lt)
  clear GG_13
  have M0_14 := Lib.hid ((M0_13).out.below hbh (by omega))
  clear M0_13
  clear hbh
  have c_F0_0 : wh0.cell? ⟨w.heap.size, 0, none⟩ = some (.slice h0.A o0.length h0.c) := (F0_14).out.cell 0
  have l_F0 : w.heap.size < wh0.heap.size := (F0_14).out.lt
  go_wp2_with fail
  clear c_F0_0 l_F0
  refine (toPg_any h0 o0 wh0 w.heap.size (R0_14).out (by omega) HS0.out).mono ?_
  rintro e wt20 ⟨s0, rfl, hbt, hlt, owt⟩
  have sz_15 := (hbt).size
  have F0_15 := Lib.hid ((F0_14).out.below hbt (F0_14).out.lt)
  clear F0_14
  have R0_15 := Lib.hid ((R0_14).out.below hbt (by omega))
  clear R0_14
  have BEL_15 := Lib.hid (below_on (BEL_14).out hbt)
  clear BEL_14
  have W0_15 := Lib.hid ((W0_14).out.below hbt (by omega))
  clear W0_14
  have GW_15 := Lib.hid ((GW_14).out.below hbt (GW_14).out.lt)
  clear GW_14
  have X0_15 := Lib.hid ((X0_14).out.below hbt (X0_14).out.lt)
  clear X0_14
  have GG_15 := Lib.hid ((GG_14).out.below hbt (GG_14).out.lt)
  clear GG_14
  have M0_15 := Lib.hid ((M0_14).out.below hbt (by omega))
  clear M0_14
  have T0_15 := Lib.hid (owt.rd)
  clear hbt hlt owt
  go_wp2_with fail
  have hs := ivbeg_any s0 o0 wt20 wt20.heap.size ((T0_15).out.up (Below.refl wt20.heap.size wt20) (by omega) (by omega)) (Nat.le_refl _) HS0.out
  rw [HE.out, HR.out] at hs
  refine hs.mono ?_
  clear hs
  rintro e wj ⟨hh, rfl, hba, hla, owa⟩
  have sz_16 := (hba).size
  have F0_16 := Lib.hid ((F0_15).out.below hba (F0_15).out.lt)
  clear F0_15
  have R0_16 := Lib.hid ((R0_15).out.below hba (by omega))
  clear R0_15
  have BEL_16 := Lib.hid (below_on (BEL_15).out hba)
  clear BEL_15
  have W0_16 := Lib.hid ((W0_15).out.below hba (by omega))
  clear W0_15
  have GW_16 := Lib.hid ((GW_15).out.below hba (GW_15).out.lt)
  clear GW_15
  have X0_16 := Lib.hid ((X0_15).out.below hba (X0_15).out.lt)
  clear X0_15
  have GG_16 := Lib.hid ((GG_15).out.below hba (GG_15).out.lt)
  clear GG_15
  have M0_16 := Lib.hid ((M0_15).out.below hba (by omega))
  clear M0_15
  have T0_16 := Lib.hid ((T0_15).out.below hba (by omega))
  clear T0_15
  have H0_16 := Lib.hid (owa)
  clear hba hla owa
  clear T0_16
  have c_GW_0 : wj.cell? ⟨wu.heap.size, 0, none⟩ = some (.slice hw.h.A0 E.st.f0.length hw.h.c0) := (GW_16).out.cell 0
  have c_GW_1 : wj.cell? ⟨wu.heap.size, 1, none⟩ = some (.slice hw.h.A1 E.st.f1.length hw.h.c1) := (GW_16).out.cell 1
  have c_GW_2 : wj.cell? ⟨wu.heap.size, 2, none⟩ = some (.slice hw.h.A2 E.st.f2.length hw.h.c2) := (GW_16).out.cell 2
  have c_GW_3 : wj.cell? ⟨wu.heap.size, 3, none⟩ = some (.slice hw.h.A3 E.st.f3.length hw.h.c3) := (GW_16).out.cell 3
  have c_GW_4 : wj.cell? ⟨wu.heap.size, 4, none⟩ = some (.slice hw.h.A4 E.st.f4.length hw.h.c4) := (GW_16).out.cell 4
  have c_GW_5 : wj.cell? ⟨wu.heap.size, 5, none⟩ = some (.slice hw.n.A E.n.length hw.n.c) := (GW_16).out.cell 5
  have c_GW_6 : wj.cell? ⟨wu.heap.size, 6, none⟩ = some (.slice hw.v.A E.v.length hw.v.c) := (GW_16).out.cell 6
  have c_GW_7 : wj.cell? ⟨wu.heap.size, 7, none⟩ = some (.slice hw.l.A E.l.length hw.l.c) := (GW_16).out.cell 7
  have c_GW_8 : wj.cell? ⟨wu.heap.size, 8, none⟩ = some (.slice hw.k.A E.k.length hw.k.c) := (GW_16).out.cell 8
  have c_GW_9 : wj.cell? ⟨wu.heap.size, 9, none⟩ = some (.slice hw.f.A E.f.length hw.f.c) := (GW_16).out.cell 9
  have l_GW : wu.heap.size < wj.heap.size := (GW_16).out.lt
  go_wp2_with fail
  clear c_GW_0 c_GW_1 c_GW_2 c_GW_3 c_GW_4 c_GW_5 c_GW_6 c_GW_7 c_GW_8 c_GW_9 l_GW
  obtain ⟨VH, hVH⟩ : ∃ V, V = wj.alloc (.cells #[.slice hh.h.A0 E.st.f0.length hh.h.c0, .slice hh.h.A1 E.st.f1.length hh.h.c1, .slice hh.h.A2 E.st.f2.length hh.h.c2, .slice hh.h.A3 E.st.f3.length hh.h.c3, .slice hh.h.A4 E.st.f4.length hh.h.c4, .slice hh.n.A E.n.length hh.n.c, .slice hh.v.A E.v.length hh.v.c, .slice hh.l.A E.l.length hh.l.c, .slice hh.k.A E.k.length hh.k.c, .slice hh.f.A E.f.length hh.f.c] 45) := ⟨_, rfl⟩
  rw [← hVH]
  have bVH : Below wj.heap.size wj VH := by rw [hVH]; go_grown
  have zVH : VH.heap.size = wj.heap.size + 1 := by rw [hVH]; simp
  have kVH : Bk VH wj.heap.size 45 #[.slice hh.h.A0 E.st.f0.length hh.h.c0, .slice hh.h.A1 E.st.f1.length hh.h.c1, .slice hh.h.A2 E.st.f2.length hh.h.c2, .slice hh.h.A3 E.st.f3.length hh.h.c3, .slice hh.h.A4 E.st.f4.length hh.h.c4, .slice hh.n.A E.n.length hh.n.c, .slice hh.v.A E.v.length hh.v.c, .slice hh.l.A E.l.length hh.l.c, .slice hh.k.A E.k.length hh.k.c, .slice hh.f.A E.f.length hh.f.c] := by rw [hVH]; exact Bk.new _ _ _
  have zVHa := Nat.le_of_eq zVH
  have zVHb := Nat.le_of_eq zVH.symm
  clear zVH
  have sz_17 := (bVH).size
  have F0_17 := Lib.hid ((F0_16).out.below bVH (F0_16).out.lt)
  clear F0_16
  have R0_17 := Lib.hid ((R0_16).out.below bVH (by omega))
  clear R0_16
  have BEL_17 := Lib.hid (below_on (BEL_16).out bVH)
  clear BEL_16
  have W0_17 := Lib.hid ((W0_16).out.below bVH (by omega))
  clear W0_16
  have GW_17 := Lib.hid ((GW_16).out.below bVH (GW_16).out.lt)
  clear GW_16
  have X0_17 := Lib.hid ((X0_16).out.below bVH (X0_16).out.lt)
  clear X0_16
  have GG_17 := Lib.hid ((GG_16).out.below bVH (GG_16).out.lt)
  clear GG_16
  have M0_17 := Lib.hid ((M0_16).out.below bVH (by omega))
  clear M0_16
  have H0_17 := Lib.hid ((H0_16).out.below bVH (by omega))
  clear H0_16
  have GH_17 := Lib.hid (kVH)
  clear hVH bVH kVH
  refine (eqVwd_any hh hw E E VH VH.heap.size ((H0_17).out.rd.up (Below.refl VH.heap.size VH) (by omega) (by omega)) ((W0_17).out.rd.up (Below.refl VH.heap.size VH) (by omega) (by omega)) (Nat.le_refl _) (VwdS_L HSE.out) (VwdS_L HSE.out) true (Lib.hid (by simp))).mono ?_
  rintro e wq2 ⟨rfl, hbq⟩
  have sz_18 := (hbq).size
  have F0_18 := Lib.hid ((F0_17).out.below hbq (F0_17).out.lt)
  clear F0_17
  have R0_18 := Lib.hid ((R0_17).out.below hbq (by omega))
  clear R0_17
  have BEL_18 := Lib.hid (below_on (BEL_17).out hbq)
  clear BEL_17
  have W0_18 := Lib.hid ((W0_17).out.below hbq (by omega))
  clear W0_17
  have GW_18 := Lib.hid ((GW_17).out.below hbq (GW_17).out.lt)
  clear GW_17
  have X0_18 := Lib.hid ((X0_17).out.below hbq (X0_17).out.lt)
  clear X0_17
  have GG_18 := Lib.hid ((GG_17).out.below hbq (GG_17).out.lt)
  clear GG_17
  have M0_18 := Lib.hid ((M0_17).out.below hbq (by omega))
  clear M0_17
  have H0_18 := Lib.hid ((H0_17).out.below hbq (by omega))
  clear H0_17
  have GH_18 := Lib.hid ((GH_17).out.below hbq (GH_17).out.lt)
  clear GH_17
  clear hbq
  have c_GG_0 : wq2.cell? ⟨wi.heap.size, 0, none⟩ = some (.slice hg.h.A0 E.st.f0.length hg.h.c0) := (GG_18).out.cell 0
  have c_GG_1 : wq2.cell? ⟨wi.heap.size, 1, none⟩ = some (.slice hg.h.A1 E.st.f1.length hg.h.c1) := (GG_18).out.cell 1
  have c_GG_2 : wq2.cell? ⟨wi.heap.size, 2, none⟩ = some (.slice hg.h.A2 E.st.f2.length hg.h.c2) := (GG_18).out.cell 2
  have c_GG_3 : wq2.cell? ⟨wi.heap.size, 3, none⟩ = some (.slice hg.h.A3 E.st.f3.length hg.h.c3) := (GG_18).out.cell 3
  have c_GG_4 : wq2.cell? ⟨wi.heap.size, 4, none⟩ = some (.slice hg.h.A4 E.st.f4.length hg.h.c4) := (GG_18).out.cell 4
  have c_GG_5 : wq2.cell? ⟨wi.heap.size, 5, none⟩ = some (.slice hg.n.A E.n.length hg.n.c) := (GG_18).out.cell 5
  have c_GG_6 : wq2.cell? ⟨wi.heap.size, 6, none⟩ = some (.slice hg.v.A E.v.length hg.v.c) := (GG_18).out.cell 6
  have c_GG_7 : wq2.cell? ⟨wi.heap.size, 7, none⟩ = some (.slice hg.l.A E.l.length hg.l.c) := (GG_18).out.cell 7
  have c_GG_8 : wq2.cell? ⟨wi.heap.size, 8, none⟩ = some (.slice hg.k.A E.k.length hg.k.c) := (GG_18).out.cell 8
  have c_GG_9 : wq2.cell? ⟨wi.heap.size, 9, none⟩ = some (.slice hg.f.A E.f.length hg.f.c) := (GG_18).out.cell 9
  have l_GG : wi.heap.size < wq2.heap.size := (GG_18).out.lt
  go_wp2_with fail
  clear c_GG_0 c_GG_1 c_GG_2 c_GG_3 c_GG_4 c_GG_5 c_GG_6 c_GG_7 c_GG_8 c_GG_9 l_GG
  refine (heldVwd_any hg E 1 wq2 _ (M0_18).out.rd (by omega) HSE.out (by omega) (by omega)).mono ?_
  rintro e wh1 ⟨rfl, hbh⟩
  have sz_19 := (hbh).size
  have F0_19 := Lib.hid ((F0_18).out.below hbh (F0_18).out.lt)
  clear F0_18
  have R0_19 := Lib.hid ((R0_18).out.below hbh (by omega))
  clear R0_18
  have BEL_19 := Lib.hid (below_on (BEL_18).out hbh)
  clear BEL_18
  have W0_19 := Lib.hid ((W0_18).out.below hbh (by omega))
  clear W0_18
  have GW_19 := Lib.hid ((GW_18).out.below hbh (GW_18).out.lt)
  clear GW_18
  have X0_19 := Lib.hid ((X0_18).out.below hbh (X0_18).out.lt)
  clear X0_18
  have GG_19 := Lib.hid ((GG_18).out.below hbh (GG_18).out.lt)
  clear GG_18
  have M0_19 := Lib.hid ((M0_18).out.below hbh (by omega))
  clear M0_18
  have H0_19 := Lib.hid ((H0_18).out.below hbh (by omega))
  clear H0_18
  have GH_19 := Lib.hid ((GH_18).out.below hbh (GH_18).out.lt)
  clear GH_18
  clear hbh
  have hfin := (BEL_19).out
  go_wp2
  go_ret
  exact ⟨rfl, hfin⟩
end Go.Proofs.Ytiljakbjbiinkaa
