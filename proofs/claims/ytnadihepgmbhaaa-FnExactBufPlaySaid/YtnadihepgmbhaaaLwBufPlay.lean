/-
  The walk of the law on BufPlay: it comes to true, whatever the arguments and the memory, and leaves all memory that was there as it was.
-/
import Derived.Test.YtnadihepgmbhaaaWPl
import Derived.Deep.RegionHeld3
import Derived.Deep.DeepCutAuto
namespace Go.Proofs.Ytnadihepgmbhaaa
open Go.RowKit Pl Go.BigFrame
set_option maxHeartbeats 16000000
set_option maxRecDepth 100000
set_option linter.unusedVariables false

theorem tot_le12 {L : List (List Int)} (h : ∀ x ∈ L, x.length ≤ 12) : tot L ≤ L.length * 12 := by
  induction L with
  | nil => simp [tot]
  | cons x r ih =>
    rw [tot_cons, List.length_cons]
    have h1 := h x (List.mem_cons_self ..)
    have h2 := ih fun y hy => h y (List.mem_cons_of_mem _ hy)
    omega
theorem bplayE_small {L : Pg} {xs : List Int} (h : PgS L) (_ : IsS xs) : BufS (bplayE L xs) := by
  have he : BufS BufE := ⟨⟨by simp [BufE, StaE], by simp [BufE, StaE], by simp [BufE, StaE], by simp [BufE, StaE], by simp [BufE, StaE]⟩, by simp [BufE], by simp [BufE, tot]⟩
  unfold bplayE bplayO
  split
  · rename_i hp
    have h3 := prog_len hp
    cases hq : runQ 1 L (keptF L zeroF L.length) (fun _ => []) xs with
    | none => exact he
    | some g =>
      have I := runQ_inv (Or.inl rfl) hp (invq_beg hp) hq
      have h6 := I.ok6 (Or.inl rfl) hp
      have hb : ∀ x ∈ (bufOf L g.1 g.2).bs, x.length ≤ 12 := fun x hx => by
        obtain ⟨i, hi⟩ := List.getElem?_of_mem hx
        obtain ⟨h1, rfl⟩ := bufOf_inv hi
        rw [rowS_length]
        have := (h6 i (by omega)).2
        omega
      have ht := tot_le12 hb
      have hl := bufOf_len L g.1 g.2
      exact ⟨staF_S L g.1 h3.2, by show (bufOf L g.1 g.2).bs.length ≤ _; omega, by show tot (bufOf L g.1 g.2).bs ≤ _; omega⟩
  · exact he
theorem lwBufPlay (h0 : PgH) (o0 : Pg) (h1 : IsH) (o1 : Is) (w : World) (hR0 : PgR w w.heap.size h0 o0) (hL0 : PgL o0 maxLen) (hR1 : IsR w w.heap.size h1 o1) (hL1 : IsL o1 maxLen) :
    Calls Try.prog 11 #[PgV h0 o0, IsV h1 o1] w fun e w' => e = .returned (.bool true) ∧ Below w.heap.size w w' := by
  obtain ⟨W, hW⟩ : ∃ W, W = (w.alloc (.cells #[.slice h0.A o0.length h0.c] 24)) := ⟨_, rfl⟩
  have hbW : Below w.heap.size w W := by rw [hW]; go_grown
  have hsW : W.heap.size = w.heap.size + 1 := by rw [hW]; simp
  have k0 : Bk W (w.heap.size) 24 #[.slice h0.A o0.length h0.c] := by
    rw [hW]; have := Bk.new w #[.slice h0.A o0.length h0.c] 24
    exact this
  have HW := Lib.hid hW
  have F0_0 := Lib.hid (k0)
  have R0_0 := Lib.hid (hR0.below hbW (Nat.le_refl _))
  have R1_0 := Lib.hid (hR1.below hbW (Nat.le_refl _))
  have BEL_0 := Lib.hid (hbW)
  have hsWa := Nat.le_of_eq hsW
  have hsWb := Nat.le_of_eq hsW.symm
  clear hW hsW hbW k0 hR0 hR1
  obtain ⟨z0, hz0⟩ : ∃ z, szPg 1048576 o0 = z := ⟨_, rfl⟩
  have Z0 := Lib.hid hz0
  clear hz0
  have u0 : -1 ≤ z0 ∧ z0 ≤ 1048576 := by rw [← Z0.out]; exact szPg_ge _ _ (by omega)
  by_cases n1 : (1048576 : Int) < (o1.length : Int)
  · go_enter Try.func11, Try.ntmps11
    go_wp2
    rw [← HW.out]
    go_ret
    exact ⟨rfl, (BEL_0).out⟩
  have HS1 := Lib.hid (show IsS o1 from ⟨by omega⟩)
  by_cases n0 : z0 < 0
  · skip
    go_enter Try.func11, Try.ntmps11
    go_wp2_with fail
    rw [← HW.out]
    refine (szPg_any h0 o0 1048576 W w.heap.size (R0_0).out (by omega) hL0 (by omega) (by omega) z0 Z0).mono ?_
    rintro e ws0 ⟨rfl, hbs0⟩
    have sz_1 := (hbs0).size
    have F0_1 := Lib.hid ((F0_0).out.below hbs0 (F0_0).out.lt)
    clear F0_0
    have R0_1 := Lib.hid ((R0_0).out.below hbs0 (by omega))
    clear R0_0
    have R1_1 := Lib.hid ((R1_0).out.below hbs0 (by omega))
    clear R1_0
    have BEL_1 := Lib.hid (below_on (BEL_0).out hbs0)
    clear BEL_0
    clear hbs0
    go_wp2
    go_ret
    exact ⟨rfl, (BEL_1).out⟩
  have S0 : PgS o0 := szPg_small (by rw [Z0.out]; omega) (by omega) (by omega)
  have HS0 := Lib.hid S0
  clear S0
  obtain ⟨E, hE⟩ : ∃ E, bplayE o0 o1 = E := ⟨_, rfl⟩
  obtain ⟨r, hr⟩ : ∃ r, bplayB o0 o1 = r := ⟨_, rfl⟩
  have HE := Lib.hid hE
  have HR := Lib.hid hr
  have hSE : BufS E := by rw [← hE]; exact bplayE_small HS0.out HS1.out
  have HSE := Lib.hid hSE
  clear hE hSE
  clear hr
  go_enter Try.func11, Try.ntmps11
  go_wp2_with fail
  rw [← HW.out]
  refine (szPg_any h0 o0 1048576 W w.heap.size (R0_0).out (by omega) hL0 (by omega) (by omega) z0 Z0).mono ?_
  rintro e ws0 ⟨rfl, hbs0⟩
  have sz_1 := (hbs0).size
  have F0_1 := Lib.hid ((F0_0).out.below hbs0 (F0_0).out.lt)
  clear F0_0
  have R0_1 := Lib.hid ((R0_0).out.below hbs0 (by omega))
  clear R0_0
  have R1_1 := Lib.hid ((R1_0).out.below hbs0 (by omega))
  clear R1_0
  have BEL_1 := Lib.hid (below_on (BEL_0).out hbs0)
  clear BEL_0
  clear hbs0
  have c_F0_0 : ws0.cell? ⟨w.heap.size, 0, none⟩ = some (.slice h0.A o0.length h0.c) := (F0_1).out.cell 0
  have l_F0 : w.heap.size < ws0.heap.size := (F0_1).out.lt
  go_wp2_with fail
  clear c_F0_0 l_F0
  refine (toPg_any h0 o0 ws0 w.heap.size (R0_1).out (by omega) HS0.out).mono ?_
  rintro e wt0 ⟨t0, rfl, hbt, hlt, owt⟩
  have sz_2 := (hbt).size
  have F0_2 := Lib.hid ((F0_1).out.below hbt (F0_1).out.lt)
  clear F0_1
  have R0_2 := Lib.hid ((R0_1).out.below hbt (by omega))
  clear R0_1
  have R1_2 := Lib.hid ((R1_1).out.below hbt (by omega))
  clear R1_1
  have BEL_2 := Lib.hid (below_on (BEL_1).out hbt)
  clear BEL_1
  have T0_2 := Lib.hid (owt.rd)
  clear hbt hlt owt
  go_wp2_with fail
  refine (toIs_any h1 o1 wt0 w.heap.size (R1_2).out (by omega) HS1.out).mono ?_
  rintro e wt1 ⟨t1, rfl, hbt, hlt, owt⟩
  have sz_3 := (hbt).size
  have F0_3 := Lib.hid ((F0_2).out.below hbt (F0_2).out.lt)
  clear F0_2
  have R0_3 := Lib.hid ((R0_2).out.below hbt (by omega))
  clear R0_2
  have R1_3 := Lib.hid ((R1_2).out.below hbt (by omega))
  clear R1_2
  have BEL_3 := Lib.hid (below_on (BEL_2).out hbt)
  clear BEL_2
  have T0_3 := Lib.hid ((T0_2).out.below hbt (by omega))
  clear T0_2
  have T1_3 := Lib.hid (owt.rd)
  clear hbt hlt owt
  go_wp2_with fail
  have hs := sbplay_any t0 o0 t1 o1 wt1 wt1.heap.size ((T0_3).out.up (Below.refl wt1.heap.size wt1) (by omega) (by omega)) ((T1_3).out.up (Below.refl wt1.heap.size wt1) (by omega) (by omega)) (Nat.le_refl _) HS0.out HS1.out
  rw [HE.out, HR.out] at hs
  refine hs.mono ?_
  clear hs
  rintro e wu ⟨hw, rfl, hba, hla, owa⟩
  have sz_4 := (hba).size
  have F0_4 := Lib.hid ((F0_3).out.below hba (F0_3).out.lt)
  clear F0_3
  have R0_4 := Lib.hid ((R0_3).out.below hba (by omega))
  clear R0_3
  have R1_4 := Lib.hid ((R1_3).out.below hba (by omega))
  clear R1_3
  have BEL_4 := Lib.hid (below_on (BEL_3).out hba)
  clear BEL_3
  have T0_4 := Lib.hid ((T0_3).out.below hba (by omega))
  clear T0_3
  have T1_4 := Lib.hid ((T1_3).out.below hba (by omega))
  clear T1_3
  have W0_4 := Lib.hid (owa)
  clear hba hla owa
  clear T0_4
  clear T1_4
  have c_F0_0 : wu.cell? ⟨w.heap.size, 0, none⟩ = some (.slice h0.A o0.length h0.c) := (F0_4).out.cell 0
  have l_F0 : w.heap.size < wu.heap.size := (F0_4).out.lt
  go_wp2_with fail
  clear c_F0_0 l_F0
  obtain ⟨VW, hVW⟩ : ∃ V, V = wu.alloc (.cells #[.slice hw.h.A0 E.st.f0.length hw.h.c0, .slice hw.h.A1 E.st.f1.length hw.h.c1, .slice hw.h.A2 E.st.f2.length hw.h.c2, .slice hw.h.A3 E.st.f3.length hw.h.c3, .slice hw.h.A4 E.st.f4.length hw.h.c4, .slice hw.k.A E.bs.length hw.k.c] 59) := ⟨_, rfl⟩
  rw [← hVW]
  have bVW : Below wu.heap.size wu VW := by rw [hVW]; go_grown
  have zVW : VW.heap.size = wu.heap.size + 1 := by rw [hVW]; simp
  have kVW : Bk VW wu.heap.size 59 #[.slice hw.h.A0 E.st.f0.length hw.h.c0, .slice hw.h.A1 E.st.f1.length hw.h.c1, .slice hw.h.A2 E.st.f2.length hw.h.c2, .slice hw.h.A3 E.st.f3.length hw.h.c3, .slice hw.h.A4 E.st.f4.length hw.h.c4, .slice hw.k.A E.bs.length hw.k.c] := by rw [hVW]; exact Bk.new _ _ _
  have zVWa := Nat.le_of_eq zVW
  have zVWb := Nat.le_of_eq zVW.symm
  clear zVW
  have sz_5 := (bVW).size
  have F0_5 := Lib.hid ((F0_4).out.below bVW (F0_4).out.lt)
  clear F0_4
  have R0_5 := Lib.hid ((R0_4).out.below bVW (by omega))
  clear R0_4
  have R1_5 := Lib.hid ((R1_4).out.below bVW (by omega))
  clear R1_4
  have BEL_5 := Lib.hid (below_on (BEL_4).out bVW)
  clear BEL_4
  have W0_5 := Lib.hid ((W0_4).out.below bVW (by omega))
  clear W0_4
  have GW_5 := Lib.hid (kVW)
  clear hVW bVW kVW
  refine (toPg_any h0 o0 VW w.heap.size (R0_5).out (by omega) HS0.out).mono ?_
  rintro e wx0 ⟨x0, rfl, hbt, hlt, owt⟩
  have sz_6 := (hbt).size
  have F0_6 := Lib.hid ((F0_5).out.below hbt (F0_5).out.lt)
  clear F0_5
  have R0_6 := Lib.hid ((R0_5).out.below hbt (by omega))
  clear R0_5
  have R1_6 := Lib.hid ((R1_5).out.below hbt (by omega))
  clear R1_5
  have BEL_6 := Lib.hid (below_on (BEL_5).out hbt)
  clear BEL_5
  have W0_6 := Lib.hid ((W0_5).out.below hbt (by omega))
  clear W0_5
  have GW_6 := Lib.hid ((GW_5).out.below hbt (GW_5).out.lt)
  clear GW_5
  clear hbt hlt
  have Xo0_6 := Lib.hid (owt)
  have Xr0_6 := Lib.hid (owt.rd)
  clear owt
  go_wp2_with fail
  obtain ⟨Vx0, hVx0⟩ : ∃ V, V = wx0.alloc (.cells #[.slice x0.A o0.length x0.c] 36) := ⟨_, rfl⟩
  rw [← hVx0]
  have bVx0 : Below wx0.heap.size wx0 Vx0 := by rw [hVx0]; go_grown
  have zVx0 : Vx0.heap.size = wx0.heap.size + 1 := by rw [hVx0]; simp
  have kVx0 : Bk Vx0 wx0.heap.size 36 #[.slice x0.A o0.length x0.c] := by rw [hVx0]; exact Bk.new _ _ _
  have zVx0a := Nat.le_of_eq zVx0
  have zVx0b := Nat.le_of_eq zVx0.symm
  clear zVx0
  have sz_7 := (bVx0).size
  have F0_7 := Lib.hid ((F0_6).out.below bVx0 (F0_6).out.lt)
  clear F0_6
  have R0_7 := Lib.hid ((R0_6).out.below bVx0 (by omega))
  clear R0_6
  have R1_7 := Lib.hid ((R1_6).out.below bVx0 (by omega))
  clear R1_6
  have BEL_7 := Lib.hid (below_on (BEL_6).out bVx0)
  clear BEL_6
  have W0_7 := Lib.hid ((W0_6).out.below bVx0 (by omega))
  clear W0_6
  have GW_7 := Lib.hid ((GW_6).out.below bVx0 (GW_6).out.lt)
  clear GW_6
  have Xo0_7 := Lib.hid ((Xo0_6).out.below bVx0 (by omega))
  clear Xo0_6
  have Xr0_7 := Lib.hid ((Xr0_6).out.below bVx0 (by omega))
  clear Xr0_6
  have X0_7 := Lib.hid (kVx0)
  clear hVx0 bVx0 kVx0
  refine (toIs_any h1 o1 Vx0 w.heap.size (R1_7).out (by omega) HS1.out).mono ?_
  rintro e wx1 ⟨x1, rfl, hbt, hlt, owt⟩
  have sz_8 := (hbt).size
  have F0_8 := Lib.hid ((F0_7).out.below hbt (F0_7).out.lt)
  clear F0_7
  have R0_8 := Lib.hid ((R0_7).out.below hbt (by omega))
  clear R0_7
  have R1_8 := Lib.hid ((R1_7).out.below hbt (by omega))
  clear R1_7
  have BEL_8 := Lib.hid (below_on (BEL_7).out hbt)
  clear BEL_7
  have W0_8 := Lib.hid ((W0_7).out.below hbt (by omega))
  clear W0_7
  have GW_8 := Lib.hid ((GW_7).out.below hbt (GW_7).out.lt)
  clear GW_7
  have Xo0_8 := Lib.hid ((Xo0_7).out.below hbt (by omega))
  clear Xo0_7
  have Xr0_8 := Lib.hid ((Xr0_7).out.below hbt (by omega))
  clear Xr0_7
  have X0_8 := Lib.hid ((X0_7).out.below hbt (X0_7).out.lt)
  clear X0_7
  clear hbt hlt
  have Xo1_8 := Lib.hid (owt)
  have Xr1_8 := Lib.hid (owt.rd)
  clear owt
  have c_X0_0 : wx1.cell? ⟨wx0.heap.size, 0, none⟩ = some (.slice x0.A o0.length x0.c) := (X0_8).out.cell 0
  have l_X0 : wx0.heap.size < wx1.heap.size := (X0_8).out.lt
  go_wp2_with fail
  clear c_X0_0 l_X0
  have hs := ibplay_any x0 o0 x1 o1 wx1 wx1.heap.size ((Xr0_8).out.up (Below.refl wx1.heap.size wx1) (by omega) (by omega)) ((Xr1_8).out.up (Below.refl wx1.heap.size wx1) (by omega) (by omega)) (Nat.le_refl _) HS0.out HS1.out
  rw [HE.out, HR.out] at hs
  refine hs.mono ?_
  clear hs
  rintro e wi ⟨hg, rfl, hba, hla, owa⟩
  have sz_9 := (hba).size
  have F0_9 := Lib.hid ((F0_8).out.below hba (F0_8).out.lt)
  clear F0_8
  have R0_9 := Lib.hid ((R0_8).out.below hba (by omega))
  clear R0_8
  have R1_9 := Lib.hid ((R1_8).out.below hba (by omega))
  clear R1_8
  have BEL_9 := Lib.hid (below_on (BEL_8).out hba)
  clear BEL_8
  have W0_9 := Lib.hid ((W0_8).out.below hba (by omega))
  clear W0_8
  have GW_9 := Lib.hid ((GW_8).out.below hba (GW_8).out.lt)
  clear GW_8
  have Xo0_9 := Lib.hid ((Xo0_8).out.below hba (by omega))
  clear Xo0_8
  have Xr0_9 := Lib.hid ((Xr0_8).out.below hba (by omega))
  clear Xr0_8
  have X0_9 := Lib.hid ((X0_8).out.below hba (X0_8).out.lt)
  clear X0_8
  have Xo1_9 := Lib.hid ((Xo1_8).out.below hba (by omega))
  clear Xo1_8
  have Xr1_9 := Lib.hid ((Xr1_8).out.below hba (by omega))
  clear Xr1_8
  have G0_9 := Lib.hid (owa)
  clear hba hla owa
  have c_GW_0 : wi.cell? ⟨wu.heap.size, 0, none⟩ = some (.slice hw.h.A0 E.st.f0.length hw.h.c0) := (GW_9).out.cell 0
  have c_GW_1 : wi.cell? ⟨wu.heap.size, 1, none⟩ = some (.slice hw.h.A1 E.st.f1.length hw.h.c1) := (GW_9).out.cell 1
  have c_GW_2 : wi.cell? ⟨wu.heap.size, 2, none⟩ = some (.slice hw.h.A2 E.st.f2.length hw.h.c2) := (GW_9).out.cell 2
  have c_GW_3 : wi.cell? ⟨wu.heap.size, 3, none⟩ = some (.slice hw.h.A3 E.st.f3.length hw.h.c3) := (GW_9).out.cell 3
  have c_GW_4 : wi.cell? ⟨wu.heap.size, 4, none⟩ = some (.slice hw.h.A4 E.st.f4.length hw.h.c4) := (GW_9).out.cell 4
  have c_GW_5 : wi.cell? ⟨wu.heap.size, 5, none⟩ = some (.slice hw.k.A E.bs.length hw.k.c) := (GW_9).out.cell 5
  have l_GW : wu.heap.size < wi.heap.size := (GW_9).out.lt
  go_wp2_with fail
  clear c_GW_0 c_GW_1 c_GW_2 c_GW_3 c_GW_4 c_GW_5 l_GW
  obtain ⟨VG, hVG⟩ : ∃ V, V = wi.alloc (.cells #[.slice hg.h.A0 E.st.f0.length hg.h.c0, .slice hg.h.A1 E.st.f1.length hg.h.c1, .slice hg.h.A2 E.st.f2.length hg.h.c2, .slice hg.h.A3 E.st.f3.length hg.h.c3, .slice hg.h.A4 E.st.f4.length hg.h.c4, .slice hg.k.A E.bs.length hg.k.c] 59) := ⟨_, rfl⟩
  rw [← hVG]
  have bVG : Below wi.heap.size wi VG := by rw [hVG]; go_grown
  have zVG : VG.heap.size = wi.heap.size + 1 := by rw [hVG]; simp
  have kVG : Bk VG wi.heap.size 59 #[.slice hg.h.A0 E.st.f0.length hg.h.c0, .slice hg.h.A1 E.st.f1.length hg.h.c1, .slice hg.h.A2 E.st.f2.length hg.h.c2, .slice hg.h.A3 E.st.f3.length hg.h.c3, .slice hg.h.A4 E.st.f4.length hg.h.c4, .slice hg.k.A E.bs.length hg.k.c] := by rw [hVG]; exact Bk.new _ _ _
  have zVGa := Nat.le_of_eq zVG
  have zVGb := Nat.le_of_eq zVG.symm
  clear zVG
  have sz_10 := (bVG).size
  have F0_10 := Lib.hid ((F0_9).out.below bVG (F0_9).out.lt)
  clear F0_9
  have R0_10 := Lib.hid ((R0_9).out.below bVG (by omega))
  clear R0_9
  have R1_10 := Lib.hid ((R1_9).out.below bVG (by omega))
  clear R1_9
  have BEL_10 := Lib.hid (below_on (BEL_9).out bVG)
  clear BEL_9
  have W0_10 := Lib.hid ((W0_9).out.below bVG (by omega))
  clear W0_9
  have GW_10 := Lib.hid ((GW_9).out.below bVG (GW_9).out.lt)
  clear GW_9
  have Xo0_10 := Lib.hid ((Xo0_9).out.below bVG (by omega))
  clear Xo0_9
  have Xr0_10 := Lib.hid ((Xr0_9).out.below bVG (by omega))
  clear Xr0_9
  have X0_10 := Lib.hid ((X0_9).out.below bVG (X0_9).out.lt)
  clear X0_9
  have Xo1_10 := Lib.hid ((Xo1_9).out.below bVG (by omega))
  clear Xo1_9
  have Xr1_10 := Lib.hid ((Xr1_9).out.below bVG (by omega))
  clear Xr1_9
  have G0_10 := Lib.hid ((G0_9).out.below bVG (by omega))
  clear G0_9
  have GG_10 := Lib.hid (kVG)
  clear hVG bVG kVG
  refine (eqBuf_any hg hw E E VG VG.heap.size ((G0_10).out.rd.up (Below.refl VG.heap.size VG) (by omega) (by omega)) ((W0_10).out.rd.up (Below.refl VG.heap.size VG) (by omega) (by omega)) (Nat.le_refl _) (BufS_L HSE.out) (BufS_L HSE.out) true (Lib.hid (by simp))).mono ?_
  rintro e wq0 ⟨rfl, hbq⟩
  have sz_11 := (hbq).size
  have F0_11 := Lib.hid ((F0_10).out.below hbq (F0_10).out.lt)
  clear F0_10
  have R0_11 := Lib.hid ((R0_10).out.below hbq (by omega))
  clear R0_10
  have R1_11 := Lib.hid ((R1_10).out.below hbq (by omega))
  clear R1_10
  have BEL_11 := Lib.hid (below_on (BEL_10).out hbq)
  clear BEL_10
  have W0_11 := Lib.hid ((W0_10).out.below hbq (by omega))
  clear W0_10
  have GW_11 := Lib.hid ((GW_10).out.below hbq (GW_10).out.lt)
  clear GW_10
  have Xo0_11 := Lib.hid ((Xo0_10).out.below hbq (by omega))
  clear Xo0_10
  have Xr0_11 := Lib.hid ((Xr0_10).out.below hbq (by omega))
  clear Xr0_10
  have X0_11 := Lib.hid ((X0_10).out.below hbq (X0_10).out.lt)
  clear X0_10
  have Xo1_11 := Lib.hid ((Xo1_10).out.below hbq (by omega))
  clear Xo1_10
  have Xr1_11 := Lib.hid ((Xr1_10).out.below hbq (by omega))
  clear Xr1_10
  have G0_11 := Lib.hid ((G0_10).out.below hbq (by omega))
  clear G0_10
  have GG_11 := Lib.hid ((GG_10).out.below hbq (GG_10).out.lt)
  clear GG_10
  clear hbq
  have allS : ∀ w', Below wq0.heap.size wq0 w' → (Below wq0.heap.size wq0 w' ∧ w'.cell? ⟨wx0.heap.size, 0, none⟩ = some (.slice x0.A o0.length x0.c) ∧ w'.cell? ⟨w.heap.size, 0, none⟩ = some (.slice h0.A o0.length h0.c)) := fun w' hb => ⟨hb, ((X0_11).out.below hb (X0_11).out.lt).cell 0, ((F0_11).out.below hb (F0_11).out.lt).cell 0⟩
  have AllS := Lib.hid allS
  clear allS
  go_wp2_with fail
  go_region_held3 (fun w' => Below wq0.heap.size wq0 w' ∧ w'.cell? ⟨wx0.heap.size, 0, none⟩ = some (.slice x0.A o0.length x0.c) ∧ w'.cell? ⟨w.heap.size, 0, none⟩ = some (.slice h0.A o0.length h0.c)) (first | (go_split_ands; exact AllS.out _ (by go_grown)) | (exact AllS.out _ (by go_grown))) (first | (go_at_call 15; go_split_ands; refine (toPg_any h0 o0 _ w.heap.size ((R0_11).out.below (show Below wq0.heap.size wq0 _ from by go_grown) (by omega)) (Nat.le_trans (by omega) (show Below wq0.heap.size wq0 _ from by go_grown).size) HS0.out).mono ?_; rintro e ve0 ⟨y0, rfl, hv, -, ov⟩; have Ov := Lib.hid ov.rd; have hBv : Below wq0.heap.size wq0 ve0 := below_on (by go_grown) hv; clear ov hv) | (go_at_call 18; go_split_ands; refine (eqPg_any x0 y0 o0 o0 _ ve0.heap.size ((Xr0_11).out.up (show Below wq0.heap.size wq0 _ from by go_grown) (by omega) (Nat.le_trans (by omega) hBv.size)) (Ov.out.below (show Below ve0.heap.size ve0 _ from by go_grown) (Nat.le_refl _)) (show Below ve0.heap.size ve0 _ from by go_grown).size (PgS_L HS0.out) (PgS_L HS0.out) true (Lib.hid (by simp))).mono ?_; rintro e vf0 ⟨rfl, hvf⟩; have hBvf : Below wq0.heap.size wq0 vf0 := below_on (by go_grown) hvf; clear hvf))
  clear AllS Ov hBv
  try clear hHeld
  have sz_12 := (hBvf).size
  have F0_12 := Lib.hid ((F0_11).out.below hBvf (F0_11).out.lt)
  clear F0_11
  have R0_12 := Lib.hid ((R0_11).out.below hBvf (by omega))
  clear R0_11
  have R1_12 := Lib.hid ((R1_11).out.below hBvf (by omega))
  clear R1_11
  have BEL_12 := Lib.hid (below_on (BEL_11).out hBvf)
  clear BEL_11
  have W0_12 := Lib.hid ((W0_11).out.below hBvf (by omega))
  clear W0_11
  have GW_12 := Lib.hid ((GW_11).out.below hBvf (GW_11).out.lt)
  clear GW_11
  have Xo0_12 := Lib.hid ((Xo0_11).out.below hBvf (by omega))
  clear Xo0_11
  have Xr0_12 := Lib.hid ((Xr0_11).out.below hBvf (by omega))
  clear Xr0_11
  have X0_12 := Lib.hid ((X0_11).out.below hBvf (X0_11).out.lt)
  clear X0_11
  have Xo1_12 := Lib.hid ((Xo1_11).out.below hBvf (by omega))
  clear Xo1_11
  have Xr1_12 := Lib.hid ((Xr1_11).out.below hBvf (by omega))
  clear Xr1_11
  have G0_12 := Lib.hid ((G0_11).out.below hBvf (by omega))
  clear G0_11
  have GG_12 := Lib.hid ((GG_11).out.below hBvf (GG_11).out.lt)
  clear GG_11
  clear hBvf
  go_wp2_with fail
  refine (toIs_any h1 o1 vf0 w.heap.size (R1_12).out (by omega) HS1.out).mono ?_
  rintro e ve1 ⟨y1, rfl, hbe, hle, owe⟩
  have sz_13 := (hbe).size
  have F0_13 := Lib.hid ((F0_12).out.below hbe (F0_12).out.lt)
  clear F0_12
  have R0_13 := Lib.hid ((R0_12).out.below hbe (by omega))
  clear R0_12
  have R1_13 := Lib.hid ((R1_12).out.below hbe (by omega))
  clear R1_12
  have BEL_13 := Lib.hid (below_on (BEL_12).out hbe)
  clear BEL_12
  have W0_13 := Lib.hid ((W0_12).out.below hbe (by omega))
  clear W0_12
  have GW_13 := Lib.hid ((GW_12).out.below hbe (GW_12).out.lt)
  clear GW_12
  have Xo0_13 := Lib.hid ((Xo0_12).out.below hbe (by omega))
  clear Xo0_12
  have Xr0_13 := Lib.hid ((Xr0_12).out.below hbe (by omega))
  clear Xr0_12
  have X0_13 := Lib.hid ((X0_12).out.below hbe (X0_12).out.lt)
  clear X0_12
  have Xo1_13 := Lib.hid ((Xo1_12).out.below hbe (by omega))
  clear Xo1_12
  have Xr1_13 := Lib.hid ((Xr1_12).out.below hbe (by omega))
  clear Xr1_12
  have G0_13 := Lib.hid ((G0_12).out.below hbe (by omega))
  clear G0_12
  have GG_13 := Lib.hid ((GG_12).out.below hbe (GG_12).out.lt)
  clear GG_12
  have Y_13 := Lib.hid (owe.rd)
  clear hbe hle owe
  go_wp2_with fail
  refine (eqIs_any x1 y1 o1 o1 ve1 ve1.heap.size ((Xr1_13).out.up (Below.refl _ _) (by omega) (by omega)) (Y_13).out (Nat.le_refl _) (IsS_L HS1.out) (IsS_L HS1.out) true (Lib.hid (by simp))).mono ?_
  rintro e vf1 ⟨rfl, hbf⟩
  clear Y_13
  have sz_14 := (hbf).size
  have F0_14 := Lib.hid ((F0_13).out.below hbf (F0_13).out.lt)
  clear F0_13
  have R0_14 := Lib.hid ((R0_13).out.below hbf (by omega))
  clear R0_13
  have R1_14 := Lib.hid ((R1_13).out.below hbf (by omega))
  clear R1_13
  have BEL_14 := Lib.hid (below_on (BEL_13).out hbf)
  clear BEL_13
  have W0_14 := Lib.hid ((W0_13).out.below hbf (by omega))
  clear W0_13
  have GW_14 := Lib.hid ((GW_13).out.below hbf (GW_13).out.lt)
  clear GW_13
  have Xo0_14 := Lib.hid ((Xo0_13).out.below hbf (by omega))
  clear Xo0_13
  have Xr0_14 := Lib.hid ((Xr0_13).out.below hbf (by omega))
  clear Xr0_13
  have X0_14 := Lib.hid ((X0_13).out.below hbf (X0_13).out.lt)
  clear X0_13
  have Xo1_14 := Lib.hid ((Xo1_13).out.below hbf (by omega))
  clear Xo1_13
  have Xr1_14 := Lib.hid ((Xr1_13).out.below hbf (by omega))
  clear Xr1_13
  have G0_14 := Lib.hid ((G0_13).out.below hbf (by omega))
  clear G0_13
  have GG_14 := Lib.hid ((GG_13).out.below hbf (GG_13).out.lt)
  clear GG_13
  clear hbf
  clear Xr0_14
  clear Xr1_14
  have c_X0_0 : vf1.cell? ⟨wx0.heap.size, 0, none⟩ = some (.slice x0.A o0.length x0.c) := (X0_14).out.cell 0
  have l_X0 : wx0.heap.size < vf1.heap.size := (X0_14).out.lt
  go_wp2_with fail
  clear c_X0_0 l_X0
  have t0 := HS0.out.t
  refine (markPg_any x0 o0 (1) vf1 VW.heap.size wx0.heap.size (Xo0_14).out (by omega) HS0.out (by omega) (by omega)).mono ?_
  rintro e wm0 ⟨rfl, hom⟩
  have sz_15 := (hom).size
  have F0_15 := Lib.hid (only_bk (F0_14).out hom (by omega))
  clear F0_14
  have R0_15 := Lib.hid ((R0_14).out.below ((hom).to_below (B := w.heap.size) (by omega) (by omega)) (Nat.le_refl _))
  clear R0_14
  have R1_15 := Lib.hid ((R1_14).out.below ((hom).to_below (B := w.heap.size) (by omega) (by omega)) (Nat.le_refl _))
  clear R1_14
  have BEL_15 := Lib.hid ((BEL_14).out.trans ((hom).to_below (by omega) (by omega)))
  clear BEL_14
  have W0_15 := Lib.hid ((W0_14).out.keep (Nat.le_refl _) (Nat.le_refl _) fun i h1 h2 => (hom).block i (by omega) (by omega))
  clear W0_14
  have GW_15 := Lib.hid (only_bk (GW_14).out hom (by omega))
  clear GW_14
  clear Xo0_14
  have X0_15 := Lib.hid (only_bk (X0_14).out hom (by omega))
  clear X0_14
  have Xo1_15 := Lib.hid ((Xo1_14).out.keep (Nat.le_refl _) (Nat.le_refl _) fun i h1 h2 => (hom).block i (by omega) (by omega))
  clear Xo1_14
  have G0_15 := Lib.hid ((G0_14).out.keep (Nat.le_refl _) (Nat.le_refl _) fun i h1 h2 => (hom).block i (by omega) (by omega))
  clear G0_14
  have GG_15 := Lib.hid (only_bk (GG_14).out hom (by omega))
  clear GG_14
  clear hom
  go_wp2_with fail
  have t1 := HS1.out.l0
  refine (markIs_any x1 o1 (1 + 5 * (total o0 : Int)) wm0 Vx0.heap.size wx1.heap.size (Xo1_15).out (by omega) HS1.out (by omega) (by omega)).mono ?_
  rintro e wm1 ⟨rfl, hom, -⟩
  have sz_16 := (hom).size
  have F0_16 := Lib.hid (only_bk (F0_15).out hom (by omega))
  clear F0_15
  have R0_16 := Lib.hid ((R0_15).out.below ((hom).to_below (B := w.heap.size) (by omega) (by omega)) (Nat.le_refl _))
  clear R0_15
  have R1_16 := Lib.hid ((R1_15).out.below ((hom).to_below (B := w.heap.size) (by omega) (by omega)) (Nat.le_refl _))
  clear R1_15
  have BEL_16 := Lib.hid ((BEL_15).out.trans ((hom).to_below (by omega) (by omega)))
  clear BEL_15
  have W0_16 := Lib.hid ((W0_15).out.keep (Nat.le_refl _) (Nat.le_refl _) fun i h1 h2 => (hom).block i (by omega) (by omega))
  clear W0_15
  have GW_16 := Lib.hid (only_bk (GW_15).out hom (by omega))
  clear GW_15
  have X0_16 := Lib.hid (only_bk (X0_15).out hom (by omega))
  clear X0_15
  clear Xo1_15
  have G0_16 := Lib.hid ((G0_15).out.keep (Nat.le_refl _) (Nat.le_refl _) fun i h1 h2 => (hom).block i (by omega) (by omega))
  clear G0_15
  have GG_16 := Lib.hid (only_bk (GG_15).out hom (by omega))
  clear GG_15
  clear hom
  have al1 : 0 ≤ allIs o1 ∧ allIs o1 ≤ 9000000 := by unfold allIs; omega
  have c_GW_0 : wm1.cell? ⟨wu.heap.size, 0, none⟩ = some (.slice hw.h.A0 E.st.f0.length hw.h.c0) := (GW_16).out.cell 0
  have c_GW_1 : wm1.cell? ⟨wu.heap.size, 1, none⟩ = some (.slice hw.h.A1 E.st.f1.length hw.h.c1) := (GW_16).out.cell 1
  have c_GW_2 : wm1.cell? ⟨wu.heap.size, 2, none⟩ = some (.slice hw.h.A2 E.st.f2.length hw.h.c2) := (GW_16).out.cell 2
  have c_GW_3 : wm1.cell? ⟨wu.heap.size, 3, none⟩ = some (.slice hw.h.A3 E.st.f3.length hw.h.c3) := (GW_16).out.cell 3
  have c_GW_4 : wm1.cell? ⟨wu.heap.size, 4, none⟩ = some (.slice hw.h.A4 E.st.f4.length hw.h.c4) := (GW_16).out.cell 4
  have c_GW_5 : wm1.cell? ⟨wu.heap.size, 5, none⟩ = some (.slice hw.k.A E.bs.length hw.k.c) := (GW_16).out.cell 5
  have l_GW : wu.heap.size < wm1.heap.size := (GW_16).out.lt
  have c_GG_0 : wm1.cell? ⟨wi.heap.size, 0, none⟩ = some (.slice hg.h.A0 E.st.f0.length hg.h.c0) := (GG_16).out.cell 0
  have c_GG_1 : wm1.cell? ⟨wi.heap.size, 1, none⟩ = some (.slice hg.h.A1 E.st.f1.length hg.h.c1) := (GG_16).out.cell 1
  have c_GG_2 : wm1.cell? ⟨wi.heap.size, 2, none⟩ = some (.slice hg.h.A2 E.st.f2.length hg.h.c2) := (GG_16).out.cell 2
  have c_GG_3 : wm1.cell? ⟨wi.heap.size, 3, none⟩ = some (.slice hg.h.A3 E.st.f3.length hg.h.c3) := (GG_16).out.cell 3
  have c_GG_4 : wm1.cell? ⟨wi.heap.size, 4, none⟩ = some (.slice hg.h.A4 E.st.f4.length hg.h.c4) := (GG_16).out.cell 4
  have c_GG_5 : wm1.cell? ⟨wi.heap.size, 5, none⟩ = some (.slice hg.k.A E.bs.length hg.k.c) := (GG_16).out.cell 5
  have l_GG : wi.heap.size < wm1.heap.size := (GG_16).out.lt
  go_wp2_with fail
  clear c_GW_0 c_GW_1 c_GW_2 c_GW_3 c_GW_4 c_GW_5 l_GW c_GG_0 c_GG_1 c_GG_2 c_GG_3 c_GG_4 c_GG_5 l_GG
  refine (eqBuf_any hg hw E E wm1 wm1.heap.size ((G0_16).out.rd.up (Below.refl wm1.heap.size wm1) (by omega) (by omega)) ((W0_16).out.rd.up (Below.refl wm1.heap.size wm1) (by omega) (by omega)) (Nat.le_refl _) (BufS_L HSE.out) (BufS_L HSE.out) true (Lib.hid (by simp))).mono ?_
  rintro e wq1 ⟨rfl, hbq⟩
  have sz_17 := (hbq).size
  have F0_17 := Lib.hid ((F0_16).out.below hbq (F0_16).out.lt)
  clear F0_16
  have R0_17 := Lib.hid ((R0_16).out.below hbq (by omega))
  clear R0_16
  have R1_17 := Lib.hid ((R1_16).out.below hbq (by omega))
  clear R1_16
  have BEL_17 := Lib.hid (below_on (BEL_16).out hbq)
  clear BEL_16
  have W0_17 := Lib.hid ((W0_16).out.below hbq (by omega))
  clear W0_16
  have GW_17 := Lib.hid ((GW_16).out.below hbq (GW_16).out.lt)
  clear GW_16
  have X0_17 := Lib.hid ((X0_16).out.below hbq (X0_16).out.lt)
  clear X0_16
  have G0_17 := Lib.hid ((G0_16).out.below hbq (by omega))
  clear G0_16
  have GG_17 := Lib.hid ((GG_16).out.below hbq (GG_16).out.lt)
  clear GG_16
  clear hbq
  have c_GG_0 : wq1.cell? ⟨wi.heap.size, 0, none⟩ = some (.slice hg.h.A0 E.st.f0.length hg.h.c0) := (GG_17).out.cell 0
  have c_GG_1 : wq1.cell? ⟨wi.heap.size, 1, none⟩ = some (.slice hg.h.A1 E.st.f1.length hg.h.c1) := (GG_17).out.cell 1
  have c_GG_2 : wq1.cell? ⟨wi.heap.size, 2, none⟩ = some (.slice hg.h.A2 E.st.f2.length hg.h.c2) := (GG_17).out.cell 2
  have c_GG_3 : wq1.cell? ⟨wi.heap.size, 3, none⟩ = some (.slice hg.h.A3 E.st.f3.length hg.h.c3) := (GG_17).out.cell 3
  have c_GG_4 : wq1.cell? ⟨wi.heap.size, 4, none⟩ = some (.slice hg.h.A4 E.st.f4.length hg.h.c4) := (GG_17).out.cell 4
  have c_GG_5 : wq1.cell? ⟨wi.heap.size, 5, none⟩ = some (.slice hg.k.A E.bs.length hg.k.c) := (GG_17).out.cell 5
  have l_GG : wi.heap.size < wq1.heap.size := (GG_17).out.lt
  go_wp2_with fail
  clear c_GG_0 c_GG_1 c_GG_2 c_GG_3 c_GG_4 c_GG_5 l_GG
  refine (markBuf_any hg E 1 wq1 wx1.heap.size wi.heap.size (G0_17).out (by omega) HSE.out (by omega) (by omega)).mono ?_
  rintro e wmg ⟨rfl, hom, owm⟩
  have sz_18 := (hom).size
  have F0_18 := Lib.hid (only_bk (F0_17).out hom (by omega))
  clear F0_17
  have R0_18 := Lib.hid ((R0_17).out.below ((hom).to_below (B := w.heap.size) (by omega) (by omega)) (Nat.le_refl _))
  clear R0_17
  have R1_18 := Lib.hid ((R1_17).out.below ((hom).to_below (B := w.heap.size) (by omega) (by omega)) (Nat.le_refl _))
  clear R1_17
  have BEL_18 := Lib.hid ((BEL_17).out.trans ((hom).to_below (by omega) (by omega)))
  clear BEL_17
  have W0_18 := Lib.hid ((W0_17).out.keep (Nat.le_refl _) (Nat.le_refl _) fun i h1 h2 => (hom).block i (by omega) (by omega))
  clear W0_17
  have GW_18 := Lib.hid (only_bk (GW_17).out hom (by omega))
  clear GW_17
  have X0_18 := Lib.hid (only_bk (X0_17).out hom (by omega))
  clear X0_17
  clear G0_17
  have GG_18 := Lib.hid (only_bk (GG_17).out hom (by omega))
  clear GG_17
  have M0_18 := Lib.hid (owm)
  clear hom owm
  have aE : 0 ≤ allBuf E ∧ allBuf E ≤ 9000000 := by
    have t0 := allSta_le HSE.out.s
    have t1 := HSE.out.b.l1
    unfold allBuf allIss; omega
  have c_GG_0 : wmg.cell? ⟨wi.heap.size, 0, none⟩ = some (.slice hg.h.A0 E.st.f0.length hg.h.c0) := (GG_18).out.cell 0
  have c_GG_1 : wmg.cell? ⟨wi.heap.size, 1, none⟩ = some (.slice hg.h.A1 E.st.f1.length hg.h.c1) := (GG_18).out.cell 1
  have c_GG_2 : wmg.cell? ⟨wi.heap.size, 2, none⟩ = some (.slice hg.h.A2 E.st.f2.length hg.h.c2) := (GG_18).out.cell 2
  have c_GG_3 : wmg.cell? ⟨wi.heap.size, 3, none⟩ = some (.slice hg.h.A3 E.st.f3.length hg.h.c3) := (GG_18).out.cell 3
  have c_GG_4 : wmg.cell? ⟨wi.heap.size, 4, none⟩ = some (.slice hg.h.A4 E.st.f4.length hg.h.c4) := (GG_18).out.cell 4
  have c_GG_5 : wmg.cell? ⟨wi.heap.size, 5, none⟩ = some (.slice hg.k.A E.bs.length hg.k.c) := (GG_18).out.cell 5
  have l_GG : wi.heap.size < wmg.heap.size := (GG_18).out.lt
  go_wp2_with fail
  clear c_GG_0 c_GG_1 c_GG_2 c_GG_3 c_GG_4 c_GG_5 l_GG
  refine (heldBuf_any hg E 1 wmg _ (M0_18).out.rd (by omega) HSE.out (by omega) (by omega)).mono ?_
  rintro e wh0 ⟨rfl, hbh⟩
  have sz_19 := (hbh).size
  have F0_19 := Lib.hid ((F0_18).out.below hbh (F0_18).out.lt)
  clear F0_18
  have R0_19 := Lib.hid ((R0_18).out.below hbh (by omega))
  clear R0_18
  have R1_19 := Lib.hid ((R1_18).out.below hbh (by omega))
  clear R1_18
  have BEL_19 := Lib.hid (below_on (BEL_18).out hbh)
  clear BEL_18
  have W0_19 := Lib.hid ((W0_18).out.below hbh (by omega))
  clear W0_18
  have GW_19 := Lib.hid ((GW_18).out.below hbh (GW_18).out.lt)
  clear GW_18
  have X0_19 := Lib.hid ((X0_18).out.below hbh (X0_18).out.lt)
  clear X0_18
  have GG_19 := Lib.hid ((GG_18).out.below hbh (GG_18).out.lt)
  clear GG_18
  have M0_19 := Lib.hid ((M0_18).out.below hbh (by omega))
  clear M0_18
  clear hbh
  have c_F0_0 : wh0.cell? ⟨w.heap.size, 0, none⟩ = some (.slice h0.A o0.length h0.c) := (F0_19).out.cell 0
  have l_F0 : w.heap.size < wh0.heap.size := (F0_19).out.lt
  go_wp2_with fail
  clear c_F0_0 l_F0
  refine (toPg_any h0 o0 wh0 w.heap.size (R0_19).out (by omega) HS0.out).mono ?_
  rintro e wt20 ⟨s0, rfl, hbt, hlt, owt⟩
  have sz_20 := (hbt).size
  have F0_20 := Lib.hid ((F0_19).out.below hbt (F0_19).out.lt)
  clear F0_19
  have R0_20 := Lib.hid ((R0_19).out.below hbt (by omega))
  clear R0_19
  have R1_20 := Lib.hid ((R1_19).out.below hbt (by omega))
  clear R1_19
  have BEL_20 := Lib.hid (below_on (BEL_19).out hbt)
  clear BEL_19
  have W0_20 := Lib.hid ((W0_19).out.below hbt (by omega))
  clear W0_19
  have GW_20 := Lib.hid ((GW_19).out.below hbt (GW_19).out.lt)
  clear GW_19
  have X0_20 := Lib.hid ((X0_19).out.below hbt (X0_19).out.lt)
  clear X0_19
  have GG_20 := Lib.hid ((GG_19).out.below hbt (GG_19).out.lt)
  clear GG_19
  have M0_20 := Lib.hid ((M0_19).out.below hbt (by omega))
  clear M0_19
  have T0_20 := Lib.hid (owt.rd)
  clear hbt hlt owt
  go_wp2_with fail
  refine (toIs_any h1 o1 wt20 w.heap.size (R1_20).out (by omega) HS1.out).mono ?_
  rintro e wt21 ⟨s1, rfl, hbt, hlt, owt⟩
  have sz_21 := (hbt).size
  have F0_21 := Lib.hid ((F0_20).out.below hbt (F0_20).out.lt)
  clear F0_20
  have R0_21 := Lib.hid ((R0_20).out.below hbt (by omega))
  clear R0_20
  have R1_21 := Lib.hid ((R1_20).out.below hbt (by omega))
  clear R1_20
  have BEL_21 := Lib.hid (below_on (BEL_20).out hbt)
  clear BEL_20
  have W0_21 := Lib.hid ((W0_20).out.below hbt (by omega))
  clear W0_20
  have GW_21 := Lib.hid ((GW_20).out.below hbt (GW_20).out.lt)
  clear GW_20
  have X0_21 := Lib.hid ((X0_20).out.below hbt (X0_20).out.lt)
  clear X0_20
  have GG_21 := Lib.hid ((GG_20).out.below hbt (GG_20).out.lt)
  clear GG_20
  have M0_21 := Lib.hid ((M0_20).out.below hbt (by omega))
  clear M0_20
  have T0_21 := Lib.hid ((T0_20).out.below hbt (by omega))
  clear T0_20
  have T1_21 := Lib.hid (owt.rd)
  clear hbt hlt owt
  go_wp2_with fail
  have hs := ibplay_any s0 o0 s1 o1 wt21 wt21.heap.size ((T0_21).out.up (Below.refl wt21.heap.size wt21) (by omega) (by omega)) ((T1_21).out.up (Below.refl wt21.heap.size wt21) (by omega) (by omega)) (Nat.le_refl _) HS0.out HS1.out
  rw [HE.out, HR.out] at hs
  refine hs.mono ?_
  clear hs
  rintro e wj ⟨hh, rfl, hba, hla, owa⟩
  have sz_22 := (hba).size
  have F0_22 := Lib.hid ((F0_21).out.below hba (F0_21).out.lt)
  clear F0_21
  have R0_22 := Lib.hid ((R0_21).out.below hba (by omega))
  clear R0_21
  have R1_22 := Lib.hid ((R1_21).out.below hba (by omega))
  clear R1_21
  have BEL_22 := Lib.hid (below_on (BEL_21).out hba)
  clear BEL_21
  have W0_22 := Lib.hid ((W0_21).out.below hba (by omega))
  clear W0_21
  have GW_22 := Lib.hid ((GW_21).out.below hba (GW_21).out.lt)
  clear GW_21
  have X0_22 := Lib.hid ((X0_21).out.below hba (X0_21).out.lt)
  clear X0_21
  have GG_22 := Lib.hid ((GG_21).out.below hba (GG_21).out.lt)
  clear GG_21
  have M0_22 := Lib.hid ((M0_21).out.below hba (by omega))
  clear M0_21
  have T0_22 := Lib.hid ((T0_21).out.below hba (by omega))
  clear T0_21
  have T1_22 := Lib.hid ((T1_21).out.below hba (by omega))
  clear T1_21
  have H0_22 := Lib.hid (owa)
  clear hba hla owa
  clear T0_22
  clear T1_22
  have c_GW_0 : wj.cell? ⟨wu.heap.size, 0, none⟩ = some (.slice hw.h.A0 E.st.f0.length hw.h.c0) := (GW_22).out.cell 0
  have c_GW_1 : wj.cell? ⟨wu.heap.size, 1, none⟩ = some (.slice hw.h.A1 E.st.f1.length hw.h.c1) := (GW_22).out.cell 1
  have c_GW_2 : wj.cell? ⟨wu.heap.size, 2, none⟩ = some (.slice hw.h.A2 E.st.f2.length hw.h.c2) := (GW_22).out.cell 2
  have c_GW_3 : wj.cell? ⟨wu.heap.size, 3, none⟩ = some (.slice hw.h.A3 E.st.f3.length hw.h.c3) := (GW_22).out.cell 3
  have c_GW_4 : wj.cell? ⟨wu.heap.size, 4, none⟩ = some (.slice hw.h.A4 E.st.f4.length hw.h.c4) := (GW_22).out.cell 4
  have c_GW_5 : wj.cell? ⟨wu.heap.size, 5, none⟩ = some (.slice hw.k.A E.bs.length hw.k.c) := (GW_22).out.cell 5
  have l_GW : wu.heap.size < wj.heap.size := (GW_22).out.lt
  go_wp2_with fail
  clear c_GW_0 c_GW_1 c_GW_2 c_GW_3 c_GW_4 c_GW_5 l_GW
  obtain ⟨VH, hVH⟩ : ∃ V, V = wj.alloc (.cells #[.slice hh.h.A0 E.st.f0.length hh.h.c0, .slice hh.h.A1 E.st.f1.length hh.h.c1, .slice hh.h.A2 E.st.f2.length hh.h.c2, .slice hh.h.A3 E.st.f3.length hh.h.c3, .slice hh.h.A4 E.st.f4.length hh.h.c4, .slice hh.k.A E.bs.length hh.k.c] 59) := ⟨_, rfl⟩
  rw [← hVH]
  have bVH : Below wj.heap.size wj VH := by rw [hVH]; go_grown
  have zVH : VH.heap.size = wj.heap.size + 1 := by rw [hVH]; simp
  have kVH : Bk VH wj.heap.size 59 #[.slice hh.h.A0 E.st.f0.length hh.h.c0, .slice hh.h.A1 E.st.f1.length hh.h.c1, .slice hh.h.A2 E.st.f2.length hh.h.c2, .slice hh.h.A3 E.st.f3.length hh.h.c3, .slice hh.h.A4 E.st.f4.length hh.h.c4, .slice hh.k.A E.bs.length hh.k.c] := by rw [hVH]; exact Bk.new _ _ _
  have zVHa := Nat.le_of_eq zVH
  have zVHb := Nat.le_of_eq zVH.symm
  clear zVH
  have sz_23 := (bVH).size
  have F0_23 := Lib.hid ((F0_22).out.below bVH (F0_22).out.lt)
  clear F0_22
  have R0_23 := Lib.hid ((R0_22).out.below bVH (by omega))
  clear R0_22
  have R1_23 := Lib.hid ((R1_22).out.below bVH (by omega))
  clear R1_22
  have BEL_23 := Lib.hid (below_on (BEL_22).out bVH)
  clear BEL_22
  have W0_23 := Lib.hid ((W0_22).out.below bVH (by omega))
  clear W0_22
  have GW_23 := Lib.hid ((GW_22).out.below bVH (GW_22).out.lt)
  clear GW_22
  have X0_23 := Lib.hid ((X0_22).out.below bVH (X0_22).out.lt)
  clear X0_22
  have GG_23 := Lib.hid ((GG_22).out.below bVH (GG_22).out.lt)
  clear GG_22
  have M0_23 := Lib.hid ((M0_22).out.below bVH (by omega))
  clear M0_22
  have H0_23 := Lib.hid ((H0_22).out.below bVH (by omega))
  clear H0_22
  have GH_23 := Lib.hid (kVH)
  clear hVH bVH kVH
  refine (eqBuf_any hh hw E E VH VH.heap.size ((H0_23).out.rd.up (Below.refl VH.heap.size VH) (by omega) (by omega)) ((W0_23).out.rd.up (Below.refl VH.heap.size VH) (by omega) (by omega)) (Nat.le_refl _) (BufS_L HSE.out) (BufS_L HSE.out) true (Lib.hid (by simp))).mono ?_
  rintro e wq2 ⟨rfl, hbq⟩
  have sz_24 := (hbq).size
  have F0_24 := Lib.hid ((F0_23).out.below hbq (F0_23).out.lt)
  clear F0_23
  have R0_24 := Lib.hid ((R0_23).out.below hbq (by omega))
  clear R0_23
  have R1_24 := Lib.hid ((R1_23).out.below hbq (by omega))
  clear R1_23
  have BEL_24 := Lib.hid (below_on (BEL_23).out hbq)
  clear BEL_23
  have W0_24 := Lib.hid ((W0_23).out.below hbq (by omega))
  clear W0_23
  have GW_24 := Lib.hid ((GW_23).out.below hbq (GW_23).out.lt)
  clear GW_23
  have X0_24 := Lib.hid ((X0_23).out.below hbq (X0_23).out.lt)
  clear X0_23
  have GG_24 := Lib.hid ((GG_23).out.below hbq (GG_23).out.lt)
  clear GG_23
  have M0_24 := Lib.hid ((M0_23).out.below hbq (by omega))
  clear M0_23
  have H0_24 := Lib.hid ((H0_23).out.below hbq (by omega))
  clear H0_23
  have GH_24 := Lib.hid ((GH_23).out.below hbq (GH_23).out.lt)
  clear GH_23
  clear hbq
  have c_GG_0 : wq2.cell? ⟨wi.heap.size, 0, none⟩ = some (.slice hg.h.A0 E.st.f0.length hg.h.c0) := (GG_24).out.cell 0
  have c_GG_1 : wq2.cell? ⟨wi.heap.size, 1, none⟩ = some (.slice hg.h.A1 E.st.f1.length hg.h.c1) := (GG_24).out.cell 1
  have c_GG_2 : wq2.cell? ⟨wi.heap.size, 2, none⟩ = some (.slice hg.h.A2 E.st.f2.length hg.h.c2) := (GG_24).out.cell 2
  have c_GG_3 : wq2.cell? ⟨wi.heap.size, 3, none⟩ = some (.slice hg.h.A3 E.st.f3.length hg.h.c3) := (GG_24).out.cell 3
  have c_GG_4 : wq2.cell? ⟨wi.heap.size, 4, none⟩ = some (.slice hg.h.A4 E.st.f4.length hg.h.c4) := (GG_24).out.cell 4
  have c_GG_5 : wq2.cell? ⟨wi.heap.size, 5, none⟩ = some (.slice hg.k.A E.bs.length hg.k.c) := (GG_24).out.cell 5
  have l_GG : wi.heap.size < wq2.heap.size := (GG_24).out.lt
  go_wp2_with fail
  clear c_GG_0 c_GG_1 c_GG_2 c_GG_3 c_GG_4 c_GG_5 l_GG
  refine (heldBuf_any hg E 1 wq2 _ (M0_24).out.rd (by omega) HSE.out (by omega) (by omega)).mono ?_
  rintro e wh1 ⟨rfl, hbh⟩
  have sz_25 := (hbh).size
  have F0_25 := Lib.hid ((F0_24).out.below hbh (F0_24).out.lt)
  clear F0_24
  have R0_25 := Lib.hid ((R0_24).out.below hbh (by omega))
  clear R0_24
  have R1_25 := Lib.hid ((R1_24).out.below hbh (by omega))
  clear R1_24
  have BEL_25 := Lib.hid (below_on (BEL_24).out hbh)
  clear BEL_24
  have W0_25 := Lib.hid ((W0_24).out.below hbh (by omega))
  clear W0_24
  have GW_25 := Lib.hid ((GW_24).out.below hbh (GW_24).out.lt)
  clear GW_24
  have X0_25 := Lib.hid ((X0_24).out.below hbh (X0_24).out.lt)
  clear X0_24
  have GG_25 := Lib.hid ((GG_24).out.below hbh (GG_24).out.lt)
  clear GG_24
  have M0_25 := Lib.hid ((M0_24).out.below hbh (by omega))
  clear M0_24
  have H0_25 := Lib.hid ((H0_24).out.below hbh (by omega))
  clear H0_24
  have GH_25 := Lib.hid ((GH_24).out.below hbh (GH_24).out.lt)
  clear GH_24
  clear hbh
  have hfin := (BEL_25).out
  go_wp2
  go_ret
  exact ⟨rfl, hfin⟩
end Go.Proofs.Ytnadihepgmbhaaa
