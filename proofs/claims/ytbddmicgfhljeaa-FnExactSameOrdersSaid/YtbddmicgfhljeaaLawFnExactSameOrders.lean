/-
  At every program and every two orders, SameOrders answers as its reference model does, and the arguments read afterwards as they did before. No condition.
-/
import Derived.Test.YtbddmicgfhljeaaLeaO
import Derived.Deep.RegionHeld3
import Derived.Test.YtbddmicgfhljeaaOpenIs
import Derived.Test.YtbddmicgfhljeaaOpenP
namespace Go.Proofs.Ytbddmicgfhljeaa
open Go.RowKit Pl
set_option maxHeartbeats 4000000
set_option maxRecDepth 100000
set_option linter.unusedVariables false

def sameB (L : Pg) (xs ys : List Int) : Bool := evR L xs && (evR L ys && wayL (leaE L xs) (leaE L ys) == 0)
theorem isame_any (h : PgH) (L : Pg) (k1 : IsH) (xs : List Int) (k2 : IsH) (ys : List Int) (w : World) (B : Nat) (hP : PgR w B h L) (hV : IsR w B k1 xs) (hV2 : IsR w B k2 ys) (hB : B ≤ w.heap.size) (SP : PgS L) (LS : IsS xs) (LS2 : IsS ys) (r : Bool) (hr : Hid (sameB L xs ys = r)) :
    Calls Try.prog 47 #[PgV h L, IsV k1 xs, IsV k2 ys] w fun e w' => e = .returned (.bool r) ∧ Below w.heap.size w w' := by
  obtain ⟨W, hW⟩ : ∃ W, W = w.alloc (.cells #[.slice h.A L.length h.c] 32) := ⟨_, rfl⟩
  have bW : Below w.heap.size w W := by rw [hW]; go_grown
  have KW := Lib.hid (show Bk W w.heap.size 32 #[.slice h.A L.length h.c] by rw [hW]; exact Bk.new _ _ _)
  have RW := Lib.hid (hP.below bW hB)
  have VW := Lib.hid (hV.below bW hB)
  have VW2 := Lib.hid (hV2.below bW hB)
  have BW := Lib.hid bW
  have hBW : B ≤ W.heap.size := Nat.le_trans hB bW.size
  have HW := Lib.hid hW
  have s1 := leaE_small SP LS
  have s2 := leaE_small SP LS2
  have hl1 := ileast_order h L k1 xs W B RW.out VW.out hBW SP LS
  have hr0 := hr.out
  unfold sameB at hr0
  clear hr
  have HL2 := Lib.hid (fun (w1 : World) (hb : Below W.heap.size W w1) => ileast_order h L k2 ys w1 B (RW.out.below hb hBW) (VW2.out.below hb hBW) (Nat.le_trans hBW hb.size) SP LS2)
  generalize leaE L xs = l1 at hl1 hr0 s1
  generalize evR L xs = e1 at hl1 hr0
  generalize leaE L ys = l2 at HL2 hr0 s2
  generalize evR L ys = e2 at HL2 hr0
  obtain ⟨z, hz⟩ : ∃ z, wayL l1 l2 = z := ⟨_, rfl⟩
  rw [hz] at hr0
  have HZ := Lib.hid hz
  have m1 : l1.length ≤ maxLen := (IlS_L s1).l0
  have m2 : l2.length ≤ maxLen := (IlS_L s2).l0
  clear hW bW hP hV hV2 hz s1 s2
  have cP := KW.out.cell 0
  have lP := KW.out.lt
  go_enter Try.func47, Try.ntmps47
  go_wp2_with fail
  rw [← HW.out]
  go_wp2_with fail
  refine hl1.mono ?_
  clear hl1 cP lP
  rintro e w1 ⟨⟨A1, c1⟩, he, hb1, hz1, ho1⟩
  have he : e = .returned (.tuple #[.slice A1 l1.length c1, .bool e1]) := he
  subst he
  have B1 := Lib.hid (below_on BW.out hb1)
  have O1 := Lib.hid ho1
  have cP := (KW.out.below hb1 KW.out.lt).cell 0
  have lP := (KW.out.below hb1 KW.out.lt).lt
  have hl2 := HL2.out w1 hb1
  clear hb1 ho1 HL2
  go_wp2_with fail
  refine hl2.mono ?_
  clear hl2 cP lP
  rintro e w2 ⟨⟨A2, c2⟩, he, hb2, hz2, ho2⟩
  have he : e = .returned (.tuple #[.slice A2 l2.length c2, .bool e2]) := he
  subst he
  have B2 := Lib.hid (below_on B1.out hb2)
  have V1 := Lib.hid (show Vs w2 w2.heap.size A1 (ints l1) from (O1.out.o0.vs).up hb2 (Nat.le_refl _) hb2.size)
  have V2 := Lib.hid (show Vs w2 w2.heap.size A2 (ints l2) from ho2.o0.vs)
  clear hb2 ho2
  have HWAY := Lib.hid (listord_any A1 A2 l1 l2 c1 c2 w2 w2.heap.size V1.out V2.out m1 m2 z HZ)
  cases e1 <;> cases e2
  all_goals
    simp only [Bool.false_and, Bool.true_and] at hr0
    subst hr0
    go_wp2_with (go_at_call 92; refine HWAY.out.mono ?_; rintro e w3 ⟨rfl, hb3⟩; have B3 := Lib.hid (below_on B2.out hb3); clear hb3)
    go_ret
    first | exact ⟨rfl, B2.out⟩ | exact ⟨rfl, B3.out⟩
theorem ssame_any (h : PgH) (L : Pg) (k1 : IsH) (xs : List Int) (k2 : IsH) (ys : List Int) (w : World) (B : Nat) (hP : PgR w B h L) (hV : IsR w B k1 xs) (hV2 : IsR w B k2 ys) (hB : B ≤ w.heap.size) (SP : PgS L) (LS : IsS xs) (LS2 : IsS ys) (r : Bool) (hr : Hid (sameB L xs ys = r)) :
    Calls Try.prog 46 #[PgV h L, IsV k1 xs, IsV k2 ys] w fun e w' => e = .returned (.bool r) ∧ Below w.heap.size w w' := by
  obtain ⟨W, hW⟩ : ∃ W, W = w.alloc (.cells #[.slice h.A L.length h.c] 32) := ⟨_, rfl⟩
  have bW : Below w.heap.size w W := by rw [hW]; go_grown
  have KW := Lib.hid (show Bk W w.heap.size 32 #[.slice h.A L.length h.c] by rw [hW]; exact Bk.new _ _ _)
  have RW := Lib.hid (hP.below bW hB)
  have VW := Lib.hid (hV.below bW hB)
  have VW2 := Lib.hid (hV2.below bW hB)
  have BW := Lib.hid bW
  have hBW : B ≤ W.heap.size := Nat.le_trans hB bW.size
  have HW := Lib.hid hW
  have s1 := leaE_small SP LS
  have s2 := leaE_small SP LS2
  have hl1 := sleast_order h L k1 xs W B RW.out VW.out hBW SP LS
  have hr0 := hr.out
  unfold sameB at hr0
  clear hr
  have HL2 := Lib.hid (fun (w1 : World) (hb : Below W.heap.size W w1) => sleast_order h L k2 ys w1 B (RW.out.below hb hBW) (VW2.out.below hb hBW) (Nat.le_trans hBW hb.size) SP LS2)
  generalize leaE L xs = l1 at hl1 hr0 s1
  generalize evR L xs = e1 at hl1 hr0
  generalize leaE L ys = l2 at HL2 hr0 s2
  generalize evR L ys = e2 at HL2 hr0
  obtain ⟨z, hz⟩ : ∃ z, wayL l1 l2 = z := ⟨_, rfl⟩
  rw [hz] at hr0
  have HZ := Lib.hid hz
  have m1 : l1.length ≤ maxLen := (IlS_L s1).l0
  have m2 : l2.length ≤ maxLen := (IlS_L s2).l0
  clear hW bW hP hV hV2 hz s1 s2
  have cP := KW.out.cell 0
  have lP := KW.out.lt
  go_enter Try.func46, Try.ntmps46
  go_wp2_with fail
  rw [← HW.out]
  go_wp2_with fail
  refine hl1.mono ?_
  clear hl1 cP lP
  rintro e w1 ⟨⟨A1, c1⟩, he, hb1, hz1, ho1⟩
  have he : e = .returned (.tuple #[.slice A1 l1.length c1, .bool e1]) := he
  subst he
  have B1 := Lib.hid (below_on BW.out hb1)
  have O1 := Lib.hid ho1
  have cP := (KW.out.below hb1 KW.out.lt).cell 0
  have lP := (KW.out.below hb1 KW.out.lt).lt
  have hl2 := HL2.out w1 hb1
  clear hb1 ho1 HL2
  go_wp2_with fail
  refine hl2.mono ?_
  clear hl2 cP lP
  rintro e w2 ⟨⟨A2, c2⟩, he, hb2, hz2, ho2⟩
  have he : e = .returned (.tuple #[.slice A2 l2.length c2, .bool e2]) := he
  subst he
  have B2 := Lib.hid (below_on B1.out hb2)
  have V1 := Lib.hid (show Vs w2 w2.heap.size A1 (ints l1) from (O1.out.o0.vs).up hb2 (Nat.le_refl _) hb2.size)
  have V2 := Lib.hid (show Vs w2 w2.heap.size A2 (ints l2) from ho2.o0.vs)
  clear hb2 ho2
  have HWAY := Lib.hid (sway_any A1 A2 l1 l2 c1 c2 w2 w2.heap.size V1.out V2.out m1 m2 z HZ)
  cases e1 <;> cases e2
  all_goals
    simp only [Bool.false_and, Bool.true_and] at hr0
    subst hr0
    go_wp2_with (go_at_call 91; refine HWAY.out.mono ?_; rintro e w3 ⟨rfl, hb3⟩; have B3 := Lib.hid (below_on B2.out hb3); clear hb3)
    go_ret
    first | exact ⟨rfl, B2.out⟩ | exact ⟨rfl, B3.out⟩
end Go.Proofs.Ytbddmicgfhljeaa
namespace Go.Proofs.Ytbddmicgfhljeaa
open Go.RowKit Pl Go.BigFrame
set_option maxHeartbeats 8000000
set_option maxRecDepth 100000
set_option linter.unusedVariables false

theorem lwSameOrders (h0 : PgH) (o0 : Pg) (h1 : IsH) (o1 : Is) (h2 : IsH) (o2 : Is) (w : World) (hR0 : PgR w w.heap.size h0 o0) (hL0 : PgL o0 maxLen) (hR1 : IsR w w.heap.size h1 o1) (hL1 : IsL o1 maxLen) (hR2 : IsR w w.heap.size h2 o2) (hL2 : IsL o2 maxLen) :
    Calls Try.prog 9 #[PgV h0 o0, IsV h1 o1, IsV h2 o2] w fun e w' => e = .returned (.bool true) ∧ Below w.heap.size w w' := by
  obtain ⟨W, hW⟩ : ∃ W, W = (w.alloc (.cells #[.slice h0.A o0.length h0.c] 24)) := ⟨_, rfl⟩
  have hbW : Below w.heap.size w W := by rw [hW]; go_grown
  have hsW : W.heap.size = w.heap.size + 1 := by rw [hW]; simp
  have k0 : Bk W (w.heap.size) 24 #[.slice h0.A o0.length h0.c] := by
    rw [hW]; have := Bk.new w #[.slice h0.A o0.length h0.c] 24
    exact this
  have HW := Lib.hid hW
  have F0_0 := Lib.hid (k0)
  have R0_0 := Lib.hid (hR0.below hbW (Nat.le_refl _))
  have R1_0 := Lib.hid (hR1.below hbW (Nat.le_refl _))
  have R2_0 := Lib.hid (hR2.below hbW (Nat.le_refl _))
  have BEL_0 := Lib.hid (hbW)
  have hsWa := Nat.le_of_eq hsW
  have hsWb := Nat.le_of_eq hsW.symm
  clear hW hsW hbW k0 hR0 hR1 hR2
  obtain ⟨z0, hz0⟩ : ∃ z, szPg 1048576 o0 = z := ⟨_, rfl⟩
  have Z0 := Lib.hid hz0
  clear hz0
  have u0 : -1 ≤ z0 ∧ z0 ≤ 1048576 := by rw [← Z0.out]; exact szPg_ge _ _ (by omega)
  by_cases n1 : (1048576 : Int) < (o1.length : Int)
  · go_enter Try.func9, Try.ntmps9
    go_wp2
    rw [← HW.out]
    go_ret
    exact ⟨rfl, (BEL_0).out⟩
  have HS1 := Lib.hid (show IsS o1 from ⟨by omega⟩)
  by_cases n2 : (1048576 : Int) < (o2.length : Int)
  · go_enter Try.func9, Try.ntmps9
    go_wp2
    rw [← HW.out]
    go_ret
    exact ⟨rfl, (BEL_0).out⟩
  have HS2 := Lib.hid (show IsS o2 from ⟨by omega⟩)
  by_cases n0 : z0 < 0
  · skip
    go_enter Try.func9, Try.ntmps9
    go_wp2_with fail
    rw [← HW.out]
    refine (szPg_any h0 o0 1048576 W w.heap.size (R0_0).out (by omega) hL0 (by omega) (by omega) z0 Z0).mono ?_
    rintro e ws0 ⟨rfl, hbs0⟩
    have sz_1 := (hbs0).size
    have F0_1 := Lib.hid ((F0_0).out.below hbs0 (F0_0).out.lt)
    clear F0_0
    have R0_1 := Lib.hid ((R0_0).out.below hbs0 (by omega))
    clear R0_0
    have R1_1 := Lib.hid ((R1_0).out.below hbs0 (by omega))
    clear R1_0
    have R2_1 := Lib.hid ((R2_0).out.below hbs0 (by omega))
    clear R2_0
    have BEL_1 := Lib.hid (below_on (BEL_0).out hbs0)
    clear BEL_0
    clear hbs0
    go_wp2
    go_ret
    exact ⟨rfl, (BEL_1).out⟩
  have S0 : PgS o0 := szPg_small (by rw [Z0.out]; omega) (by omega) (by omega)
  have HS0 := Lib.hid S0
  clear S0
  obtain ⟨r, hr⟩ : ∃ r, sameB o0 o1 o2 = r := ⟨_, rfl⟩
  have HR := Lib.hid hr
  clear hr
  go_enter Try.func9, Try.ntmps9
  go_wp2_with fail
  rw [← HW.out]
  refine (szPg_any h0 o0 1048576 W w.heap.size (R0_0).out (by omega) hL0 (by omega) (by omega) z0 Z0).mono ?_
  rintro e ws0 ⟨rfl, hbs0⟩
  have sz_1 := (hbs0).size
  have F0_1 := Lib.hid ((F0_0).out.below hbs0 (F0_0).out.lt)
  clear F0_0
  have R0_1 := Lib.hid ((R0_0).out.below hbs0 (by omega))
  clear R0_0
  have R1_1 := Lib.hid ((R1_0).out.below hbs0 (by omega))
  clear R1_0
  have R2_1 := Lib.hid ((R2_0).out.below hbs0 (by omega))
  clear R2_0
  have BEL_1 := Lib.hid (below_on (BEL_0).out hbs0)
  clear BEL_0
  clear hbs0
  have c_F0_0 : ws0.cell? ⟨w.heap.size, 0, none⟩ = some (.slice h0.A o0.length h0.c) := (F0_1).out.cell 0
  have l_F0 : w.heap.size < ws0.heap.size := (F0_1).out.lt
  go_wp2_with fail
  clear c_F0_0 l_F0
  refine (toPg_any h0 o0 ws0 w.heap.size (R0_1).out (by omega) HS0.out).mono ?_
  rintro e wt0 ⟨t0, rfl, hbt, hlt, owt⟩
  have sz_2 := (hbt).size
  have F0_2 := Lib.hid ((F0_1).out.below hbt (F0_1).out.lt)
  clear F0_1
  have R0_2 := Lib.hid ((R0_1).out.below hbt (by omega))
  clear R0_1
  have R1_2 := Lib.hid ((R1_1).out.below hbt (by omega))
  clear R1_1
  have R2_2 := Lib.hid ((R2_1).out.below hbt (by omega))
  clear R2_1
  have BEL_2 := Lib.hid (below_on (BEL_1).out hbt)
  clear BEL_1
  have T0_2 := Lib.hid (owt.rd)
  clear hbt hlt owt
  go_wp2_with fail
  refine (toIs_any h1 o1 wt0 w.heap.size (R1_2).out (by omega) HS1.out).mono ?_
  rintro e wt1 ⟨t1, rfl, hbt, hlt, owt⟩
  have sz_3 := (hbt).size
  have F0_3 := Lib.hid ((F0_2).out.below hbt (F0_2).out.lt)
  clear F0_2
  have R0_3 := Lib.hid ((R0_2).out.below hbt (by omega))
  clear R0_2
  have R1_3 := Lib.hid ((R1_2).out.below hbt (by omega))
  clear R1_2
  have R2_3 := Lib.hid ((R2_2).out.below hbt (by omega))
  clear R2_2
  have BEL_3 := Lib.hid (below_on (BEL_2).out hbt)
  clear BEL_2
  have T0_3 := Lib.hid ((T0_2).out.below hbt (by omega))
  clear T0_2
  have T1_3 := Lib.hid (owt.rd)
  clear hbt hlt owt
  go_wp2_with fail
  refine (toIs_any h2 o2 wt1 w.heap.size (R2_3).out (by omega) HS2.out).mono ?_
  rintro e wt2 ⟨t2, rfl, hbt, hlt, owt⟩
  have sz_4 := (hbt).size
  have F0_4 := Lib.hid ((F0_3).out.below hbt (F0_3).out.lt)
  clear F0_3
  have R0_4 := Lib.hid ((R0_3).out.below hbt (by omega))
  clear R0_3
  have R1_4 := Lib.hid ((R1_3).out.below hbt (by omega))
  clear R1_3
  have R2_4 := Lib.hid ((R2_3).out.below hbt (by omega))
  clear R2_3
  have BEL_4 := Lib.hid (below_on (BEL_3).out hbt)
  clear BEL_3
  have T0_4 := Lib.hid ((T0_3).out.below hbt (by omega))
  clear T0_3
  have T1_4 := Lib.hid ((T1_3).out.below hbt (by omega))
  clear T1_3
  have T2_4 := Lib.hid (owt.rd)
  clear hbt hlt owt
  go_wp2_with fail
  refine (ssame_any t0 o0 t1 o1 t2 o2 wt2 wt2.heap.size ((T0_4).out.up (Below.refl wt2.heap.size wt2) (by omega) (by omega)) ((T1_4).out.up (Below.refl wt2.heap.size wt2) (by omega) (by omega)) ((T2_4).out.up (Below.refl wt2.heap.size wt2) (by omega) (by omega)) (Nat.le_refl _) HS0.out HS1.out HS2.out r HR).mono ?_
  rintro e wu ⟨rfl, hbu⟩
  clear T0_4
  clear T1_4
  clear T2_4
  have sz_5 := (hbu).size
  have F0_5 := Lib.hid ((F0_4).out.below hbu (F0_4).out.lt)
  clear F0_4
  have R0_5 := Lib.hid ((R0_4).out.below hbu (by omega))
  clear R0_4
  have R1_5 := Lib.hid ((R1_4).out.below hbu (by omega))
  clear R1_4
  have R2_5 := Lib.hid ((R2_4).out.below hbu (by omega))
  clear R2_4
  have BEL_5 := Lib.hid (below_on (BEL_4).out hbu)
  clear BEL_4
  clear hbu
  have c_F0_0 : wu.cell? ⟨w.heap.size, 0, none⟩ = some (.slice h0.A o0.length h0.c) := (F0_5).out.cell 0
  have l_F0 : w.heap.size < wu.heap.size := (F0_5).out.lt
  go_wp2_with fail
  clear c_F0_0 l_F0
  refine (toPg_any h0 o0 wu w.heap.size (R0_5).out (by omega) HS0.out).mono ?_
  rintro e wx0 ⟨x0, rfl, hbx, hlx, own⟩
  have sz_6 := (hbx).size
  have F0_6 := Lib.hid ((F0_5).out.below hbx (F0_5).out.lt)
  clear F0_5
  have R0_6 := Lib.hid ((R0_5).out.below hbx (by omega))
  clear R0_5
  have R1_6 := Lib.hid ((R1_5).out.below hbx (by omega))
  clear R1_5
  have R2_6 := Lib.hid ((R2_5).out.below hbx (by omega))
  clear R2_5
  have BEL_6 := Lib.hid (below_on (BEL_5).out hbx)
  clear BEL_5
  clear hbx hlx
  have Xo0_6 := Lib.hid (own)
  have Xr0_6 := Lib.hid (own.rd)
  clear own
  go_wp2_with fail
  obtain ⟨Vx0, hVx0⟩ : ∃ V, V = wx0.alloc (.cells #[.slice x0.A o0.length x0.c] 32) := ⟨_, rfl⟩
  rw [← hVx0]
  have bVx0 : Below wx0.heap.size wx0 Vx0 := by rw [hVx0]; go_grown
  have zVx0 : Vx0.heap.size = wx0.heap.size + 1 := by rw [hVx0]; simp
  have kVx0 : Bk Vx0 wx0.heap.size 32 #[.slice x0.A o0.length x0.c] := by rw [hVx0]; exact Bk.new _ _ _
  have zVx0a := Nat.le_of_eq zVx0
  have zVx0b := Nat.le_of_eq zVx0.symm
  clear zVx0
  have sz_7 := (bVx0).size
  have F0_7 := Lib.hid ((F0_6).out.below bVx0 (F0_6).out.lt)
  clear F0_6
  have R0_7 := Lib.hid ((R0_6).out.below bVx0 (by omega))
  clear R0_6
  have R1_7 := Lib.hid ((R1_6).out.below bVx0 (by omega))
  clear R1_6
  have R2_7 := Lib.hid ((R2_6).out.below bVx0 (by omega))
  clear R2_6
  have BEL_7 := Lib.hid (below_on (BEL_6).out bVx0)
  clear BEL_6
  have Xo0_7 := Lib.hid ((Xo0_6).out.below bVx0 (by omega))
  clear Xo0_6
  have Xr0_7 := Lib.hid ((Xr0_6).out.below bVx0 (by omega))
  clear Xr0_6
  have X0_7 := Lib.hid (kVx0)
  clear hVx0 bVx0 kVx0
  refine (toIs_any h1 o1 Vx0 w.heap.size (R1_7).out (by omega) HS1.out).mono ?_
  rintro e wx1 ⟨x1, rfl, hbx, hlx, own⟩
  have sz_8 := (hbx).size
  have F0_8 := Lib.hid ((F0_7).out.below hbx (F0_7).out.lt)
  clear F0_7
  have R0_8 := Lib.hid ((R0_7).out.below hbx (by omega))
  clear R0_7
  have R1_8 := Lib.hid ((R1_7).out.below hbx (by omega))
  clear R1_7
  have R2_8 := Lib.hid ((R2_7).out.below hbx (by omega))
  clear R2_7
  have BEL_8 := Lib.hid (below_on (BEL_7).out hbx)
  clear BEL_7
  have Xo0_8 := Lib.hid ((Xo0_7).out.below hbx (by omega))
  clear Xo0_7
  have Xr0_8 := Lib.hid ((Xr0_7).out.below hbx (by omega))
  clear Xr0_7
  have X0_8 := Lib.hid ((X0_7).out.below hbx (X0_7).out.lt)
  clear X0_7
  clear hbx hlx
  have Xo1_8 := Lib.hid (own)
  have Xr1_8 := Lib.hid (own.rd)
  clear own
  go_wp2_with fail
  refine (toIs_any h2 o2 wx1 w.heap.size (R2_8).out (by omega) HS2.out).mono ?_
  rintro e wx2 ⟨x2, rfl, hbx, hlx, own⟩
  have sz_9 := (hbx).size
  have F0_9 := Lib.hid ((F0_8).out.below hbx (F0_8).out.lt)
  clear F0_8
  have R0_9 := Lib.hid ((R0_8).out.below hbx (by omega))
  clear R0_8
  have R1_9 := Lib.hid ((R1_8).out.below hbx (by omega))
  clear R1_8
  have R2_9 := Lib.hid ((R2_8).out.below hbx (by omega))
  clear R2_8
  have BEL_9 := Lib.hid (below_on (BEL_8).out hbx)
  clear BEL_8
  have Xo0_9 := Lib.hid ((Xo0_8).out.below hbx (by omega))
  clear Xo0_8
  have Xr0_9 := Lib.hid ((Xr0_8).out.below hbx (by omega))
  clear Xr0_8
  have X0_9 := Lib.hid ((X0_8).out.below hbx (X0_8).out.lt)
  clear X0_8
  have Xo1_9 := Lib.hid ((Xo1_8).out.below hbx (by omega))
  clear Xo1_8
  have Xr1_9 := Lib.hid ((Xr1_8).out.below hbx (by omega))
  clear Xr1_8
  clear hbx hlx
  have Xo2_9 := Lib.hid (own)
  have Xr2_9 := Lib.hid (own.rd)
  clear own
  have c_X0_0 : wx2.cell? ⟨wx0.heap.size, 0, none⟩ = some (.slice x0.A o0.length x0.c) := (X0_9).out.cell 0
  have l_X0 : wx0.heap.size < wx2.heap.size := (X0_9).out.lt
  go_wp2_with fail
  clear c_X0_0 l_X0
  refine (isame_any x0 o0 x1 o1 x2 o2 wx2 wx2.heap.size ((Xr0_9).out.up (Below.refl wx2.heap.size wx2) (by omega) (by omega)) ((Xr1_9).out.up (Below.refl wx2.heap.size wx2) (by omega) (by omega)) ((Xr2_9).out.up (Below.refl wx2.heap.size wx2) (by omega) (by omega)) (Nat.le_refl _) HS0.out HS1.out HS2.out r HR).mono ?_
  rintro e wi ⟨rfl, hbi⟩
  have sz_10 := (hbi).size
  have F0_10 := Lib.hid ((F0_9).out.below hbi (F0_9).out.lt)
  clear F0_9
  have R0_10 := Lib.hid ((R0_9).out.below hbi (by omega))
  clear R0_9
  have R1_10 := Lib.hid ((R1_9).out.below hbi (by omega))
  clear R1_9
  have R2_10 := Lib.hid ((R2_9).out.below hbi (by omega))
  clear R2_9
  have BEL_10 := Lib.hid (below_on (BEL_9).out hbi)
  clear BEL_9
  have Xo0_10 := Lib.hid ((Xo0_9).out.below hbi (by omega))
  clear Xo0_9
  have Xr0_10 := Lib.hid ((Xr0_9).out.below hbi (by omega))
  clear Xr0_9
  have X0_10 := Lib.hid ((X0_9).out.below hbi (X0_9).out.lt)
  clear X0_9
  have Xo1_10 := Lib.hid ((Xo1_9).out.below hbi (by omega))
  clear Xo1_9
  have Xr1_10 := Lib.hid ((Xr1_9).out.below hbi (by omega))
  clear Xr1_9
  have Xo2_10 := Lib.hid ((Xo2_9).out.below hbi (by omega))
  clear Xo2_9
  have Xr2_10 := Lib.hid ((Xr2_9).out.below hbi (by omega))
  clear Xr2_9
  clear hbi
  have allS : ∀ w', Below wi.heap.size wi w' → (Below wi.heap.size wi w' ∧ w'.cell? ⟨wx0.heap.size, 0, none⟩ = some (.slice x0.A o0.length x0.c) ∧ w'.cell? ⟨w.heap.size, 0, none⟩ = some (.slice h0.A o0.length h0.c)) := fun w' hb => ⟨hb, ((X0_10).out.below hb (X0_10).out.lt).cell 0, ((F0_10).out.below hb (F0_10).out.lt).cell 0⟩
  have AllS := Lib.hid allS
  clear allS
  go_wp2_with fail
  go_region_held3 (fun w' => Below wi.heap.size wi w' ∧ w'.cell? ⟨wx0.heap.size, 0, none⟩ = some (.slice x0.A o0.length x0.c) ∧ w'.cell? ⟨w.heap.size, 0, none⟩ = some (.slice h0.A o0.length h0.c)) (first | (go_split_ands; exact AllS.out _ (by go_grown)) | (exact AllS.out _ (by go_grown))) (first | (go_at_call 17; go_split_ands; refine (toPg_any h0 o0 _ w.heap.size ((R0_10).out.below (show Below wi.heap.size wi _ from by go_grown) (by omega)) (Nat.le_trans (by omega) (show Below wi.heap.size wi _ from by go_grown).size) HS0.out).mono ?_; rintro e ve0 ⟨y0, rfl, hv, -, ov⟩; have Ov := Lib.hid ov.rd; have hBv : Below wi.heap.size wi ve0 := below_on (by go_grown) hv; clear ov hv) | (go_at_call 21; go_split_ands; refine (eqPg_any x0 y0 o0 o0 _ ve0.heap.size ((Xr0_10).out.up (show Below wi.heap.size wi _ from by go_grown) (by omega) (Nat.le_trans (by omega) hBv.size)) (Ov.out.below (show Below ve0.heap.size ve0 _ from by go_grown) (Nat.le_refl _)) (show Below ve0.heap.size ve0 _ from by go_grown).size (PgS_L HS0.out) (PgS_L HS0.out) true (Lib.hid (by simp))).mono ?_; rintro e vf0 ⟨rfl, hvf⟩; have hBvf : Below wi.heap.size wi vf0 := below_on (by go_grown) hvf; clear hvf))
  clear AllS Ov hBv
  try clear hHeld
  have sz_11 := (hBvf).size
  have F0_11 := Lib.hid ((F0_10).out.below hBvf (F0_10).out.lt)
  clear F0_10
  have R0_11 := Lib.hid ((R0_10).out.below hBvf (by omega))
  clear R0_10
  have R1_11 := Lib.hid ((R1_10).out.below hBvf (by omega))
  clear R1_10
  have R2_11 := Lib.hid ((R2_10).out.below hBvf (by omega))
  clear R2_10
  have BEL_11 := Lib.hid (below_on (BEL_10).out hBvf)
  clear BEL_10
  have Xo0_11 := Lib.hid ((Xo0_10).out.below hBvf (by omega))
  clear Xo0_10
  have Xr0_11 := Lib.hid ((Xr0_10).out.below hBvf (by omega))
  clear Xr0_10
  have X0_11 := Lib.hid ((X0_10).out.below hBvf (X0_10).out.lt)
  clear X0_10
  have Xo1_11 := Lib.hid ((Xo1_10).out.below hBvf (by omega))
  clear Xo1_10
  have Xr1_11 := Lib.hid ((Xr1_10).out.below hBvf (by omega))
  clear Xr1_10
  have Xo2_11 := Lib.hid ((Xo2_10).out.below hBvf (by omega))
  clear Xo2_10
  have Xr2_11 := Lib.hid ((Xr2_10).out.below hBvf (by omega))
  clear Xr2_10
  clear hBvf
  go_wp2_with fail
  refine (toIs_any h1 o1 vf0 w.heap.size (R1_11).out (by omega) HS1.out).mono ?_
  rintro e ve1 ⟨y1, rfl, hbe, hle, owe⟩
  have sz_12 := (hbe).size
  have F0_12 := Lib.hid ((F0_11).out.below hbe (F0_11).out.lt)
  clear F0_11
  have R0_12 := Lib.hid ((R0_11).out.below hbe (by omega))
  clear R0_11
  have R1_12 := Lib.hid ((R1_11).out.below hbe (by omega))
  clear R1_11
  have R2_12 := Lib.hid ((R2_11).out.below hbe (by omega))
  clear R2_11
  have BEL_12 := Lib.hid (below_on (BEL_11).out hbe)
  clear BEL_11
  have Xo0_12 := Lib.hid ((Xo0_11).out.below hbe (by omega))
  clear Xo0_11
  have Xr0_12 := Lib.hid ((Xr0_11).out.below hbe (by omega))
  clear Xr0_11
  have X0_12 := Lib.hid ((X0_11).out.below hbe (X0_11).out.lt)
  clear X0_11
  have Xo1_12 := Lib.hid ((Xo1_11).out.below hbe (by omega))
  clear Xo1_11
  have Xr1_12 := Lib.hid ((Xr1_11).out.below hbe (by omega))
  clear Xr1_11
  have Xo2_12 := Lib.hid ((Xo2_11).out.below hbe (by omega))
  clear Xo2_11
  have Xr2_12 := Lib.hid ((Xr2_11).out.below hbe (by omega))
  clear Xr2_11
  have Y_12 := Lib.hid (owe.rd)
  clear hbe hle owe
  go_wp2_with fail
  refine (eqIs_any x1 y1 o1 o1 ve1 ve1.heap.size ((Xr1_12).out.up (Below.refl _ _) (by omega) (by omega)) (Y_12).out (Nat.le_refl _) (IsS_L HS1.out) (IsS_L HS1.out) true (Lib.hid (by simp))).mono ?_
  rintro e vf1 ⟨rfl, hbf⟩
  clear Y_12
  have sz_13 := (hbf).size
  have F0_13 := Lib.hid ((F0_12).out.below hbf (F0_12).out.lt)
  clear F0_12
  have R0_13 := Lib.hid ((R0_12).out.below hbf (by omega))
  clear R0_12
  have R1_13 := Lib.hid ((R1_12).out.below hbf (by omega))
  clear R1_12
  have R2_13 := Lib.hid ((R2_12).out.below hbf (by omega))
  clear R2_12
  have BEL_13 := Lib.hid (below_on (BEL_12).out hbf)
  clear BEL_12
  have Xo0_13 := Lib.hid ((Xo0_12).out.below hbf (by omega))
  clear Xo0_12
  have Xr0_13 := Lib.hid ((Xr0_12).out.below hbf (by omega))
  clear Xr0_12
  have X0_13 := Lib.hid ((X0_12).out.below hbf (X0_12).out.lt)
  clear X0_12
  have Xo1_13 := Lib.hid ((Xo1_12).out.below hbf (by omega))
  clear Xo1_12
  have Xr1_13 := Lib.hid ((Xr1_12).out.below hbf (by omega))
  clear Xr1_12
  have Xo2_13 := Lib.hid ((Xo2_12).out.below hbf (by omega))
  clear Xo2_12
  have Xr2_13 := Lib.hid ((Xr2_12).out.below hbf (by omega))
  clear Xr2_12
  clear hbf
  go_wp2_with fail
  refine (toIs_any h2 o2 vf1 w.heap.size (R2_13).out (by omega) HS2.out).mono ?_
  rintro e ve2 ⟨y2, rfl, hbe, hle, owe⟩
  have sz_14 := (hbe).size
  have F0_14 := Lib.hid ((F0_13).out.below hbe (F0_13).out.lt)
  clear F0_13
  have R0_14 := Lib.hid ((R0_13).out.below hbe (by omega))
  clear R0_13
  have R1_14 := Lib.hid ((R1_13).out.below hbe (by omega))
  clear R1_13
  have R2_14 := Lib.hid ((R2_13).out.below hbe (by omega))
  clear R2_13
  have BEL_14 := Lib.hid (below_on (BEL_13).out hbe)
  clear BEL_13
  have Xo0_14 := Lib.hid ((Xo0_13).out.below hbe (by omega))
  clear Xo0_13
  have Xr0_14 := Lib.hid ((Xr0_13).out.below hbe (by omega))
  clear Xr0_13
  have X0_14 := Lib.hid ((X0_13).out.below hbe (X0_13).out.lt)
  clear X0_13
  have Xo1_14 := Lib.hid ((Xo1_13).out.below hbe (by omega))
  clear Xo1_13
  have Xr1_14 := Lib.hid ((Xr1_13).out.below hbe (by omega))
  clear Xr1_13
  have Xo2_14 := Lib.hid ((Xo2_13).out.below hbe (by omega))
  clear Xo2_13
  have Xr2_14 := Lib.hid ((Xr2_13).out.below hbe (by omega))
  clear Xr2_13
  have Y_14 := Lib.hid (owe.rd)
  clear hbe hle owe
  go_wp2_with fail
  refine (eqIs_any x2 y2 o2 o2 ve2 ve2.heap.size ((Xr2_14).out.up (Below.refl _ _) (by omega) (by omega)) (Y_14).out (Nat.le_refl _) (IsS_L HS2.out) (IsS_L HS2.out) true (Lib.hid (by simp))).mono ?_
  rintro e vf2 ⟨rfl, hbf⟩
  clear Y_14
  have sz_15 := (hbf).size
  have F0_15 := Lib.hid ((F0_14).out.below hbf (F0_14).out.lt)
  clear F0_14
  have R0_15 := Lib.hid ((R0_14).out.below hbf (by omega))
  clear R0_14
  have R1_15 := Lib.hid ((R1_14).out.below hbf (by omega))
  clear R1_14
  have R2_15 := Lib.hid ((R2_14).out.below hbf (by omega))
  clear R2_14
  have BEL_15 := Lib.hid (below_on (BEL_14).out hbf)
  clear BEL_14
  have Xo0_15 := Lib.hid ((Xo0_14).out.below hbf (by omega))
  clear Xo0_14
  have Xr0_15 := Lib.hid ((Xr0_14).out.below hbf (by omega))
  clear Xr0_14
  have X0_15 := Lib.hid ((X0_14).out.below hbf (X0_14).out.lt)
  clear X0_14
  have Xo1_15 := Lib.hid ((Xo1_14).out.below hbf (by omega))
  clear Xo1_14
  have Xr1_15 := Lib.hid ((Xr1_14).out.below hbf (by omega))
  clear Xr1_14
  have Xo2_15 := Lib.hid ((Xo2_14).out.below hbf (by omega))
  clear Xo2_14
  have Xr2_15 := Lib.hid ((Xr2_14).out.below hbf (by omega))
  clear Xr2_14
  clear hbf
  have hfin := (BEL_15).out
  go_wp2
  go_ret
  exact ⟨rfl, hfin⟩
end Go.Proofs.Ytbddmicgfhljeaa
namespace Go.Proofs.Ytbddmicgfhljeaa.fnExactSameOrders
open Go.ChangeShapes Go.WideShapes Go.ChangeAt Go.RowKit
set_option linter.unusedVariables false

set_option maxRecDepth 100000 in
theorem lifted (os : Os) (started : os.Started) (H : Type) (enc : TypeId × Value → H) :
    ReturnsInHanded {} Try.checked os 9 .any (Rows.fnExactSameOrdersSpec.pre6 enc Try.prog Try.f9 Rows.fnExactSameOrdersRow.domain false) (Rows.fnExactSameOrdersSpec.post enc Try.prog Try.f9 false true false false) := by
  refine returnsInHanded_of_change (C := Try.checked) Try.own started (by kernel_rfl) Try.func9
    (ChangeSpec.witness6 (enc := enc) (C := Try.checked) false ⟨#[], #[.agg #[.slice none 0 0], .slice none 0 0, .slice none 0 0], []⟩ 8 (by kernel_rfl) (by kernel_rfl) (by kernel_rfl) (by kernel_rfl)) ?_
  intro W base args ds gs before hval0 hW hcnd _
  have hval : ∀ (j : Nat) t v, Try.f9.params[j]? = some t → args[j]? = some v → Value.okWide Try.prog W .any base t v := hval0
  have hW' := hW
  obtain ⟨p, q, hA0, hV, rfl, hfz, hnd⟩ := hW
  have hA : DataW.TrodAll enc Try.prog W 0 (fun _ => true) true Try.f9.params.toList args.toList ds p := hA0
  rw [Try.params9] at hA hval
  obtain ⟨v0, vs0, d0, ds0, p0, q0, hargs, rfl, rfl, h0, r90⟩ := trodAll_cons hA
  obtain ⟨v1, vs1, d1, ds1, p1, q1, rfl, rfl, rfl, h1, r91⟩ := trodAll_cons r90
  obtain ⟨v2, vs2, d2, ds2, p2, q2, rfl, rfl, rfl, h2, r92⟩ := trodAll_cons r91
  obtain ⟨rfl, rfl, rfl⟩ := trodAll_nil r92
  obtain rfl : args = #[v0, v1, v2] := by cases args; simp_all
  obtain ⟨rfl, rfl⟩ := trodVars_none hV
  have k0 := h0
  have lt0 : ∀ x ∈ p0, x.block < W.heap.size := by obtain ⟨m, hm⟩ := k0; exact DataW.trod_lt m _ _ _ hm
  obtain ⟨A0, c0, L0, rfl, hn0, hr0⟩ := open_prog (hval 0 24 v0 rfl rfl) h0
  have k1 := h1
  have lt1 : ∀ x ∈ p1, x.block < W.heap.size := by obtain ⟨m, hm⟩ := k1; exact DataW.trod_lt m _ _ _ hm
  obtain ⟨H1, O1, rfl, hn1, hr1⟩ := open_Is (hval 1 25 v1 rfl rfl) h1
  have k2 := h2
  have lt2 : ∀ x ∈ p2, x.block < W.heap.size := by obtain ⟨m, hm⟩ := k2; exact DataW.trod_lt m _ _ _ hm
  obtain ⟨H2, O2, rfl, hn2, hr2⟩ := open_Is (hval 2 25 v2 rfl rfl) h2
  clear hA0 hval0
  refine (lwSameOrders ⟨A0, c0⟩ L0 H1 O1 H2 O2 W hr0 ⟨hn0⟩ hr1 hn1 hr2 hn2).mono fun e W' ⟨he, bel⟩ => ?_
  subst he
  exact ⟨_, rfl, _, _, _, [], _, [], hW', trodAll_mk1 (shut_bool Try.underlying4 _), (trodAll_cons_mk (Below.trod Try.laidOut (by kernel_rfl) (of_decide_eq_true (by kernel_rfl)) k0 bel lt0) (trodAll_cons_mk (Below.trod Try.laidOut (by kernel_rfl) (of_decide_eq_true (by kernel_rfl)) k1 bel lt1) (trodAll_cons_mk (Below.trod Try.laidOut (by kernel_rfl) (of_decide_eq_true (by kernel_rfl)) k2 bel lt2) trodAll_mk0))), rfl, bel.frame _, fun h => by cases h⟩

set_option maxHeartbeats 8000000 in
theorem over : Rows.fnExactSameOrdersRow.holds Try.pinned (OpenSpec.ofChange Rows.fnExactSameOrdersSpec) :=
  OpenClaim.holds_of_wide 9 Try.f9 rfl rfl rfl rfl rfl rfl rfl ⟨rfl, rfl, rfl, rfl, rfl⟩ rfl rfl rfl rfl rfl (by as_aux_lemma => kernel_rfl) Try.func9 (by as_aux_lemma => kernel_rfl)
    (of_decide_eq_true (by as_aux_lemma => kernel_rfl)) (by unfold Func.isWrapper; first | (rw [if_pos (by decide +kernel)]; kernel_rfl) | (rw [if_neg (by decide +kernel)]; exact ⟨rfl, rfl⟩))
    (fun os started H enc _ => lifted os started H enc)

theorem proved : Rows.FnExactSameOrdersSaid := over
#print axioms proved
end Go.Proofs.Ytbddmicgfhljeaa.fnExactSameOrders
