/-
  Whether a record is a state with a buffer for each place: what SpreadOk comes to, in the program and in the reference model.
-/
import Derived.Test.YtnadihepgmbhaaaSpr
import Derived.Test.YtnadihepgmbhaaaVQ
import Derived.Test.YtnadihepgmbhaaaStOk
import Derived.Test.YtnadihepgmbhaaaPack
namespace Go.Proofs.Ytnadihepgmbhaaa
open Go.RowKit Pl Go.BigFrame
set_option maxHeartbeats 4000000
set_option maxRecDepth 100000
set_option linter.unusedVariables false

def sprB (L : Pg) (o : Buf) : Bool := (stB L o.st && decide (o.bs.length = L.length * 3)) && o.bs.all vokB
theorem isprok_any (h : PgH) (L : Pg) (k : BufH) (o : Buf) (w : World) (B : Nat) (hP : PgR w B h L) (hS : BufR w B k o) (hB : B ≤ w.heap.size) (SP : PgS L) (LS : BufS o) (r : Bool) (hr : Hid (sprB L o = r)) :
    Calls Try.prog 25 #[PgV h L, BufV k o] w fun e w' => e = .returned (.bool r) ∧ Below w.heap.size w w' := by
  have LP := PgS_L SP
  have LL := BufS_L LS
  have LS' := StaS_L LS.s
  obtain ⟨W, hW⟩ : ∃ W, W = (w.alloc (.cells #[.slice h.A L.length h.c] 36)).alloc (.cells #[.slice k.h.A0 o.st.f0.length k.h.c0, .slice k.h.A1 o.st.f1.length k.h.c1, .slice k.h.A2 o.st.f2.length k.h.c2, .slice k.h.A3 o.st.f3.length k.h.c3, .slice k.h.A4 o.st.f4.length k.h.c4, .slice k.k.A o.bs.length k.k.c] 31) := ⟨_, rfl⟩
  have bW : Below w.heap.size w W := by rw [hW]; go_grown
  have k0 : Bk W w.heap.size 36 #[.slice h.A L.length h.c] := by rw [hW]; exact (Bk.new w _ _).alloc _
  have k1 : Bk W (w.heap.size + 1) 31 #[.slice k.h.A0 o.st.f0.length k.h.c0, .slice k.h.A1 o.st.f1.length k.h.c1, .slice k.h.A2 o.st.f2.length k.h.c2, .slice k.h.A3 o.st.f3.length k.h.c3, .slice k.h.A4 o.st.f4.length k.h.c4, .slice k.k.A o.bs.length k.k.c] := by
    rw [hW]; have := Bk.new (w.alloc (.cells #[.slice h.A L.length h.c] 36)) #[.slice k.h.A0 o.st.f0.length k.h.c0, .slice k.h.A1 o.st.f1.length k.h.c1, .slice k.h.A2 o.st.f2.length k.h.c2, .slice k.h.A3 o.st.f3.length k.h.c3, .slice k.h.A4 o.st.f4.length k.h.c4, .slice k.k.A o.bs.length k.k.c] 31
    rwa [World.size_alloc] at this
  have P0 := Lib.hid (hP.below bW hB)
  have Q0 := Lib.hid (hS.below bW hB)
  have K0 := Lib.hid k0
  have K1 := Lib.hid k1
  have B0 := Lib.hid bW
  have z0 := bW.size
  have HW := Lib.hid hW
  clear hW bW k0 k1 hP hS
  rcases Bool.eq_false_or_eq_true (stB L o.st) with hst | hst
  rotate_left
  · have hfin : Hid (r = false) := Lib.hid (by rw [← hr.out, sprB, hst]; rfl)
    have HST := Lib.hid hst
    clear hr hst
    go_enter Try.func25, Try.ntmps25
    go_wp2_with fail
    rw [← HW.out]
    refine (istok_any h L k.h o.st W B P0.out Q0.out.s (by omega) LP LS' false HST).mono ?_
    rintro e w1 ⟨rfl, hb⟩
    have B1 := Lib.hid (below_on B0.out hb)
    clear hb
    go_wp2
    go_ret
    exact ⟨by rw [hfin.out]; rfl, B1.out⟩
  have HST := Lib.hid hst
  by_cases hl : o.bs.length = L.length * 3
  rotate_left
  · have hfin : Hid (r = false) := Lib.hid (by rw [← hr.out, sprB]; simp [hl])
    have hne : ((o.bs.length : Int) != (L.length : Int) * 3) = true := by rw [bne_iff_ne]; omega
    have h33 := (prog_len (stB_parts HST.out).prog).2
    clear hr hst hl
    go_enter Try.func25, Try.ntmps25
    go_wp2_with fail
    rw [← HW.out]
    refine (istok_any h L k.h o.st W B P0.out Q0.out.s (by omega) LP LS' true HST).mono ?_
    rintro e w1 ⟨rfl, hb⟩
    have B1 := Lib.hid (below_on B0.out hb)
    have cP : w1.cell? ⟨w.heap.size, 0, none⟩ = some (.slice h.A L.length h.c) := (K0.out.below hb K0.out.lt).cell 0
    have c5 : w1.cell? ⟨w.heap.size + 1, 5, none⟩ = some (.slice k.k.A o.bs.length k.k.c) := (K1.out.below hb K1.out.lt).cell 5
    clear hb
    go_wp2
    go_ret
    exact ⟨by rw [hfin.out]; rfl, B1.out⟩
  have hfin : Hid (o.bs.all vokB = r) := Lib.hid (by rw [← hr.out, sprB, hst]; simp [hl])
  have hne : ((o.bs.length : Int) != (L.length : Int) * 3) = false := by rw [bne_eq_false_iff_eq]; omega
  have h33 := (prog_len (stB_parts HST.out).prog).2
  clear hr hst hl
  go_enter Try.func25, Try.ntmps25
  go_wp2_with fail
  rw [← HW.out]
  refine (istok_any h L k.h o.st W B P0.out Q0.out.s (by omega) LP LS' true HST).mono ?_
  rintro e w1 ⟨rfl, hb⟩
  have B1 := Lib.hid (below_on B0.out hb)
  have Q1 := Lib.hid (Q0.out.below hb (by omega))
  have cP : w1.cell? ⟨w.heap.size, 0, none⟩ = some (.slice h.A L.length h.c) := (K0.out.below hb K0.out.lt).cell 0
  have k1 := K1.out.below hb K1.out.lt
  have K11 := Lib.hid k1
  have c5 : w1.cell? ⟨w.heap.size + 1, 5, none⟩ = some (.slice k.k.A o.bs.length k.k.c) := k1.cell 5
  have z1 := hb.size
  have l1 := k1.lt
  clear hb k1
  obtain ⟨A, c, hA, hc⟩ : ∃ A c, k.k.A = A ∧ k.k.c = c := ⟨_, _, rfl, rfl⟩
  have V1 : Hid (Vss w1 B A (vsIss o.bs)) := Lib.hid (hA ▸ Q1.out.b.v)
  have bl := LL.b.l0
  have HR := Lib.hid LL.b.l1
  unfold maxLen at bl
  rw [hA, hc] at c5
  go_wp2
  go_loop [25] (fun i => ∃ m : Nat, m ≤ o.bs.length ∧ i = .int .i64 m ∧ Hid ((o.bs.drop m).all vokB = r)) (fun i => o.bs.length - (intOf i).toNat)
  case atStart => exact ⟨0, Nat.zero_le _, rfl, by simpa using hfin⟩
  case round =>
    obtain ⟨m, hm, rfl, hrest⟩ := hrel
    clear hfin hne cP c5
    by_cases hlt : m < o.bs.length
    · obtain ⟨xs, hxs, hd⟩ := drop_at hlt
      obtain ⟨b, off, Ai, ci, rfl, hb, hx0, hrow⟩ := V1.out.at_ (vsIss_at hxs)
      rw [ints_length] at hx0
      have hl := HR.out xs (List.mem_of_getElem? hxs)
      have Hd := Lib.hid hd
      have Hw := Lib.hid hrow
      have hbw : b < w1.heap.size := by omega
      clear hd hxs hrow
      unfold maxLen at hl
      by_cases h6 : xs.length ≤ 6
      rotate_left
      · have e6 : (6 : Int) < (xs.length : Int) := by omega
        have hlast : Hid (r = false) := Lib.hid (by rw [← hrest.out, Hd.out, List.all_cons, vokB]; simp [h6])
        clear h6
        go_wp2
        go_ret
        exact ⟨by rw [hlast.out]; rfl, B1.out⟩
      have e6 : ¬ (6 : Int) < (xs.length : Int) := by omega
      have hv : vokB xs = numB xs (xs.length : Int) 0 3 := by unfold vokB numB; simp [h6]
      rcases Bool.eq_false_or_eq_true (vokB xs) with he | he
      all_goals
        have He := Lib.hid he
        have Hn := Lib.hid (hv.symm.trans he)
        clear he
        go_wp2_with fail
        refine (numok_any Ai xs ci _ 0 3 _ B Hw.out (by unfold maxLen; omega) _ Hn).mono ?_
        rintro e w' ⟨rfl, rfl⟩
        go_wp2
      · go_round
        case rel => exact ⟨m + 1, by omega, by go_num, Lib.hid (by
          have := hrest.out
          rw [Hd.out, List.all_cons, He.out] at this
          simpa using this)⟩
        case measure => simp [intOf]; omega
      · go_ret
        refine ⟨?_, B1.out⟩
        have := hrest.out
        rw [Hd.out, List.all_cons, He.out] at this
        rw [← this]; rfl
    · have hlast : Hid (r = true) := Lib.hid (by
        have := hrest.out
        rw [List.drop_eq_nil_of_le (by omega)] at this
        rw [← this]; rfl)
      go_wp2
      go_ret
      exact ⟨by rw [hlast.out]; rfl, B1.out⟩
theorem ssprok_any (h : PgH) (L : Pg) (k : BufH) (o : Buf) (w : World) (B : Nat) (hP : PgR w B h L) (hS : BufR w B k o) (hB : B ≤ w.heap.size) (SP : PgS L) (LS : BufS o) (r : Bool) (hr : Hid (sprB L o = r)) :
    Calls Try.prog 23 #[PgV h L, BufV k o] w fun e w' => e = .returned (.bool r) ∧ Below w.heap.size w w' := by
  have LP := PgS_L SP
  have LL := BufS_L LS
  have LS' := StaS_L LS.s
  obtain ⟨W, hW⟩ : ∃ W, W = (w.alloc (.cells #[.slice h.A L.length h.c] 36)).alloc (.cells #[.slice k.h.A0 o.st.f0.length k.h.c0, .slice k.h.A1 o.st.f1.length k.h.c1, .slice k.h.A2 o.st.f2.length k.h.c2, .slice k.h.A3 o.st.f3.length k.h.c3, .slice k.h.A4 o.st.f4.length k.h.c4, .slice k.k.A o.bs.length k.k.c] 31) := ⟨_, rfl⟩
  have bW : Below w.heap.size w W := by rw [hW]; go_grown
  have k0 : Bk W w.heap.size 36 #[.slice h.A L.length h.c] := by rw [hW]; exact (Bk.new w _ _).alloc _
  have k1 : Bk W (w.heap.size + 1) 31 #[.slice k.h.A0 o.st.f0.length k.h.c0, .slice k.h.A1 o.st.f1.length k.h.c1, .slice k.h.A2 o.st.f2.length k.h.c2, .slice k.h.A3 o.st.f3.length k.h.c3, .slice k.h.A4 o.st.f4.length k.h.c4, .slice k.k.A o.bs.length k.k.c] := by
    rw [hW]; have := Bk.new (w.alloc (.cells #[.slice h.A L.length h.c] 36)) #[.slice k.h.A0 o.st.f0.length k.h.c0, .slice k.h.A1 o.st.f1.length k.h.c1, .slice k.h.A2 o.st.f2.length k.h.c2, .slice k.h.A3 o.st.f3.length k.h.c3, .slice k.h.A4 o.st.f4.length k.h.c4, .slice k.k.A o.bs.length k.k.c] 31
    rwa [World.size_alloc] at this
  have P0 := Lib.hid (hP.below bW hB)
  have Q0 := Lib.hid (hS.below bW hB)
  have K0 := Lib.hid k0
  have K1 := Lib.hid k1
  have B0 := Lib.hid bW
  have z0 := bW.size
  have HW := Lib.hid hW
  clear hW bW k0 k1 hP hS
  rcases Bool.eq_false_or_eq_true (stB L o.st) with hst | hst
  rotate_left
  · have hfin : Hid (r = false) := Lib.hid (by rw [← hr.out, sprB, hst]; rfl)
    have HST := Lib.hid hst
    clear hr hst
    go_enter Try.func23, Try.ntmps23
    go_wp2_with fail
    rw [← HW.out]
    refine (sstok_any h L k.h o.st W B P0.out Q0.out.s (by omega) SP LS.s false HST).mono ?_
    rintro e w1 ⟨rfl, hb⟩
    have B1 := Lib.hid (below_on B0.out hb)
    clear hb
    go_wp2
    go_ret
    exact ⟨by rw [hfin.out]; rfl, B1.out⟩
  have HST := Lib.hid hst
  by_cases hl : o.bs.length = L.length * 3
  rotate_left
  · have hfin : Hid (r = false) := Lib.hid (by rw [← hr.out, sprB]; simp [hl])
    have hne : ((o.bs.length : Int) != (L.length : Int) * 3) = true := by rw [bne_iff_ne]; omega
    have h33 := (prog_len (stB_parts HST.out).prog).2
    clear hr hst hl
    go_enter Try.func23, Try.ntmps23
    go_wp2_with fail
    rw [← HW.out]
    refine (sstok_any h L k.h o.st W B P0.out Q0.out.s (by omega) SP LS.s true HST).mono ?_
    rintro e w1 ⟨rfl, hb⟩
    have B1 := Lib.hid (below_on B0.out hb)
    have cP : w1.cell? ⟨w.heap.size, 0, none⟩ = some (.slice h.A L.length h.c) := (K0.out.below hb K0.out.lt).cell 0
    have c5 : w1.cell? ⟨w.heap.size + 1, 5, none⟩ = some (.slice k.k.A o.bs.length k.k.c) := (K1.out.below hb K1.out.lt).cell 5
    clear hb
    go_wp2
    go_ret
    exact ⟨by rw [hfin.out]; rfl, B1.out⟩
  have hfin : Hid (o.bs.all vokB = r) := Lib.hid (by rw [← hr.out, sprB, hst]; simp [hl])
  have hne : ((o.bs.length : Int) != (L.length : Int) * 3) = false := by rw [bne_eq_false_iff_eq]; omega
  have h33 := (prog_len (stB_parts HST.out).prog).2
  clear hr hst hl
  go_enter Try.func23, Try.ntmps23
  go_wp2_with fail
  rw [← HW.out]
  refine (sstok_any h L k.h o.st W B P0.out Q0.out.s (by omega) SP LS.s true HST).mono ?_
  rintro e w1 ⟨rfl, hb⟩
  have B1 := Lib.hid (below_on B0.out hb)
  have Q1 := Lib.hid (Q0.out.below hb (by omega))
  have cP : w1.cell? ⟨w.heap.size, 0, none⟩ = some (.slice h.A L.length h.c) := (K0.out.below hb K0.out.lt).cell 0
  have k1 := K1.out.below hb K1.out.lt
  have K11 := Lib.hid k1
  have c5 : w1.cell? ⟨w.heap.size + 1, 5, none⟩ = some (.slice k.k.A o.bs.length k.k.c) := k1.cell 5
  have z1 := hb.size
  have l1 := k1.lt
  clear hb k1
  obtain ⟨A, c, hA, hc⟩ : ∃ A c, k.k.A = A ∧ k.k.c = c := ⟨_, _, rfl, rfl⟩
  have V1 : Hid (Vss w1 B A (vsIss o.bs)) := Lib.hid (hA ▸ Q1.out.b.v)
  have bl := LL.b.l0
  have HR := Lib.hid LL.b.l1
  unfold maxLen at bl
  rw [hA, hc] at c5
  go_wp2
  go_loopw [5] (fun i wr => ∃ m : Nat, m ≤ o.bs.length ∧ i = .int .i64 m ∧ Below w1.heap.size w1 wr ∧ Hid ((o.bs.drop m).all vokB = r)) (fun i _ => o.bs.length - (intOf i).toNat)
  case atStart => exact ⟨0, Nat.zero_le _, rfl, Below.refl _ _, by simpa using hfin⟩
  case round =>
    obtain ⟨m, hm, rfl, hbel, hrest⟩ := hrel
    clear hfin hne cP c5
    have zr := hbel.size
    have K1r := Lib.hid (K11.out.below hbel K11.out.lt)
    have VR := Lib.hid (V1.out.below hbel (by omega))
    have BR := Lib.hid (B1.out.trans (hbel.mono (by omega)))
    have HBel := Lib.hid hbel
    have c5 : wr.cell? ⟨w.heap.size + 1, 5, none⟩ = some (.slice A o.bs.length c) := by rw [← hA, ← hc]; exact K1r.out.cell 5
    have l5 := K1r.out.lt
    have HS := Lib.hid (fr_none wr)
    haveI hne := Nonempty.intro (Ws.mk _ (fr_none wr))
    have g5 : ∀ x : Ws (Fr wr []), x.val.cell? ⟨w.heap.size + 1, 5, none⟩ = some (.slice A o.bs.length c) := Ws.same (bs := []) l5 c5
    clear hbel
    by_cases hlt : m < o.bs.length
    · obtain ⟨xs, hxs, hd⟩ := drop_at hlt
      obtain ⟨b, off, Ai, ci, rfl, hb, hx0, hrow⟩ := VR.out.at_ (vsIss_at hxs)
      rw [ints_length] at hx0
      have hl := HR.out xs (List.mem_of_getElem? hxs)
      have Hd := Lib.hid hd
      have Hw := Lib.hid (fun (x : Ws (Fr wr [])) => hrow.below x.ok.below (by omega))
      have hbw : b < wr.heap.size := by omega
      have gr := Ws.same (bs := []) hbw hx0
      have hti : (m : Int) < (o.bs.length : Int) := by omega
      clear hd hxs hrow
      unfold maxLen at hl
      by_cases h6 : xs.length ≤ 6
      rotate_left
      · have e6 : decide ((6 : Int) < (xs.length : Int)) = true := by rw [decide_eq_true_eq]; omega
        have hlast : Hid (r = false) := Lib.hid (by rw [← hrest.out, Hd.out, List.all_cons, vokB]; simp [h6])
        clear h6
        go_wp2_with fail
        refine region_in (by kernel_rfl) HS.out.drew ?_
        repeat (go_big_quiet_step (fail))
        refine wpQuiet_nil ?_
        rintro w2 ⟨⟨_, hw2⟩, rfl⟩
        have hB2 := below_on BR.out hw2.below
        go_wp2
        go_ret
        exact ⟨by rw [hlast.out]; rfl, hB2⟩
      have e6 : decide ((6 : Int) < (xs.length : Int)) = false := by rw [decide_eq_false_iff_not]; omega
      have hv : vokB xs = numB xs (xs.length : Int) 0 3 := by unfold vokB numB; simp [h6]
      rcases Bool.eq_false_or_eq_true (vokB xs) with he | he
      all_goals
        have He := Lib.hid he
        have Hn := Lib.hid (hv.symm.trans he)
        clear he
        go_wp2_with fail
        refine region_in (by kernel_rfl) HS.out.drew ?_
        repeat (go_big_quiet_step ((go_at_call 68; exact call_in ((all_any Ai xs ci _ 0 3 _ B (Hw.out _) (by unfold maxLen; omega) _ Hn).mono fun e w' (h : _ ∧ _ = w') => ⟨h.1, by rw [← h.2]; exact Below.refl _ _⟩))))
        refine wpQuiet_nil ?_
        rintro w2 ⟨⟨_, hw2⟩, rfl⟩
        have hB2 := below_on BR.out hw2.below
        have hb2 := below_on HBel.out hw2.below
        go_wp2
      · go_roundw
        case rel => exact ⟨m + 1, by omega, by go_num, hb2, Lib.hid (by
          have := hrest.out
          rw [Hd.out, List.all_cons, He.out] at this
          simpa using this)⟩
        case measure => simp [intOf]; omega
      · go_ret
        refine ⟨?_, hB2⟩
        have := hrest.out
        rw [Hd.out, List.all_cons, He.out] at this
        rw [← this]; rfl
    · have hlast : Hid (r = true) := Lib.hid (by
        have := hrest.out
        rw [List.drop_eq_nil_of_le (by omega)] at this
        rw [← this]; rfl)
      go_wp2
      go_ret
      exact ⟨by rw [hlast.out]; rfl, BR.out⟩
end Go.Proofs.Ytnadihepgmbhaaa
