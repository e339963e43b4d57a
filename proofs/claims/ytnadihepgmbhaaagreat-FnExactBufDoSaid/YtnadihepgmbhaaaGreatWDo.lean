/-
  What BufDo comes to, in the program and in the reference model: one step of a state with a buffer for each thread.
-/
import Derived.Test.YtnadihepgmbhaaaGreatVDoP
import Derived.Test.YtnadihepgmbhaaaGreatWSdP
import Derived.Test.YtnadihepgmbhaaaGreatVCan
namespace Go.Proofs.YtnadihepgmbhaaaGreat
open Go.RowKit Pl Go.BigFrame
set_option maxHeartbeats 4000000
set_option maxRecDepth 100000
set_option linter.unusedVariables false

def bdoE (L : Pg) (o : Buf) (st : Int) : Buf := if bcanB L o st then bufOf L (stepQ 1 L (wdF L o.st) (cdsB o) st.toNat).1 (stepQ 1 L (wdF L o.st) (cdsB o) st.toNat).2 else BufE
theorem ibufdo_any (h : PgH) (L : Pg) (k : BufH) (o : Buf) (st : Int) (w : World) (B : Nat) (hP : PgR w B h L) (hS : BufR w B k o) (hB : B ≤ w.heap.size) (SP : PgS L) (LS : BufS o) :
    Calls Tryz.prog 19 #[PgV h L, BufV k o, .int .i64 st] w (AnsBuf w (bdoE L o st) (bcanB L o st)) := by
  obtain ⟨W, hW⟩ : ∃ W, W = ((w.alloc (.cells #[.slice h.A L.length h.c] 40)).alloc (.cells #[.slice k.h.A0 o.st.f0.length k.h.c0, .slice k.h.A1 o.st.f1.length k.h.c1, .slice k.h.A2 o.st.f2.length k.h.c2, .slice k.h.A3 o.st.f3.length k.h.c3, .slice k.h.A4 o.st.f4.length k.h.c4, .slice k.k.A o.bs.length k.k.c] 50)).alloc (.cells #[.slice none 0 0, .slice none 0 0, .slice none 0 0, .slice none 0 0, .slice none 0 0, .slice none 0 0] 50) := ⟨_, rfl⟩
  have bW : Below w.heap.size w W := by rw [hW]; go_grown
  have k0 : Bk W w.heap.size 40 #[.slice h.A L.length h.c] := by rw [hW]; exact ((Bk.new w _ _).alloc _).alloc _
  have k1 : Bk W (w.heap.size + 1) 50 #[.slice k.h.A0 o.st.f0.length k.h.c0, .slice k.h.A1 o.st.f1.length k.h.c1, .slice k.h.A2 o.st.f2.length k.h.c2, .slice k.h.A3 o.st.f3.length k.h.c3, .slice k.h.A4 o.st.f4.length k.h.c4, .slice k.k.A o.bs.length k.k.c] := by
    rw [hW]; have := (Bk.new (w.alloc (.cells #[.slice h.A L.length h.c] 40)) #[.slice k.h.A0 o.st.f0.length k.h.c0, .slice k.h.A1 o.st.f1.length k.h.c1, .slice k.h.A2 o.st.f2.length k.h.c2, .slice k.h.A3 o.st.f3.length k.h.c3, .slice k.h.A4 o.st.f4.length k.h.c4, .slice k.k.A o.bs.length k.k.c] 50).alloc (.cells #[.slice none 0 0, .slice none 0 0, .slice none 0 0, .slice none 0 0, .slice none 0 0, .slice none 0 0] 50)
    rwa [World.size_alloc] at this
  have k2 : Bk W (w.heap.size + 1 + 1) 50 #[.slice none 0 0, .slice none 0 0, .slice none 0 0, .slice none 0 0, .slice none 0 0, .slice none 0 0] := by
    rw [hW]; have := Bk.new ((w.alloc (.cells #[.slice h.A L.length h.c] 40)).alloc (.cells #[.slice k.h.A0 o.st.f0.length k.h.c0, .slice k.h.A1 o.st.f1.length k.h.c1, .slice k.h.A2 o.st.f2.length k.h.c2, .slice k.h.A3 o.st.f3.length k.h.c3, .slice k.h.A4 o.st.f4.length k.h.c4, .slice k.k.A o.bs.length k.k.c] 50)) #[.slice none 0 0, .slice none 0 0, .slice none 0 0, .slice none 0 0, .slice none 0 0, .slice none 0 0] 50
    rwa [World.size_alloc, World.size_alloc] at this
  have P0 := Lib.hid (hP.below bW hB)
  have Q0 := Lib.hid (hS.below bW hB)
  have K0 := Lib.hid k0
  have K1 := Lib.hid k1
  have K2 := Lib.hid k2
  have B0 := Lib.hid bW
  have z0 := bW.size
  have HW := Lib.hid hW
  have cP : W.cell? ⟨w.heap.size, 0, none⟩ = some (.slice h.A L.length h.c) := k0.cell 0
  have lP := k0.lt
  clear hW bW k0 k1 k2 hP hS
  obtain ⟨g, hg⟩ : ∃ g, bcanB L o st = g := ⟨_, rfl⟩
  have HG := Lib.hid hg
  go_enter Tryz.func19, Tryz.ntmps19
  go_wp2_with (first | (rw [← HW.out]) | (refine ld_r buf_row rfl _ rfl (w.heap.size + 1) 0 rfl _ K1.out.range rfl ?_))
  refine (ibufcan_any h L k o st W B P0.out Q0.out (by omega) SP LS g HG).mono ?_
  rintro e w1 ⟨rfl, hb⟩
  have B1 := Lib.hid (below_on B0.out hb)
  have z1 := hb.size
  have K01 := Lib.hid (K0.out.below hb K0.out.lt)
  have K11 := Lib.hid (K1.out.below hb K1.out.lt)
  have K21 := Lib.hid (K2.out.below hb K2.out.lt)
  have P1 := Lib.hid (P0.out.below hb (by omega))
  have Q1 := Lib.hid (Q0.out.below hb (by omega))
  have l2 := K2.out.lt
  clear hb cP lP K0 K1 K2
  cases g with
  | false =>
    have hE : Hid (bdoE L o st = BufE ∧ bcanB L o st = false) := Lib.hid ⟨by unfold bdoE; rw [hg]; rfl, hg⟩
    clear hg HG
    go_wp2_with (refine st_r buf_row rfl _ _ rfl (w.heap.size + 1 + 1) rfl 50 _ #[.slice none 0 0, .slice none 0 0, .slice none 0 0, .slice none 0 0, .slice none 0 0, .slice none 0 0] rfl K21.out rfl rfl (sl6_one _ _ _ _ _ _ _ _ _ _ _ _ _ _ _ _ _ _) ?_; intro V5 s5)
    refine bodyPost_ret (v := .tuple #[.agg #[.slice none 0 0, .slice none 0 0, .slice none 0 0, .slice none 0 0, .slice none 0 0, .slice none 0 0], .bool false]) (res_r2 buf_row rfl rfl rfl s5.bk rfl) rfl ?_
    have := s5.size
    rw [hE.out.1, hE.out.2]
    exact ⟨BufN, rfl, B1.out.trans (s5.bel _ (by omega)), by omega, BufO.none_ _ _ _ _ (by omega)⟩
  | true =>
    have hc2 := hg
    unfold bcanB at hc2
    rw [Bool.and_eq_true] at hc2
    obtain ⟨hsp, hcq⟩ := hc2
    have F := bufB_parts hsp
    have I := vinv_wd F.P
    obtain ⟨t, rfl, ht⟩ := canQ_parts hcq
    have h6 := cdsB_ok F.ok
    obtain ⟨o2, ho2⟩ : ∃ o2, o2 = bufOf L (stepQ 1 L (wdF L o.st) (cdsB o) t).1 (stepQ 1 L (wdF L o.st) (cdsB o) t).2 := ⟨_, rfl⟩
    have hE : Hid (bdoE L o (t : Int) = o2 ∧ bcanB L o (t : Int) = true) := Lib.hid ⟨by unfold bdoE; rw [hg, if_pos rfl, Int.toNat_natCast, ho2], hg⟩
    have hok := stepQ_ok (Or.inl rfl) F.P.prog I h6 ht hcq
    have UB := Lib.hid (fun V => (by
      have := unpbuf_any h L (stepQ 1 L (wdF L o.st) (cdsB o) t).1 (stepQ 1 L (wdF L o.st) (cdsB o) t).2 V F.P.prog hok.1 hok.2
      rw [← ho2] at this
      exact this : Calls Tryz.prog 46 #[PgV h L, QV 1 (stepQ 1 L (wdF L o.st) (cdsB o) t).1 (stepQ 1 L (wdF L o.st) (cdsB o) t).2] V (AnsB V o2)))
    have HF := Lib.hid F
    have HI := Lib.hid I
    have H6 := Lib.hid h6
    have HC := Lib.hid hcq
    have hBW : B ≤ w1.heap.size := by omega
    have g_p : ∀ y : Ws (Fr w1 []), y.val.cell? ⟨w.heap.size, 0, none⟩ = some (.slice h.A L.length h.c) := Ws.same (bs := []) K01.out.lt (K01.out.cell 0)
    have GK := Lib.hid (fun w' (h' : In (Fr w1 []) w') => (show w'.rangeAt (w.heap.size + 1) 0 (#[.slice k.h.A0 o.st.f0.length k.h.c0, .slice k.h.A1 o.st.f1.length k.h.c1, .slice k.h.A2 o.st.f2.length k.h.c2, .slice k.h.A3 o.st.f3.length k.h.c3, .slice k.h.A4 o.st.f4.length k.h.c4, .slice k.k.A o.bs.length k.k.c] : Array Value).toList from by obtain ⟨x, rfl⟩ := h'; exact (K11.out.below x.ok.below K11.out.lt).range))
    have Gp := Lib.hid (fun x : Ws (Fr w1 []) => P1.out.below x.ok.below hBW)
    have Gs := Lib.hid (fun x : Ws (Fr w1 []) => Q1.out.below x.ok.below hBW)
    have Gz := Lib.hid (fun x : Ws (Fr w1 []) => Nat.le_trans hBW x.ok.below.size)
    have HFr := Lib.hid (fr_none w1)
    haveI hne := Nonempty.intro (Ws.mk _ (fr_none w1))
    clear hg HG hsp hcq F I h6 ho2 hok
    go_wp2_with fail
    refine region_tail (C := In (Fr w1 [])) 7 (by kernel_rfl) (In.mk HFr.out.drew) ?_
    simp only [List.take_succ_cons, List.take_zero, List.drop_succ_cons, List.drop_zero]
    repeat (first | (refine qd_r buf_row rfl _ rfl (w.heap.size + 1) 0 rfl _ rfl GK.out ?_; simp only [Act.put, List.setIfInBounds_toArray, List.set_cons_succ, List.set_cons_zero]) | go_big_quiet_step ((first | (go_at_call 47; exact call_in (packbuf_any h L k o _ B (Gp.out _) (Gs.out _) (Gz.out _) HF.out.P HF.out.n HF.out.ok)) | (go_at_call 33; exact call_in (bufstepped_any h L 1 (wdF L o.st) (cdsB o) t _ B (Or.inl rfl) (Gp.out _) (Gz.out _) HF.out.P.prog HI.out.good ht HC.out HI.out.chan H6.out)))))
    refine wpQuiet_nil ?_
    rintro _ ⟨y5, rfl⟩
    have b5 := y5.ok.below
    obtain ⟨w5, hw5⟩ : ∃ w5, w5 = y5.val := ⟨_, rfl⟩
    rw [← hw5] at b5 ⊢
    have B5 := Lib.hid (below_on B1.out b5)
    have z5 := b5.size
    have K25 := Lib.hid (K21.out.below b5 K21.out.lt)
    clear g_p hne hw5 b5 Gp Gs Gz GK
    go_wp2_with fail
    refine (UB.out w5).mono ?_
    rintro en w6 ⟨hu, rfl, hb6, hl6, ov⟩
    have B6 := Lib.hid (below_on B5.out hb6)
    have K26 := Lib.hid (K25.out.below hb6 K25.out.lt)
    have Ov := Lib.hid ov
    have z6 := hb6.size
    clear hb6 ov UB
    go_wp2_with (refine st_r buf_row rfl _ _ rfl (w.heap.size + 1 + 1) rfl 50 _ #[.slice hu.h.A0 o2.st.f0.length hu.h.c0, .slice hu.h.A1 o2.st.f1.length hu.h.c1, .slice hu.h.A2 o2.st.f2.length hu.h.c2, .slice hu.h.A3 o2.st.f3.length hu.h.c3, .slice hu.h.A4 o2.st.f4.length hu.h.c4, .slice hu.k.A o2.bs.length hu.k.c] rfl K26.out rfl rfl (sl6_one _ _ _ _ _ _ _ _ _ _ _ _ _ _ _ _ _ _) ?_; intro V5 s5)
    refine bodyPost_ret (v := .tuple #[BufV hu o2, .bool true]) (res_r2 buf_row rfl rfl rfl s5.bk rfl) rfl ?_
    have := s5.size
    rw [hE.out.1, hE.out.2]
    exact ⟨hu, rfl, B6.out.trans (s5.bel _ (by omega)), by omega, Ov.out.keep (by omega) (by omega) fun q h1 h2 => s5.far q (by omega)⟩
theorem sbufdo_any (h : PgH) (L : Pg) (k : BufH) (o : Buf) (st : Int) (w : World) (B : Nat) (hP : PgR w B h L) (hS : BufR w B k o) (hB : B ≤ w.heap.size) (SP : PgS L) (LS : BufS o) :
    Calls Tryz.prog 17 #[PgV h L, BufV k o, .int .i64 st] w (AnsIBuf w (bdoE L o st) (bcanB L o st)) := by
  obtain ⟨W, hW⟩ : ∃ W, W = ((w.alloc (.cells #[.slice h.A L.length h.c] 40)).alloc (.cells #[.slice k.h.A0 o.st.f0.length k.h.c0, .slice k.h.A1 o.st.f1.length k.h.c1, .slice k.h.A2 o.st.f2.length k.h.c2, .slice k.h.A3 o.st.f3.length k.h.c3, .slice k.h.A4 o.st.f4.length k.h.c4, .slice k.k.A o.bs.length k.k.c] 50)).alloc (.cells #[.slice none 0 0, .slice none 0 0, .slice none 0 0, .slice none 0 0, .slice none 0 0, .slice none 0 0] 50) := ⟨_, rfl⟩
  have bW : Below w.heap.size w W := by rw [hW]; go_grown
  have k0 : Bk W w.heap.size 40 #[.slice h.A L.length h.c] := by rw [hW]; exact ((Bk.new w _ _).alloc _).alloc _
  have k1 : Bk W (w.heap.size + 1) 50 #[.slice k.h.A0 o.st.f0.length k.h.c0, .slice k.h.A1 o.st.f1.length k.h.c1, .slice k.h.A2 o.st.f2.length k.h.c2, .slice k.h.A3 o.st.f3.length k.h.c3, .slice k.h.A4 o.st.f4.length k.h.c4, .slice k.k.A o.bs.length k.k.c] := by
    rw [hW]; have := (Bk.new (w.alloc (.cells #[.slice h.A L.length h.c] 40)) #[.slice k.h.A0 o.st.f0.length k.h.c0, .slice k.h.A1 o.st.f1.length k.h.c1, .slice k.h.A2 o.st.f2.length k.h.c2, .slice k.h.A3 o.st.f3.length k.h.c3, .slice k.h.A4 o.st.f4.length k.h.c4, .slice k.k.A o.bs.length k.k.c] 50).alloc (.cells #[.slice none 0 0, .slice none 0 0, .slice none 0 0, .slice none 0 0, .slice none 0 0, .slice none 0 0] 50)
    rwa [World.size_alloc] at this
  have k2 : Bk W (w.heap.size + 1 + 1) 50 #[.slice none 0 0, .slice none 0 0, .slice none 0 0, .slice none 0 0, .slice none 0 0, .slice none 0 0] := by
    rw [hW]; have := Bk.new ((w.alloc (.cells #[.slice h.A L.length h.c] 40)).alloc (.cells #[.slice k.h.A0 o.st.f0.length k.h.c0, .slice k.h.A1 o.st.f1.length k.h.c1, .slice k.h.A2 o.st.f2.length k.h.c2, .slice k.h.A3 o.st.f3.length k.h.c3, .slice k.h.A4 o.st.f4.length k.h.c4, .slice k.k.A o.bs.length k.k.c] 50)) #[.slice none 0 0, .slice none 0 0, .slice none 0 0, .slice none 0 0, .slice none 0 0, .slice none 0 0] 50
    rwa [World.size_alloc, World.size_alloc] at this
  have P0 := Lib.hid (hP.below bW hB)
  have Q0 := Lib.hid (hS.below bW hB)
  have K0 := Lib.hid k0
  have K1 := Lib.hid k1
  have K2 := Lib.hid k2
  have B0 := Lib.hid bW
  have z0 := bW.size
  have HW := Lib.hid hW
  have cP : W.cell? ⟨w.heap.size, 0, none⟩ = some (.slice h.A L.length h.c) := k0.cell 0
  have lP := k0.lt
  clear hW bW k0 k1 k2 hP hS
  obtain ⟨g, hg⟩ : ∃ g, bcanB L o st = g := ⟨_, rfl⟩
  have HG := Lib.hid hg
  go_enter Tryz.func17, Tryz.ntmps17
  go_wp2_with (first | (rw [← HW.out]) | (refine ld_r buf_row rfl _ rfl (w.heap.size + 1) 0 rfl _ K1.out.range rfl ?_))
  refine (sbufcan_any h L k o st W B P0.out Q0.out (by omega) SP LS g HG).mono ?_
  rintro e w1 ⟨rfl, hb⟩
  have B1 := Lib.hid (below_on B0.out hb)
  have z1 := hb.size
  have K01 := Lib.hid (K0.out.below hb K0.out.lt)
  have K11 := Lib.hid (K1.out.below hb K1.out.lt)
  have K21 := Lib.hid (K2.out.below hb K2.out.lt)
  have P1 := Lib.hid (P0.out.below hb (by omega))
  have Q1 := Lib.hid (Q0.out.below hb (by omega))
  have l2 := K2.out.lt
  clear hb cP lP K0 K1 K2
  cases g with
  | false =>
    have hE : Hid (bdoE L o st = BufE ∧ bcanB L o st = false) := Lib.hid ⟨by unfold bdoE; rw [hg]; rfl, hg⟩
    clear hg HG
    go_wp2_with (refine st_r buf_row rfl _ _ rfl (w.heap.size + 1 + 1) rfl 50 _ #[.slice none 0 0, .slice none 0 0, .slice none 0 0, .slice none 0 0, .slice none 0 0, .slice none 0 0] rfl K21.out rfl rfl (sl6_one _ _ _ _ _ _ _ _ _ _ _ _ _ _ _ _ _ _) ?_; intro V5 s5)
    refine bodyPost_ret (v := .tuple #[.agg #[.slice none 0 0, .slice none 0 0, .slice none 0 0, .slice none 0 0, .slice none 0 0, .slice none 0 0], .bool false]) (res_r2 buf_row rfl rfl rfl s5.bk rfl) rfl ?_
    have := s5.size
    rw [hE.out.1, hE.out.2]
    exact ⟨BufN, rfl, B1.out.trans (s5.bel _ (by omega)), by omega, BufI.none_ _ _ _ _⟩
  | true =>
    have hc2 := hg
    unfold bcanB at hc2
    rw [Bool.and_eq_true] at hc2
    obtain ⟨hsp, hcq⟩ := hc2
    have F := bufB_parts hsp
    have I := vinv_wd F.P
    obtain ⟨t, rfl, ht⟩ := canQ_parts hcq
    have h6 := cdsB_ok F.ok
    obtain ⟨o2, ho2⟩ : ∃ o2, o2 = bufOf L (stepQ 1 L (wdF L o.st) (cdsB o) t).1 (stepQ 1 L (wdF L o.st) (cdsB o) t).2 := ⟨_, rfl⟩
    have hE : Hid (bdoE L o (t : Int) = o2 ∧ bcanB L o (t : Int) = true) := Lib.hid ⟨by unfold bdoE; rw [hg, if_pos rfl, Int.toNat_natCast, ho2], hg⟩
    have hok := stepQ_ok (Or.inl rfl) F.P.prog I h6 ht hcq
    have DO : Hid (∀ V : World, Below w1.heap.size w1 V → Calls Tryz.prog 44 #[PgV h L, BufV k o, .int .i64 (t : Int)] V (AnsI V o2)) := Lib.hid (fun V bV => by
      have hq : BufR V B k (bufOf L (wdF L o.st) (cdsB o)) := by rw [bufOf_wd F]; exact Q1.out.below bV (by omega)
      have := sbdo_any h k L (wdF L o.st) (cdsB o) t V B (P1.out.below bV (by omega)) hq (by have := bV.size; omega) F.P.prog I.good ht hcq I.chan h6
      rw [bufOf_wd F, ← ho2] at this
      exact this)
    clear hg HG hsp hcq F I h6 ho2 hok
    have cP : w1.cell? ⟨w.heap.size, 0, none⟩ = some (.slice h.A L.length h.c) := K01.out.cell 0
    have lP := K01.out.lt
    go_wp2_with (refine ld_r buf_row rfl _ rfl (w.heap.size + 1) 0 rfl _ K11.out.range rfl ?_)
    refine (DO.out w1 (Below.refl _ _)).mono ?_
    rintro en w6 ⟨hu, rfl, hb6, oi6⟩
    have z6 := hb6.size
    have B6 := Lib.hid (below_on B1.out hb6)
    have K26 := Lib.hid (K21.out.below hb6 K21.out.lt)
    have Ov := Lib.hid oi6
    clear hb6 oi6 DO cP lP
    go_wp2_with (refine st_r buf_row rfl _ _ rfl (w.heap.size + 1 + 1) rfl 50 _ #[.slice hu.h.A0 o2.st.f0.length hu.h.c0, .slice hu.h.A1 o2.st.f1.length hu.h.c1, .slice hu.h.A2 o2.st.f2.length hu.h.c2, .slice hu.h.A3 o2.st.f3.length hu.h.c3, .slice hu.h.A4 o2.st.f4.length hu.h.c4, .slice hu.k.A o2.bs.length hu.k.c] rfl K26.out rfl rfl (sl6_one _ _ _ _ _ _ _ _ _ _ _ _ _ _ _ _ _ _) ?_; intro V5 s5)
    refine bodyPost_ret (v := .tuple #[BufV hu o2, .bool true]) (res_r2 buf_row rfl rfl rfl s5.bk rfl) rfl ?_
    have := s5.size
    rw [hE.out.1, hE.out.2]
    exact ⟨hu, rfl, B6.out.trans (s5.bel _ (by omega)), by omega, Ov.out.keep (by omega) (by omega) fun q h1 h2 => s5.far q (by omega)⟩
end Go.Proofs.YtnadihepgmbhaaaGreat
