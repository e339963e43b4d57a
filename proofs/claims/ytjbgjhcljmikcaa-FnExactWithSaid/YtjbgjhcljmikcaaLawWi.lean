/-
  The walk of the law on With: it comes to true, whatever the arguments and the memory, and leaves all memory that was there as it was.
-/
import Derived.Test.YtjbgjhcljmikcaaCutWi
namespace Go.Proofs.Ytjbgjhcljmikcaa
open Go.RowKit Pl Go.BigFrame
set_option maxHeartbeats 8000000
set_option maxRecDepth 100000
set_option linter.unusedVariables false

theorem wiE_small {L : List (List Sm)} {th at_ : Int} {s : Sm} : (wiE L th at_ s).length ≤ 1048576 ∧ total (wiE L th at_ s) ≤ 1048576 := by
  unfold wiE
  split
  · rename_i h
    simp only [wiB, Bool.and_eq_true] at h
    have h1 := prog_small h.2
    have h2 := h.2
    simp only [progB, Bool.and_eq_true, decide_eq_true_eq] at h2
    exact ⟨by omega, by omega⟩
  · exact ⟨by simp, by simp [total]⟩

theorem lawwith (A : Option Addr) (c : Nat) (L : List (List Sm)) (th at_ : Int) (s : Sm) (w : World) (hR : Rows2 w w.heap.size A L) (hn : L.length ≤ maxLen) :
    Calls Try.prog 12 #[.agg #[.slice A L.length c], .int .i64 th, .int .i64 at_, s.val] w fun e w' => e = .returned (.bool true) ∧ Below w.heap.size w w' := by
  obtain ⟨W, hW⟩ : ∃ W, W = (w.alloc (.cells #[.slice A L.length c] 45)).alloc (.cells #[.int .i64 s.k, .int .i64 s.a, .int .i64 s.b, .int .i64 s.c, .bool s.s] 39) := ⟨_, rfl⟩
  have hbW : Below w.heap.size w W := by rw [hW]; go_grown
  have hsW : W.heap.size = w.heap.size + 1 + 1 := by rw [hW]; simp
  have kW : Bk W w.heap.size 45 #[.slice A L.length c] := by rw [hW]; exact (Bk.new w #[.slice A L.length c] 45).alloc _
  have kS : Bk W (w.heap.size + 1) 39 #[.int .i64 s.k, .int .i64 s.a, .int .i64 s.b, .int .i64 s.c, .bool s.s] := by
    rw [hW]; have := Bk.new (w.alloc (.cells #[.slice A L.length c] 45)) #[.int .i64 s.k, .int .i64 s.a, .int .i64 s.b, .int .i64 s.c, .bool s.s] 39
    rwa [World.size_alloc] at this
  have S_0 := Lib.hid kS
  clear kS
  have HW := Lib.hid hW
  have F_0 := Lib.hid kW
  have R_0 := Lib.hid (hR.below hbW (Nat.le_refl _))
  have BEL_0 := Lib.hid hbW
  obtain ⟨z, hz⟩ : ∃ z, sz2 1048576 L = z := ⟨_, rfl⟩
  have Hz := Lib.hid hz
  have hz1 : -1 ≤ z := by rw [← hz]; exact sz2_ge _ _
  clear hW kW hR hz hbW
  by_cases h0 : z < 0
  · have c_F := box_at F_0.out
    go_enter Try.func12, Try.ntmps12
    go_wp2_with fail
    rw [← HW.out]
    refine (szP_any A L c 1048576 W _ R_0.out (by omega) hn (by omega) (by omega) z Hz hz1).mono ?_
    rintro e w1 ⟨rfl, hb⟩
    have hB := below_on BEL_0.out hb
    clear hb c_F
    go_wp2
    go_ret
    exact ⟨rfl, hB⟩
  obtain ⟨hl, hl2⟩ := small_of_sz (L := L) (by rw [Hz.out]; omega)
  have htot : total L ≤ 1048576 := by have := sz2_total (L := L) (left := 1048576) (by rw [Hz.out]; omega); omega
  have Hl2 := Lib.hid hl2
  obtain ⟨E, hE⟩ : ∃ E, wiE L th at_ s = E := ⟨_, rfl⟩
  obtain ⟨r, hr⟩ : ∃ r, wiB L th at_ s = r := ⟨_, rfl⟩
  obtain ⟨hEl, hEt⟩ : E.length ≤ 1048576 ∧ total E ≤ 1048576 := by rw [← hE]; exact wiE_small
  have HE := Lib.hid hE
  have Hr := Lib.hid hr
  clear hl2 hE hr
  have c_F := box_at F_0.out
  obtain ⟨s0, s1, s2, s3, s4⟩ := five_cells (S_0).out
  have l_S := (S_0).out.lt
  have hsw := fun (A' : Option Addr) (c' : Nat) (w' V' : World) (lo : Nat) (ho : OwnRows2 w' lo w'.heap.size A' L) (hb : Below w'.heap.size w' V') => swith_any A' L c' th at_ s V' w'.heap.size (ho.rows.below hb (Nat.le_refl _)) hb.size hl Hl2
  rw [HE.out, Hr.out] at hsw
  have Hsw := Lib.hid hsw
  have hiw := fun (A' : Option Addr) (c' : Nat) (V' : World) (lo hi : Nat) (ho : OwnRows2 V' lo hi A' L) (hs : hi ≤ V'.heap.size) => iwith_any A' L c' th at_ s V' hi ho.rows hs hl
  rw [HE.out, Hr.out] at hiw
  have Hiw := Lib.hid hiw
  clear hsw hiw
  go_enter Try.func12, Try.ntmps12
  go_wp2_with fail
  rw [← HW.out]
  refine (szP_any A L c 1048576 W _ R_0.out (by omega) hn (by omega) (by omega) z Hz hz1).mono ?_
  rintro e w1 ⟨rfl, hb1⟩
  clear c_F
  clear s0 s1 s2 s3 s4 l_S
  have sz_1 := (hb1).size
  have F_1 := Lib.hid ((F_0).out.below hb1 (F_0).out.lt)
  clear F_0
  have S_1 := Lib.hid ((S_0).out.below hb1 (S_0).out.lt)
  clear S_0
  have R_1 := Lib.hid ((R_0).out.below hb1 (by omega))
  clear R_0
  have BEL_1 := Lib.hid (below_on (BEL_0).out hb1)
  clear BEL_0
  clear hb1
  have hiw2 := fun (A' : Option Addr) (c' : Nat) (w' V' : World) (lo : Nat) (ho : OwnRows2 w' lo w'.heap.size A' L) (hb : Below w'.heap.size w' V') => Hiw.out A' c' V' lo w'.heap.size (ho.below hb (Nat.le_refl _)) hb.size
  have Hiw2 := Lib.hid hiw2
  clear hiw2
  have c_F := box_at (F_1).out
  have l_F := (F_1).out.lt
  obtain ⟨s0, s1, s2, s3, s4⟩ := five_cells (S_1).out
  have l_S := (S_1).out.lt
  have allS : ∀ w', Below w1.heap.size w1 w' → (Below w1.heap.size w1 w' ∧ w'.cell? ⟨w.heap.size, 0, none⟩ = some (.slice A L.length c) ∧ (w'.cell? ⟨w.heap.size + 1, 0, none⟩ = some (.int .i64 s.k) ∧ w'.cell? ⟨w.heap.size + 1, 1, none⟩ = some (.int .i64 s.a) ∧ w'.cell? ⟨w.heap.size + 1, 2, none⟩ = some (.int .i64 s.b) ∧ w'.cell? ⟨w.heap.size + 1, 3, none⟩ = some (.int .i64 s.c) ∧ w'.cell? ⟨w.heap.size + 1, 4, none⟩ = some (.bool s.s))) := fun w' hb => ⟨hb, box_at ((F_1).out.below hb (F_1).out.lt), five_cells ((S_1).out.below hb (S_1).out.lt)⟩
  have AllS := Lib.hid allS
  clear allS
  go_upto_region 5 with (fail)
  go_cut [10, 11] (fun sa sb wx => GotI w1 E r sa sb wx)
  case first =>
    go_region_held3 (fun w' => Below w1.heap.size w1 w' ∧ w'.cell? ⟨w.heap.size, 0, none⟩ = some (.slice A L.length c) ∧ (w'.cell? ⟨w.heap.size + 1, 0, none⟩ = some (.int .i64 s.k) ∧ w'.cell? ⟨w.heap.size + 1, 1, none⟩ = some (.int .i64 s.a) ∧ w'.cell? ⟨w.heap.size + 1, 2, none⟩ = some (.int .i64 s.b) ∧ w'.cell? ⟨w.heap.size + 1, 3, none⟩ = some (.int .i64 s.c) ∧ w'.cell? ⟨w.heap.size + 1, 4, none⟩ = some (.bool s.s))) (first | (go_split_ands; exact AllS.out _ (by go_grown)) | (exact AllS.out _ (by go_grown))) (first | (go_at_call 26; go_split_ands; refine (toP_any A L c _ w.heap.size ((R_1).out.below (show Below w1.heap.size w1 _ from by go_grown) (by omega)) (Nat.le_trans (by omega) (show Below w1.heap.size w1 _ from by go_grown).size) hl Hl2).mono ?_; rintro e v1 ⟨Av, cv, rfl, hv1, ov1⟩; obtain ⟨hcc1, hff1⟩ := bcell hv1; have Ov := Lib.hid ov1; have hBv1 : Below w1.heap.size w1 v1 := below_on (by go_grown) hv1; have hz1v := hv1.size; (try simp at hz1v); have hy1 := hBv1.size; (try (have hs11 : w1.heap.size < v1.heap.size := (by omega))); have k11 := Lib.hid hv1; clear ov1 hv1) | (go_at_call 23; go_split_ands; refine (toStmt_any _ _ _ _ _ _).mono ?_; rintro e v2 ⟨rfl, hv2⟩; obtain ⟨hcc2, hff2⟩ := bcell hv2; have hBv2 : Below w1.heap.size w1 v2 := below_on (by go_grown) hv2; have hB12 : Below v1.heap.size v1 v2 := below_on (by go_grown) hv2; have hz2v := hv2.size; (try simp at hz2v); have hy2 := hBv2.size; (try (have hs12 : w1.heap.size < v2.heap.size := (by omega))); (try (have hs22 : v1.heap.size < v2.heap.size := (by omega))); have k22 := Lib.hid hv2; clear hv2) | (go_at_call 15; go_split_ands; refine (Hsw.out Av cv _ _ _ Ov.out (by go_grown)).mono ?_; rintro e v3 ⟨Aw, cw, rfl, hv3, iv3⟩; obtain ⟨hcc3, hff3⟩ := bcell hv3; have Iv := Lib.hid iv3; have hBv3 : Below w1.heap.size w1 v3 := below_on (by go_grown) hv3; have hz3v := hv3.size; (try simp at hz3v); have hy3 := hBv3.size; (try (have hs13 : w1.heap.size < v3.heap.size := (by omega))); (try (have hs23 : v1.heap.size < v3.heap.size := (by omega))); (try (have hs33 : v2.heap.size < v3.heap.size := (by omega))); have k33 := Lib.hid hv3; clear iv3 hv3))
    all_goals go_wp2_with fail
    all_goals go_meet
    all_goals first | exact gotI_late hBv2 k33.out Iv.out | exact gotI_early (hBv2.alloc hy2 _) (Bk.new _ _ _) hy2 k33.out Iv.out | exact gotI_early hBv2 ((Bk.new _ _ _).below k22.out (by simp)) hy1 k33.out Iv.out | exact gotI_early hBv2 (((bk_drew (Bk.new w1 #[.slice none 0 0] 25)).below k11.out (by show _ < (World.alloc _ _).heap.size; simp)).below k22.out (by omega)) (Nat.le_refl _) k33.out Iv.out
  clear AllS
  obtain ⟨b8, Aw, cw, lo0, hi0, rfl, rfl, hb5, hk5, hi5, i15, i25, i35, i45, i55, i65⟩ := hcut
  obtain ⟨y5, rfl⟩ : ∃ V, V = wc := ⟨_, rfl⟩
  clear c_F l_F
  clear s0 s1 s2 s3 s4 l_S
  have sz_2 := (hb5).size
  have F_2 := Lib.hid ((F_1).out.below hb5 (F_1).out.lt)
  clear F_1
  have S_2 := Lib.hid ((S_1).out.below hb5 (S_1).out.lt)
  clear S_1
  have R_2 := Lib.hid ((R_1).out.below hb5 (by omega))
  clear R_1
  have BEL_2 := Lib.hid (below_on (BEL_1).out hb5)
  clear BEL_1
  clear hb5
  have B8_2 := Lib.hid (hk5)
  have W0_2 := Lib.hid (hi5)
  clear hk5 hi5
  have c_F := box_at (F_2).out
  have l_F := (F_2).out.lt
  go_wp2_with fail
  clear c_F l_F
  refine (toP_any A L c y5 _ (R_2).out (by omega) hl Hl2).mono ?_
  rintro e w4 ⟨A4, c4, rfl, hb4, own4⟩
  have sz_3 := (hb4).size
  have F_3 := Lib.hid ((F_2).out.below hb4 (F_2).out.lt)
  clear F_2
  have S_3 := Lib.hid ((S_2).out.below hb4 (S_2).out.lt)
  clear S_2
  have R_3 := Lib.hid ((R_2).out.below hb4 (by omega))
  clear R_2
  have BEL_3 := Lib.hid (below_on (BEL_2).out hb4)
  clear BEL_2
  have B8_3 := Lib.hid ((B8_2).out.below hb4 (B8_2).out.lt)
  clear B8_2
  have W0_3 := Lib.hid ((W0_2).out.below hb4 (by omega))
  clear W0_2
  clear hb4
  have X_3 := Lib.hid (own4)
  clear own4
  go_upto_region 7 with (fail)
  obtain ⟨V4, hV4⟩ : ∃ V, V = w4.alloc (.cells #[.slice A4 L.length c4] 25) := ⟨_, rfl⟩
  rw [← hV4]
  have bV4 : Below w4.heap.size w4 V4 := by rw [hV4]; go_grown
  have zV4 : V4.heap.size = w4.heap.size + 1 := by rw [hV4]; simp
  have kV4 : Bk V4 w4.heap.size 25 #[.slice A4 L.length c4] := by rw [hV4]; exact Bk.new _ _ _
  have zV4a := Nat.le_of_eq zV4
  have zV4b := Nat.le_of_eq zV4.symm
  clear zV4
  have sz_4 := (bV4).size
  have F_4 := Lib.hid ((F_3).out.below bV4 (F_3).out.lt)
  clear F_3
  have S_4 := Lib.hid ((S_3).out.below bV4 (S_3).out.lt)
  clear S_3
  have R_4 := Lib.hid ((R_3).out.below bV4 (by omega))
  clear R_3
  have BEL_4 := Lib.hid (below_on (BEL_3).out bV4)
  clear BEL_3
  have B8_4 := Lib.hid ((B8_3).out.below bV4 (B8_3).out.lt)
  clear B8_3
  have W0_4 := Lib.hid ((W0_3).out.below bV4 (by omega))
  clear W0_3
  have X_4 := Lib.hid ((X_3).out.below bV4 (by omega))
  clear X_3
  have B10_4 := Lib.hid (kV4)
  clear hV4 bV4 kV4
  have c_F := box_at (F_4).out
  have l_F := (F_4).out.lt
  obtain ⟨s0, s1, s2, s3, s4⟩ := five_cells (S_4).out
  have l_S := (S_4).out.lt
  have c_B10 := box_at (B10_4).out
  have l_B10 := (B10_4).out.lt
  have allS : ∀ w', Below V4.heap.size V4 w' → (Below V4.heap.size V4 w' ∧ w'.cell? ⟨w4.heap.size, 0, none⟩ = some (.slice A4 L.length c4) ∧ (w'.cell? ⟨w.heap.size + 1, 0, none⟩ = some (.int .i64 s.k) ∧ w'.cell? ⟨w.heap.size + 1, 1, none⟩ = some (.int .i64 s.a) ∧ w'.cell? ⟨w.heap.size + 1, 2, none⟩ = some (.int .i64 s.b) ∧ w'.cell? ⟨w.heap.size + 1, 3, none⟩ = some (.int .i64 s.c) ∧ w'.cell? ⟨w.heap.size + 1, 4, none⟩ = some (.bool s.s))) := fun w' hb => ⟨hb, box_at ((B10_4).out.below hb (B10_4).out.lt), five_cells ((S_4).out.below hb (S_4).out.lt)⟩
  have AllS := Lib.hid allS
  clear allS
  go_upto_region 7 with (fail)
  go_cut [13, 14] (fun sa sb wx => GotO V4 E r sa sb wx)
  case first =>
    go_region_held3 (fun w' => Below V4.heap.size V4 w' ∧ w'.cell? ⟨w4.heap.size, 0, none⟩ = some (.slice A4 L.length c4) ∧ (w'.cell? ⟨w.heap.size + 1, 0, none⟩ = some (.int .i64 s.k) ∧ w'.cell? ⟨w.heap.size + 1, 1, none⟩ = some (.int .i64 s.a) ∧ w'.cell? ⟨w.heap.size + 1, 2, none⟩ = some (.int .i64 s.b) ∧ w'.cell? ⟨w.heap.size + 1, 3, none⟩ = some (.int .i64 s.c) ∧ w'.cell? ⟨w.heap.size + 1, 4, none⟩ = some (.bool s.s))) (first | (go_split_ands; exact AllS.out _ (by go_grown)) | (exact AllS.out _ (by go_grown))) (first | (go_at_call 23; go_split_ands; refine (toStmt_any _ _ _ _ _ _).mono ?_; rintro e v2 ⟨rfl, hv2⟩; obtain ⟨hcc2, hff2⟩ := bcell hv2; have hBv2 : Below V4.heap.size V4 v2 := below_on (by go_grown) hv2; have hz2v := hv2.size; (try simp at hz2v); have hy2 := hBv2.size; (try (have hs12 : V4.heap.size < v2.heap.size := (by omega))); have k22 := Lib.hid hv2; clear hv2) | (go_at_call 14; go_split_ands; refine (Hiw.out A4 c4 _ _ _ (OwnRows2.below (X_4).out (show Below V4.heap.size V4 _ from by go_grown) (by omega)) (Nat.le_trans (show w4.heap.size ≤ V4.heap.size by omega) (show Below V4.heap.size V4 _ from by go_grown).size)).mono ?_; rintro e v3 ⟨Aw, cw, rfl, hv3, iv3⟩; obtain ⟨hcc3, hff3⟩ := bcell hv3; have Iv := Lib.hid iv3; have hBv3 : Below V4.heap.size V4 v3 := below_on (by go_grown) hv3; have hz3v := hv3.size; (try simp at hz3v); have hy3 := hBv3.size; (try (have hs13 : V4.heap.size < v3.heap.size := (by omega))); (try (have hs33 : v2.heap.size < v3.heap.size := (by omega))); have k33 := Lib.hid hv3; clear iv3 hv3))
    all_goals go_wp2_with fail
    all_goals go_meet
    all_goals first | exact gotO_late hBv2 k33.out Iv.out | exact gotO_early (hBv2.alloc hy2 _) (Bk.new _ _ _) hy2 k33.out Iv.out | exact gotO_early hBv2 ((bk_drew (Bk.new V4 #[.slice none 0 0] 25)).below k22.out (by show _ < (World.alloc _ _).heap.size; simp)) (Nat.le_refl _) k33.out Iv.out
  clear AllS
  obtain ⟨b11, A5, c5, lo2, hi2, rfl, rfl, hb7, hk7, hi7, i17, i27, i37, i47, i57, i67⟩ := hcut
  obtain ⟨y7, rfl⟩ : ∃ V, V = wc := ⟨_, rfl⟩
  clear c_F l_F c_B10 l_B10
  clear s0 s1 s2 s3 s4 l_S
  have sz_5 := (hb7).size
  have F_5 := Lib.hid ((F_4).out.below hb7 (F_4).out.lt)
  clear F_4
  have S_5 := Lib.hid ((S_4).out.below hb7 (S_4).out.lt)
  clear S_4
  have R_5 := Lib.hid ((R_4).out.below hb7 (by omega))
  clear R_4
  have BEL_5 := Lib.hid (below_on (BEL_4).out hb7)
  clear BEL_4
  have B8_5 := Lib.hid ((B8_4).out.below hb7 (B8_4).out.lt)
  clear B8_4
  have W0_5 := Lib.hid ((W0_4).out.below hb7 (by omega))
  clear W0_4
  have X_5 := Lib.hid ((X_4).out.below hb7 (by omega))
  clear X_4
  have B10_5 := Lib.hid ((B10_4).out.below hb7 (B10_4).out.lt)
  clear B10_4
  clear hb7
  have B11_5 := Lib.hid (hk7)
  have Gp_5 := Lib.hid (hi7)
  clear hk7 hi7
  have c_B8 := box_at (B8_5).out
  have l_B8 := (B8_5).out.lt
  have c_B11 := box_at (B11_5).out
  have l_B11 := (B11_5).out.lt
  go_wp2_with fail
  clear c_B8 l_B8 c_B11 l_B11
  refine (eqP_any A5 Aw E E c5 cw y7 y7.heap.size ((Gp_5).out.rows.up (Below.refl _ _) (by omega) (by omega)) ((W0_5).out.rows.up (Below.refl _ _) (by omega) (by omega)) (Nat.le_refl _) (by unfold maxLen; omega) (by unfold maxLen; omega) true (Lib.hid (by simp))).mono ?_
  rintro e w6 ⟨rfl, hb6⟩
  have sz_6 := (hb6).size
  have F_6 := Lib.hid ((F_5).out.below hb6 (F_5).out.lt)
  clear F_5
  have S_6 := Lib.hid ((S_5).out.below hb6 (S_5).out.lt)
  clear S_5
  have R_6 := Lib.hid ((R_5).out.below hb6 (by omega))
  clear R_5
  have BEL_6 := Lib.hid (below_on (BEL_5).out hb6)
  clear BEL_5
  have B8_6 := Lib.hid ((B8_5).out.below hb6 (B8_5).out.lt)
  clear B8_5
  have W0_6 := Lib.hid ((W0_5).out.below hb6 (by omega))
  clear W0_5
  have X_6 := Lib.hid ((X_5).out.below hb6 (by omega))
  clear X_5
  have B10_6 := Lib.hid ((B10_5).out.below hb6 (B10_5).out.lt)
  clear B10_5
  have B11_6 := Lib.hid ((B11_5).out.below hb6 (B11_5).out.lt)
  clear B11_5
  have Gp_6 := Lib.hid ((Gp_5).out.below hb6 (by omega))
  clear Gp_5
  clear hb6
  have c_F := box_at (F_6).out
  have l_F := (F_6).out.lt
  have c_B10 := box_at (B10_6).out
  have l_B10 := (B10_6).out.lt
  go_wp2_with fail
  go_region_held3 (fun w' => w'.cell? ⟨w4.heap.size, 0, none⟩ = some (.slice A4 L.length c4) ∧ w'.cell? ⟨w.heap.size, 0, none⟩ = some (.slice A L.length c)) (first | (exact ⟨c_B10, c_F⟩) | (exact ⟨d_B10, d_F⟩) | (exact ⟨e_B10, e_F⟩)) (first | (go_at_call 26; refine (toP_any A L c w6.drew _ ((R_6).out.below (Below.refl _ _).drew (Nat.le_refl _)) (show _ ≤ w6.heap.size by omega) hl Hl2).mono ?_; rintro e w7 ⟨A7, c7, rfl, hb7, own7⟩; have B7 := Lib.hid ((Below.refl w6.heap.size w6).drew.trans hb7); have zw7 : w6.heap.size ≤ w7.heap.size := hb7.size; have d_B10 := box_at ((B10_6).out.below B7.out (B10_6).out.lt); have d_F := box_at ((F_6).out.below B7.out (F_6).out.lt); have O7 := Lib.hid own7.rows; clear hb7 own7) | (go_at_call 27; refine (eqP_any A4 A7 L L c4 c7 w7 w7.heap.size ((X_6).out.rows.up B7.out (by omega) (by omega)) O7.out (Nat.le_refl _) hn hn true (Lib.hid (by simp))).mono ?_; rintro e w8 ⟨rfl, hb8⟩; have B8w := Lib.hid (below_on B7.out hb8); have e_B10 := box_at ((B10_6).out.below B8w.out (B10_6).out.lt); have e_F := box_at ((F_6).out.below B8w.out (F_6).out.lt); clear hb8))
  have hb8 := B8w.out
  clear c_F l_F c_B10 l_B10 d_F d_B10 e_F e_B10 O7 B7 zw7
  have sz_7 := (hb8).size
  have F_7 := Lib.hid ((F_6).out.below hb8 (F_6).out.lt)
  clear F_6
  have S_7 := Lib.hid ((S_6).out.below hb8 (S_6).out.lt)
  clear S_6
  have R_7 := Lib.hid ((R_6).out.below hb8 (by omega))
  clear R_6
  have BEL_7 := Lib.hid (below_on (BEL_6).out hb8)
  clear BEL_6
  have B8_7 := Lib.hid ((B8_6).out.below hb8 (B8_6).out.lt)
  clear B8_6
  have W0_7 := Lib.hid ((W0_6).out.below hb8 (by omega))
  clear W0_6
  have X_7 := Lib.hid ((X_6).out.below hb8 (by omega))
  clear X_6
  have B10_7 := Lib.hid ((B10_6).out.below hb8 (B10_6).out.lt)
  clear B10_6
  have B11_7 := Lib.hid ((B11_6).out.below hb8 (B11_6).out.lt)
  clear B11_6
  have Gp_7 := Lib.hid ((Gp_6).out.below hb8 (by omega))
  clear Gp_6
  clear hb8 B8w
  try clear hHeld
  have c_B10 := box_at (B10_7).out
  have l_B10 := (B10_7).out.lt
  go_wp2_with fail
  refine (markP_any A4 L c4 1 w8 y5.heap.size w4.heap.size (X_7).out (by omega) hl htot (by omega) (by omega)).mono ?_
  rintro e w9 ⟨rfl, ho9, own9⟩
  clear c_B10 l_B10
  clear own9
  have sz_8 := (ho9).size
  have F_8 := Lib.hid (only_bk (F_7).out ho9 (by omega))
  clear F_7
  have S_8 := Lib.hid (only_bk (S_7).out ho9 (by omega))
  clear S_7
  have R_8 := Lib.hid ((R_7).out.below ((ho9).to_below (B := w.heap.size) (by omega) (by omega)) (Nat.le_refl _))
  clear R_7
  have BEL_8 := Lib.hid ((BEL_7).out.trans ((ho9).to_below (by omega) (by omega)))
  clear BEL_7
  have B8_8 := Lib.hid (only_bk (B8_7).out ho9 (by omega))
  clear B8_7
  have W0_8 := Lib.hid ((W0_7).out.keep (Nat.le_refl _) (Nat.le_refl _) fun i h1 h2 => (ho9).block i (by omega) (by omega))
  clear W0_7
  clear X_7
  have B10_8 := Lib.hid (only_bk (B10_7).out ho9 (by omega))
  clear B10_7
  have B11_8 := Lib.hid (only_bk (B11_7).out ho9 (by omega))
  clear B11_7
  have Gp_8 := Lib.hid ((Gp_7).out.keep (Nat.le_refl _) (Nat.le_refl _) fun i h1 h2 => (ho9).block i (by omega) (by omega))
  clear Gp_7
  clear ho9
  have c_B8 := box_at (B8_8).out
  have l_B8 := (B8_8).out.lt
  have c_B11 := box_at (B11_8).out
  have l_B11 := (B11_8).out.lt
  go_wp2_with fail
  clear c_B8 l_B8 c_B11 l_B11
  refine (eqP_any A5 Aw E E c5 cw w9 w9.heap.size ((Gp_8).out.rows.up (Below.refl _ _) (by omega) (by omega)) ((W0_8).out.rows.up (Below.refl _ _) (by omega) (by omega)) (Nat.le_refl _) (by unfold maxLen; omega) (by unfold maxLen; omega) true (Lib.hid (by simp))).mono ?_
  rintro e w10 ⟨rfl, hb10⟩
  have sz_9 := (hb10).size
  have F_9 := Lib.hid ((F_8).out.below hb10 (F_8).out.lt)
  clear F_8
  have S_9 := Lib.hid ((S_8).out.below hb10 (S_8).out.lt)
  clear S_8
  have R_9 := Lib.hid ((R_8).out.below hb10 (by omega))
  clear R_8
  have BEL_9 := Lib.hid (below_on (BEL_8).out hb10)
  clear BEL_8
  have B8_9 := Lib.hid ((B8_8).out.below hb10 (B8_8).out.lt)
  clear B8_8
  have W0_9 := Lib.hid ((W0_8).out.below hb10 (by omega))
  clear W0_8
  have B10_9 := Lib.hid ((B10_8).out.below hb10 (B10_8).out.lt)
  clear B10_8
  have B11_9 := Lib.hid ((B11_8).out.below hb10 (B11_8).out.lt)
  clear B11_8
  have Gp_9 := Lib.hid ((Gp_8).out.below hb10 (by omega))
  clear Gp_8
  clear hb10
  have c_B11 := box_at (B11_9).out
  have l_B11 := (B11_9).out.lt
  go_wp2_with fail
  refine (markP_any A5 E c5 1 w10 lo2 hi2 (Gp_9).out (by omega) hEl hEt (by omega) (by omega)).mono ?_
  rintro e w11 ⟨rfl, ho11, own11⟩
  clear c_B11 l_B11
  have sz_10 := (ho11).size
  have F_10 := Lib.hid (only_bk (F_9).out ho11 (by omega))
  clear F_9
  have S_10 := Lib.hid (only_bk (S_9).out ho11 (by omega))
  clear S_9
  have R_10 := Lib.hid ((R_9).out.below ((ho11).to_below (B := w.heap.size) (by omega) (by omega)) (Nat.le_refl _))
  clear R_9
  have BEL_10 := Lib.hid ((BEL_9).out.trans ((ho11).to_below (by omega) (by omega)))
  clear BEL_9
  have B8_10 := Lib.hid (only_bk (B8_9).out ho11 (by omega))
  clear B8_9
  have W0_10 := Lib.hid ((W0_9).out.keep (Nat.le_refl _) (Nat.le_refl _) fun i h1 h2 => (ho11).block i (by omega) (by omega))
  clear W0_9
  have B10_10 := Lib.hid (only_bk (B10_9).out ho11 (by omega))
  clear B10_9
  have B11_10 := Lib.hid (only_bk (B11_9).out ho11 (by omega))
  clear B11_9
  clear Gp_9
  clear ho11
  have M_10 := Lib.hid (own11)
  clear own11
  have c_B11 := box_at (B11_10).out
  have l_B11 := (B11_10).out.lt
  go_wp2_with fail
  refine (heldP_any A5 E c5 1 w11 _ (M_10).out.rows (by omega) hEl hEt (by omega) (by omega)).mono ?_
  rintro e w12 ⟨rfl, hb12⟩
  clear c_B11 l_B11
  have sz_11 := (hb12).size
  have F_11 := Lib.hid ((F_10).out.below hb12 (F_10).out.lt)
  clear F_10
  have S_11 := Lib.hid ((S_10).out.below hb12 (S_10).out.lt)
  clear S_10
  have R_11 := Lib.hid ((R_10).out.below hb12 (by omega))
  clear R_10
  have BEL_11 := Lib.hid (below_on (BEL_10).out hb12)
  clear BEL_10
  have B8_11 := Lib.hid ((B8_10).out.below hb12 (B8_10).out.lt)
  clear B8_10
  have W0_11 := Lib.hid ((W0_10).out.below hb12 (by omega))
  clear W0_10
  have B10_11 := Lib.hid ((B10_10).out.below hb12 (B10_10).out.lt)
  clear B10_10
  have B11_11 := Lib.hid ((B11_10).out.below hb12 (B11_10).out.lt)
  clear B11_10
  have M_11 := Lib.hid ((M_10).out.below hb12 (by omega))
  clear M_10
  clear hb12
  go_upto_region 24 with (fail)
  have c_F := box_at (F_11).out
  have l_F := (F_11).out.lt
  obtain ⟨s0, s1, s2, s3, s4⟩ := five_cells (S_11).out
  have l_S := (S_11).out.lt
  have allS : ∀ w', Below w12.heap.size w12 w' → (Below w12.heap.size w12 w' ∧ w'.cell? ⟨w.heap.size, 0, none⟩ = some (.slice A L.length c) ∧ (w'.cell? ⟨w.heap.size + 1, 0, none⟩ = some (.int .i64 s.k) ∧ w'.cell? ⟨w.heap.size + 1, 1, none⟩ = some (.int .i64 s.a) ∧ w'.cell? ⟨w.heap.size + 1, 2, none⟩ = some (.int .i64 s.b) ∧ w'.cell? ⟨w.heap.size + 1, 3, none⟩ = some (.int .i64 s.c) ∧ w'.cell? ⟨w.heap.size + 1, 4, none⟩ = some (.bool s.s))) := fun w' hb => ⟨hb, box_at ((F_11).out.below hb (F_11).out.lt), five_cells ((S_11).out.below hb (S_11).out.lt)⟩
  have AllS := Lib.hid allS
  clear allS
  go_upto_region 24 with (fail)
  go_cut [18, 19] (fun sa sb wx => GotO w12 E r sa sb wx)
  case first =>
    go_region_held3 (fun w' => Below w12.heap.size w12 w' ∧ w'.cell? ⟨w.heap.size, 0, none⟩ = some (.slice A L.length c) ∧ (w'.cell? ⟨w.heap.size + 1, 0, none⟩ = some (.int .i64 s.k) ∧ w'.cell? ⟨w.heap.size + 1, 1, none⟩ = some (.int .i64 s.a) ∧ w'.cell? ⟨w.heap.size + 1, 2, none⟩ = some (.int .i64 s.b) ∧ w'.cell? ⟨w.heap.size + 1, 3, none⟩ = some (.int .i64 s.c) ∧ w'.cell? ⟨w.heap.size + 1, 4, none⟩ = some (.bool s.s))) (first | (go_split_ands; exact AllS.out _ (by go_grown)) | (exact AllS.out _ (by go_grown))) (first | (go_at_call 26; go_split_ands; refine (toP_any A L c _ w.heap.size ((R_11).out.below (show Below w12.heap.size w12 _ from by go_grown) (by omega)) (Nat.le_trans (by omega) (show Below w12.heap.size w12 _ from by go_grown).size) hl Hl2).mono ?_; rintro e v1 ⟨Av, cv, rfl, hv1, ov1⟩; obtain ⟨hcc1, hff1⟩ := bcell hv1; have Ov := Lib.hid ov1; have hBv1 : Below w12.heap.size w12 v1 := below_on (by go_grown) hv1; have hz1v := hv1.size; (try simp at hz1v); have hy1 := hBv1.size; (try (have hs11 : w12.heap.size < v1.heap.size := (by omega))); have k11 := Lib.hid hv1; clear ov1 hv1) | (go_at_call 23; go_split_ands; refine (toStmt_any _ _ _ _ _ _).mono ?_; rintro e v2 ⟨rfl, hv2⟩; obtain ⟨hcc2, hff2⟩ := bcell hv2; have hBv2 : Below w12.heap.size w12 v2 := below_on (by go_grown) hv2; have hB12 : Below v1.heap.size v1 v2 := below_on (by go_grown) hv2; have hz2v := hv2.size; (try simp at hz2v); have hy2 := hBv2.size; (try (have hs12 : w12.heap.size < v2.heap.size := (by omega))); (try (have hs22 : v1.heap.size < v2.heap.size := (by omega))); have k22 := Lib.hid hv2; clear hv2) | (go_at_call 14; go_split_ands; refine (Hiw2.out Av cv _ _ _ Ov.out (by go_grown)).mono ?_; rintro e v3 ⟨Aw, cw, rfl, hv3, iv3⟩; obtain ⟨hcc3, hff3⟩ := bcell hv3; have Iv := Lib.hid iv3; have hBv3 : Below w12.heap.size w12 v3 := below_on (by go_grown) hv3; have hz3v := hv3.size; (try simp at hz3v); have hy3 := hBv3.size; (try (have hs13 : w12.heap.size < v3.heap.size := (by omega))); (try (have hs23 : v1.heap.size < v3.heap.size := (by omega))); (try (have hs33 : v2.heap.size < v3.heap.size := (by omega))); have k33 := Lib.hid hv3; clear iv3 hv3))
    all_goals go_wp2_with fail
    all_goals go_meet
    all_goals first | exact gotO_late hBv2 k33.out Iv.out | exact gotO_early (hBv2.alloc hy2 _) (Bk.new _ _ _) hy2 k33.out Iv.out | exact gotO_early hBv2 ((Bk.new _ _ _).below k22.out (by simp)) hy1 k33.out Iv.out | exact gotO_early hBv2 (((bk_drew (Bk.new w12 #[.slice none 0 0] 25)).below k11.out (by show _ < (World.alloc _ _).heap.size; simp)).below k22.out (by omega)) (Nat.le_refl _) k33.out Iv.out
  clear AllS
  obtain ⟨b16, A14, c14, lo3, hi3, rfl, rfl, hb24, hk24, hi24, i124, i224, i324, i424, i524, i624⟩ := hcut
  obtain ⟨y24, rfl⟩ : ∃ V, V = wc := ⟨_, rfl⟩
  clear c_F l_F
  clear s0 s1 s2 s3 s4 l_S
  have sz_12 := (hb24).size
  have F_12 := Lib.hid ((F_11).out.below hb24 (F_11).out.lt)
  clear F_11
  have S_12 := Lib.hid ((S_11).out.below hb24 (S_11).out.lt)
  clear S_11
  have R_12 := Lib.hid ((R_11).out.below hb24 (by omega))
  clear R_11
  have BEL_12 := Lib.hid (below_on (BEL_11).out hb24)
  clear BEL_11
  have B8_12 := Lib.hid ((B8_11).out.below hb24 (B8_11).out.lt)
  clear B8_11
  have W0_12 := Lib.hid ((W0_11).out.below hb24 (by omega))
  clear W0_11
  have B10_12 := Lib.hid ((B10_11).out.below hb24 (B10_11).out.lt)
  clear B10_11
  have B11_12 := Lib.hid ((B11_11).out.below hb24 (B11_11).out.lt)
  clear B11_11
  have M_12 := Lib.hid ((M_11).out.below hb24 (by omega))
  clear M_11
  clear hb24
  have B16_12 := Lib.hid (hk24)
  have Hp_12 := Lib.hid (hi24)
  clear hk24 hi24
  have c_B8 := box_at (B8_12).out
  have l_B8 := (B8_12).out.lt
  have c_B16 := box_at (B16_12).out
  have l_B16 := (B16_12).out.lt
  go_wp2_with fail
  clear c_B8 l_B8 c_B16 l_B16
  refine (eqP_any A14 Aw E E c14 cw y24 y24.heap.size ((Hp_12).out.rows.up (Below.refl _ _) (by omega) (by omega)) ((W0_12).out.rows.up (Below.refl _ _) (by omega) (by omega)) (Nat.le_refl _) (by unfold maxLen; omega) (by unfold maxLen; omega) true (Lib.hid (by simp))).mono ?_
  rintro e w15 ⟨rfl, hb15⟩
  have sz_13 := (hb15).size
  have F_13 := Lib.hid ((F_12).out.below hb15 (F_12).out.lt)
  clear F_12
  have S_13 := Lib.hid ((S_12).out.below hb15 (S_12).out.lt)
  clear S_12
  have R_13 := Lib.hid ((R_12).out.below hb15 (by omega))
  clear R_12
  have BEL_13 := Lib.hid (below_on (BEL_12).out hb15)
  clear BEL_12
  have B8_13 := Lib.hid ((B8_12).out.below hb15 (B8_12).out.lt)
  clear B8_12
  have W0_13 := Lib.hid ((W0_12).out.below hb15 (by omega))
  clear W0_12
  have B10_13 := Lib.hid ((B10_12).out.below hb15 (B10_12).out.lt)
  clear B10_12
  have B11_13 := Lib.hid ((B11_12).out.below hb15 (B11_12).out.lt)
  clear B11_12
  have M_13 := Lib.hid ((M_12).out.below hb15 (by omega))
  clear M_12
  have B16_13 := Lib.hid ((B16_12).out.below hb15 (B16_12).out.lt)
  clear B16_12
  have Hp_13 := Lib.hid ((Hp_12).out.below hb15 (by omega))
  clear Hp_12
  clear hb15
  have c_B11 := box_at (B11_13).out
  have l_B11 := (B11_13).out.lt
  go_wp2_with fail
  refine (heldP_any A5 E c5 1 w15 _ (M_13).out.rows (by omega) hEl hEt (by omega) (by omega)).mono ?_
  rintro e w16 ⟨rfl, hb16⟩
  clear c_B11 l_B11
  have sz_14 := (hb16).size
  have F_14 := Lib.hid ((F_13).out.below hb16 (F_13).out.lt)
  clear F_13
  have S_14 := Lib.hid ((S_13).out.below hb16 (S_13).out.lt)
  clear S_13
  have R_14 := Lib.hid ((R_13).out.below hb16 (by omega))
  clear R_13
  have BEL_14 := Lib.hid (below_on (BEL_13).out hb16)
  clear BEL_13
  have B8_14 := Lib.hid ((B8_13).out.below hb16 (B8_13).out.lt)
  clear B8_13
  have W0_14 := Lib.hid ((W0_13).out.below hb16 (by omega))
  clear W0_13
  have B10_14 := Lib.hid ((B10_13).out.below hb16 (B10_13).out.lt)
  clear B10_13
  have B11_14 := Lib.hid ((B11_13).out.below hb16 (B11_13).out.lt)
  clear B11_13
  have M_14 := Lib.hid ((M_13).out.below hb16 (by omega))
  clear M_13
  have B16_14 := Lib.hid ((B16_13).out.below hb16 (B16_13).out.lt)
  clear B16_13
  have Hp_14 := Lib.hid ((Hp_13).out.below hb16 (by omega))
  clear Hp_13
  clear hb16
  have hfin := (BEL_14).out
  go_wp2
  go_ret
  exact ⟨rfl, hfin⟩

end Go.Proofs.Ytjbgjhcljmikcaa
