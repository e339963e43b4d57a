/-
  The walk of the law on Without: it comes to true, whatever the arguments and the memory, and leaves all memory that was there as it was.
-/
import Derived.Test.YtjbgjhcljmikcaaMarkP
import Derived.Test.YtjbgjhcljmikcaaLawProg
namespace Go.Proofs.Ytjbgjhcljmikcaa
open Go.RowKit Pl Go.BigFrame
set_option maxHeartbeats 4000000
set_option linter.unusedVariables false

theorem only_bk {lo hi b : Nat} {t : TypeId} {cs : Array Value} {a w : World} (h : Bk a b t cs) (ho : Only lo hi a w) (hb : b < lo ∨ hi ≤ b) : Bk w b t cs := (ho.block b h.lt hb).trans h
theorem box_at {w : World} {b : Nat} {v : Value} {t : TypeId} (h : Bk w b t #[v]) : w.cell? ⟨b, 0, none⟩ = some v := h.cell 0
theorem total_set_le {L : List (List Sm)} {k : Nat} {zs : List Sm} : ∀ {xs : List Sm}, L[k]? = some xs → zs.length ≤ xs.length → total (L.set k zs) ≤ total L := by
  induction L generalizing k with
  | nil => intro xs h _; simp at h
  | cons y r ih =>
    intro xs h hz
    cases k with
    | zero => simp at h; subst h; simp only [List.set_cons_zero, total_cons]; omega
    | succ k =>
      simp at h
      simp only [List.set_cons_succ, total_cons]
      have := ih h hz; omega
theorem woE_small {L : List (List Sm)} {th at_ : Int} (h : total L ≤ 1048576) (hl : L.length ≤ 1048576) : (woE L th at_).length ≤ 1048576 ∧ total (woE L th at_) ≤ 1048576 := by
  unfold woE
  split
  · refine ⟨by simpa using hl, ?_⟩
    rcases Nat.lt_or_ge th.toNat L.length with h1 | h1
    · have hx : L[th.toNat]? = some L[th.toNat] := List.getElem?_eq_getElem h1
      have := total_set_le (zs := (L.getD th.toNat []).eraseIdx at_.toNat) hx (by rw [List.getD, hx]; exact List.length_eraseIdx_le ..)
      omega
    · rw [List.set_eq_of_length_le h1]; exact h
  · exact ⟨by simp, by simp [total]⟩

theorem lawwithout (A : Option Addr) (c : Nat) (L : List (List Sm)) (th at_ : Int) (w : World) (hR : Rows2 w w.heap.size A L) (hn : L.length ≤ maxLen) :
    Calls Try.prog 11 #[.agg #[.slice A L.length c], .int .i64 th, .int .i64 at_] w fun e w' => e = .returned (.bool true) ∧ Below w.heap.size w w' := by
  obtain ⟨W, hW⟩ : ∃ W, W = w.alloc (.cells #[.slice A L.length c] 45) := ⟨_, rfl⟩
  have hbW : Below w.heap.size w W := by rw [hW]; go_grown
  have hsW : W.heap.size = w.heap.size + 1 := by rw [hW]; simp
  have kW : Bk W w.heap.size 45 #[.slice A L.length c] := by rw [hW]; exact Bk.new _ _ _
  have HW := Lib.hid hW
  have F_0 := Lib.hid kW
  have R_0 := Lib.hid (hR.below hbW (Nat.le_refl _))
  have BEL_0 := Lib.hid hbW
  obtain ⟨z, hz⟩ : ∃ z, sz2 1048576 L = z := ⟨_, rfl⟩
  have Hz := Lib.hid hz
  have hz1 : -1 ≤ z := by rw [← hz]; exact sz2_ge _ _
  clear hW kW hR hz hbW
  by_cases h0 : z < 0
  · have c_F := box_at F_0.out
    go_enter Try.func11, Try.ntmps11
    go_wp2_with fail
    rw [← HW.out]
    refine (szP_any A L c 1048576 W _ R_0.out (by omega) hn (by omega) (by omega) z Hz hz1).mono ?_
    rintro e w1 ⟨rfl, hb⟩
    have hB := below_on BEL_0.out hb
    clear hb c_F
    go_wp2
    go_ret
    exact ⟨rfl, hB⟩
  obtain ⟨hl, hl2⟩ := small_of_sz (L := L) (by rw [Hz.out]; omega)
  have htot : total L ≤ 1048576 := by have := sz2_total (L := L) (left := 1048576) (by rw [Hz.out]; omega); omega
  have Hl2 := Lib.hid hl2
  obtain ⟨E, hE⟩ : ∃ E, woE L th at_ = E := ⟨_, rfl⟩
  obtain ⟨r, hr⟩ : ∃ r, woB L th at_ = r := ⟨_, rfl⟩
  obtain ⟨hEl, hEt⟩ : E.length ≤ 1048576 ∧ total E ≤ 1048576 := by rw [← hE]; exact woE_small htot hl
  have HE := Lib.hid hE
  have Hr := Lib.hid hr
  clear hl2 hE hr
  have c_F := box_at F_0.out
  go_enter Try.func11, Try.ntmps11
  go_wp2_with fail
  rw [← HW.out]
  refine (szP_any A L c 1048576 W _ R_0.out (by omega) hn (by omega) (by omega) z Hz hz1).mono ?_
  rintro e w1 ⟨rfl, hb1⟩
  clear c_F
  have sz_1 := (hb1).size
  have F_1 := Lib.hid ((F_0).out.below hb1 (F_0).out.lt)
  clear F_0
  have R_1 := Lib.hid ((R_0).out.below hb1 (by omega))
  clear R_0
  have BEL_1 := Lib.hid (below_on (BEL_0).out hb1)
  clear BEL_0
  clear hb1
  have c_F := box_at (F_1).out
  have l_F := (F_1).out.lt
  go_wp2_with fail
  refine (toP_any A L c w1 _ (R_1).out (by omega) hl Hl2).mono ?_
  rintro e w2 ⟨A2, c2, rfl, hb2, own2⟩
  clear c_F l_F
  have sz_2 := (hb2).size
  have F_2 := Lib.hid ((F_1).out.below hb2 (F_1).out.lt)
  clear F_1
  have R_2 := Lib.hid ((R_1).out.below hb2 (by omega))
  clear R_1
  have BEL_2 := Lib.hid (below_on (BEL_1).out hb2)
  clear BEL_1
  have o2 := Lib.hid own2
  clear hb2 own2
  go_wp2_with fail
  have hs := swithout_any A2 L c2 th at_ w2 w2.heap.size (o2.out.rows) (Nat.le_refl _) hl Hl2
  rw [HE.out, Hr.out] at hs
  refine hs.mono ?_
  clear hs
  rintro e w3 ⟨Aw, cw, rfl, hb3, in3⟩
  clear o2
  have sz_3 := (hb3).size
  have F_3 := Lib.hid ((F_2).out.below hb3 (F_2).out.lt)
  clear F_2
  have R_3 := Lib.hid ((R_2).out.below hb3 (by omega))
  clear R_2
  have BEL_3 := Lib.hid (below_on (BEL_2).out hb3)
  clear BEL_2
  clear hb3
  have W0_3 := Lib.hid (in3)
  clear in3
  have c_F := box_at (F_3).out
  have l_F := (F_3).out.lt
  go_wp2_with fail
  clear c_F l_F
  obtain ⟨V3, hV3⟩ : ∃ V, V = w3.alloc (.cells #[.slice Aw E.length cw] 25) := ⟨_, rfl⟩
  rw [← hV3]
  have bV3 : Below w3.heap.size w3 V3 := by rw [hV3]; go_grown
  have zV3 : V3.heap.size = w3.heap.size + 1 := by rw [hV3]; simp
  have kV3 : Bk V3 w3.heap.size 25 #[.slice Aw E.length cw] := by rw [hV3]; exact Bk.new _ _ _
  have sz_4 := (bV3).size
  have F_4 := Lib.hid ((F_3).out.below bV3 (F_3).out.lt)
  clear F_3
  have R_4 := Lib.hid ((R_3).out.below bV3 (by omega))
  clear R_3
  have BEL_4 := Lib.hid (below_on (BEL_3).out bV3)
  clear BEL_3
  have W0_4 := Lib.hid ((W0_3).out.below bV3 (by omega))
  clear W0_3
  have B8_4 := Lib.hid (kV3)
  clear hV3 bV3 kV3
  refine (toP_any A L c V3 _ (R_4).out (by omega) hl Hl2).mono ?_
  rintro e w4 ⟨A4, c4, rfl, hb4, own4⟩
  have sz_5 := (hb4).size
  have F_5 := Lib.hid ((F_4).out.below hb4 (F_4).out.lt)
  clear F_4
  have R_5 := Lib.hid ((R_4).out.below hb4 (by omega))
  clear R_4
  have BEL_5 := Lib.hid (below_on (BEL_4).out hb4)
  clear BEL_4
  have W0_5 := Lib.hid ((W0_4).out.below hb4 (by omega))
  clear W0_4
  have B8_5 := Lib.hid ((B8_4).out.below hb4 (B8_4).out.lt)
  clear B8_4
  clear hb4
  have X_5 := Lib.hid (own4)
  clear own4
  have c_F := box_at (F_5).out
  have l_F := (F_5).out.lt
  go_wp2_with fail
  clear c_F l_F
  obtain ⟨V4, hV4⟩ : ∃ V, V = w4.alloc (.cells #[.slice A4 L.length c4] 25) := ⟨_, rfl⟩
  rw [← hV4]
  have bV4 : Below w4.heap.size w4 V4 := by rw [hV4]; go_grown
  have zV4 : V4.heap.size = w4.heap.size + 1 := by rw [hV4]; simp
  have kV4 : Bk V4 w4.heap.size 25 #[.slice A4 L.length c4] := by rw [hV4]; exact Bk.new _ _ _
  have sz_6 := (bV4).size
  have F_6 := Lib.hid ((F_5).out.below bV4 (F_5).out.lt)
  clear F_5
  have R_6 := Lib.hid ((R_5).out.below bV4 (by omega))
  clear R_5
  have BEL_6 := Lib.hid (below_on (BEL_5).out bV4)
  clear BEL_5
  have W0_6 := Lib.hid ((W0_5).out.below bV4 (by omega))
  clear W0_5
  have B8_6 := Lib.hid ((B8_5).out.below bV4 (B8_5).out.lt)
  clear B8_5
  have X_6 := Lib.hid ((X_5).out.below bV4 (by omega))
  clear X_5
  have B10_6 := Lib.hid (kV4)
  clear hV4 bV4 kV4
  have hs := iwithout_any A4 L c4 th at_ V4 w4.heap.size (X_6).out.rows (by omega) hl Hl2
  rw [HE.out, Hr.out] at hs
  refine hs.mono ?_
  clear hs
  rintro e w5 ⟨A5, c5, rfl, hb5, own5⟩
  have sz_7 := (hb5).size
  have F_7 := Lib.hid ((F_6).out.below hb5 (F_6).out.lt)
  clear F_6
  have R_7 := Lib.hid ((R_6).out.below hb5 (by omega))
  clear R_6
  have BEL_7 := Lib.hid (below_on (BEL_6).out hb5)
  clear BEL_6
  have W0_7 := Lib.hid ((W0_6).out.below hb5 (by omega))
  clear W0_6
  have B8_7 := Lib.hid ((B8_6).out.below hb5 (B8_6).out.lt)
  clear B8_6
  have X_7 := Lib.hid ((X_6).out.below hb5 (by omega))
  clear X_6
  have B10_7 := Lib.hid ((B10_6).out.below hb5 (B10_6).out.lt)
  clear B10_6
  clear hb5
  have Gp_7 := Lib.hid (own5)
  clear own5
  have c_B8 := box_at (B8_7).out
  have l_B8 := (B8_7).out.lt
  go_wp2_with fail
  clear c_B8 l_B8
  obtain ⟨V5, hV5⟩ : ∃ V, V = w5.alloc (.cells #[.slice A5 E.length c5] 25) := ⟨_, rfl⟩
  rw [← hV5]
  have bV5 : Below w5.heap.size w5 V5 := by rw [hV5]; go_grown
  have zV5 : V5.heap.size = w5.heap.size + 1 := by rw [hV5]; simp
  have kV5 : Bk V5 w5.heap.size 25 #[.slice A5 E.length c5] := by rw [hV5]; exact Bk.new _ _ _
  have sz_8 := (bV5).size
  have F_8 := Lib.hid ((F_7).out.below bV5 (F_7).out.lt)
  clear F_7
  have R_8 := Lib.hid ((R_7).out.below bV5 (by omega))
  clear R_7
  have BEL_8 := Lib.hid (below_on (BEL_7).out bV5)
  clear BEL_7
  have W0_8 := Lib.hid ((W0_7).out.below bV5 (by omega))
  clear W0_7
  have B8_8 := Lib.hid ((B8_7).out.below bV5 (B8_7).out.lt)
  clear B8_7
  have X_8 := Lib.hid ((X_7).out.below bV5 (by omega))
  clear X_7
  have B10_8 := Lib.hid ((B10_7).out.below bV5 (B10_7).out.lt)
  clear B10_7
  have Gp_8 := Lib.hid ((Gp_7).out.below bV5 (by omega))
  clear Gp_7
  have B11_8 := Lib.hid (kV5)
  clear hV5 bV5 kV5
  refine (eqP_any A5 Aw E E c5 cw V5 V5.heap.size ((Gp_8).out.rows.up (Below.refl _ _) (by omega) (by omega)) ((W0_8).out.rows.up (Below.refl _ _) (by omega) (by omega)) (Nat.le_refl _) (by unfold maxLen; omega) (by unfold maxLen; omega) true (Lib.hid (by simp))).mono ?_
  rintro e w6 ⟨rfl, hb6⟩
  have sz_9 := (hb6).size
  have F_9 := Lib.hid ((F_8).out.below hb6 (F_8).out.lt)
  clear F_8
  have R_9 := Lib.hid ((R_8).out.below hb6 (by omega))
  clear R_8
  have BEL_9 := Lib.hid (below_on (BEL_8).out hb6)
  clear BEL_8
  have W0_9 := Lib.hid ((W0_8).out.below hb6 (by omega))
  clear W0_8
  have B8_9 := Lib.hid ((B8_8).out.below hb6 (B8_8).out.lt)
  clear B8_8
  have X_9 := Lib.hid ((X_8).out.below hb6 (by omega))
  clear X_8
  have B10_9 := Lib.hid ((B10_8).out.below hb6 (B10_8).out.lt)
  clear B10_8
  have Gp_9 := Lib.hid ((Gp_8).out.below hb6 (by omega))
  clear Gp_8
  have B11_9 := Lib.hid ((B11_8).out.below hb6 (B11_8).out.lt)
  clear B11_8
  clear hb6
  have c_F := box_at (F_9).out
  have l_F := (F_9).out.lt
  have c_B10 := box_at (B10_9).out
  have l_B10 := (B10_9).out.lt
  go_wp2_with fail
  go_region_held3 (fun w' => w'.cell? ⟨w4.heap.size, 0, none⟩ = some (.slice A4 L.length c4) ∧ w'.cell? ⟨w.heap.size, 0, none⟩ = some (.slice A L.length c)) (first | (exact ⟨c_B10, c_F⟩) | (exact ⟨d_B10, d_F⟩) | (exact ⟨e_B10, e_F⟩)) (first | (go_at_call 26; refine (toP_any A L c w6.drew _ ((R_9).out.below (Below.refl _ _).drew (Nat.le_refl _)) (show _ ≤ w6.heap.size by omega) hl Hl2).mono ?_; rintro e w7 ⟨A7, c7, rfl, hb7, own7⟩; have B7 := Lib.hid ((Below.refl w6.heap.size w6).drew.trans hb7); have zw7 : w6.heap.size ≤ w7.heap.size := hb7.size; have d_B10 := box_at ((B10_9).out.below B7.out (B10_9).out.lt); have d_F := box_at ((F_9).out.below B7.out (F_9).out.lt); have O7 := Lib.hid own7.rows; clear hb7 own7) | (go_at_call 27; refine (eqP_any A4 A7 L L c4 c7 w7 w7.heap.size ((X_9).out.rows.up B7.out (by omega) (by omega)) O7.out (Nat.le_refl _) hn hn true (Lib.hid (by simp))).mono ?_; rintro e w8 ⟨rfl, hb8⟩; have B8w := Lib.hid (below_on B7.out hb8); have e_B10 := box_at ((B10_9).out.below B8w.out (B10_9).out.lt); have e_F := box_at ((F_9).out.below B8w.out (F_9).out.lt); clear hb8))
  have hb8 := B8w.out
  clear c_F l_F c_B10 l_B10 d_F d_B10 e_F e_B10 O7 B7 zw7
  have sz_10 := (hb8).size
  have F_10 := Lib.hid ((F_9).out.below hb8 (F_9).out.lt)
  clear F_9
  have R_10 := Lib.hid ((R_9).out.below hb8 (by omega))
  clear R_9
  have BEL_10 := Lib.hid (below_on (BEL_9).out hb8)
  clear BEL_9
  have W0_10 := Lib.hid ((W0_9).out.below hb8 (by omega))
  clear W0_9
  have B8_10 := Lib.hid ((B8_9).out.below hb8 (B8_9).out.lt)
  clear B8_9
  have X_10 := Lib.hid ((X_9).out.below hb8 (by omega))
  clear X_9
  have B10_10 := Lib.hid ((B10_9).out.below hb8 (B10_9).out.lt)
  clear B10_9
  have Gp_10 := Lib.hid ((Gp_9).out.below hb8 (by omega))
  clear Gp_9
  have B11_10 := Lib.hid ((B11_9).out.below hb8 (B11_9).out.lt)
  clear B11_9
  clear hb8 B8w
  try clear hHeld
  have c_B10 := box_at (B10_10).out
  have l_B10 := (B10_10).out.lt
  go_wp2_with fail
  refine (markP_any A4 L c4 1 w8 V3.heap.size w4.heap.size (X_10).out (by omega) hl htot (by omega) (by omega)).mono ?_
  rintro e w9 ⟨rfl, ho9, own9⟩
  clear c_B10 l_B10
  clear own9
  have sz_11 := (ho9).size
  have F_11 := Lib.hid (only_bk (F_10).out ho9 (by omega))
  clear F_10
  have R_11 := Lib.hid ((R_10).out.below ((ho9).to_below (B := w.heap.size) (by omega) (by omega)) (Nat.le_refl _))
  clear R_10
  have BEL_11 := Lib.hid ((BEL_10).out.trans ((ho9).to_below (by omega) (by omega)))
  clear BEL_10
  have W0_11 := Lib.hid ((W0_10).out.keep (Nat.le_refl _) (Nat.le_refl _) fun i h1 h2 => (ho9).block i (by omega) (by omega))
  clear W0_10
  have B8_11 := Lib.hid (only_bk (B8_10).out ho9 (by omega))
  clear B8_10
  clear X_10
  have B10_11 := Lib.hid (only_bk (B10_10).out ho9 (by omega))
  clear B10_10
  have Gp_11 := Lib.hid ((Gp_10).out.keep (Nat.le_refl _) (Nat.le_refl _) fun i h1 h2 => (ho9).block i (by omega) (by omega))
  clear Gp_10
  have B11_11 := Lib.hid (only_bk (B11_10).out ho9 (by omega))
  clear B11_10
  clear ho9
  have c_B8 := box_at (B8_11).out
  have l_B8 := (B8_11).out.lt
  have c_B11 := box_at (B11_11).out
  have l_B11 := (B11_11).out.lt
  go_wp2_with fail
  clear c_B8 l_B8 c_B11 l_B11
  refine (eqP_any A5 Aw E E c5 cw w9 w9.heap.size ((Gp_11).out.rows.up (Below.refl _ _) (by omega) (by omega)) ((W0_11).out.rows.up (Below.refl _ _) (by omega) (by omega)) (Nat.le_refl _) (by unfold maxLen; omega) (by unfold maxLen; omega) true (Lib.hid (by simp))).mono ?_
  rintro e w10 ⟨rfl, hb10⟩
  have sz_12 := (hb10).size
  have F_12 := Lib.hid ((F_11).out.below hb10 (F_11).out.lt)
  clear F_11
  have R_12 := Lib.hid ((R_11).out.below hb10 (by omega))
  clear R_11
  have BEL_12 := Lib.hid (below_on (BEL_11).out hb10)
  clear BEL_11
  have W0_12 := Lib.hid ((W0_11).out.below hb10 (by omega))
  clear W0_11
  have B8_12 := Lib.hid ((B8_11).out.below hb10 (B8_11).out.lt)
  clear B8_11
  have B10_12 := Lib.hid ((B10_11).out.below hb10 (B10_11).out.lt)
  clear B10_11
  have Gp_12 := Lib.hid ((Gp_11).out.below hb10 (by omega))
  clear Gp_11
  have B11_12 := Lib.hid ((B11_11).out.below hb10 (B11_11).out.lt)
  clear B11_11
  clear hb10
  have c_B11 := box_at (B11_12).out
  have l_B11 := (B11_12).out.lt
  go_wp2_with fail
  refine (markP_any A5 E c5 1 w10 V4.heap.size w5.heap.size (Gp_12).out (by omega) hEl hEt (by omega) (by omega)).mono ?_
  rintro e w11 ⟨rfl, ho11, own11⟩
  clear c_B11 l_B11
  have sz_13 := (ho11).size
  have F_13 := Lib.hid (only_bk (F_12).out ho11 (by omega))
  clear F_12
  have R_13 := Lib.hid ((R_12).out.below ((ho11).to_below (B := w.heap.size) (by omega) (by omega)) (Nat.le_refl _))
  clear R_12
  have BEL_13 := Lib.hid ((BEL_12).out.trans ((ho11).to_below (by omega) (by omega)))
  clear BEL_12
  have W0_13 := Lib.hid ((W0_12).out.keep (Nat.le_refl _) (Nat.le_refl _) fun i h1 h2 => (ho11).block i (by omega) (by omega))
  clear W0_12
  have B8_13 := Lib.hid (only_bk (B8_12).out ho11 (by omega))
  clear B8_12
  have B10_13 := Lib.hid (only_bk (B10_12).out ho11 (by omega))
  clear B10_12
  clear Gp_12
  have B11_13 := Lib.hid (only_bk (B11_12).out ho11 (by omega))
  clear B11_12
  clear ho11
  have M_13 := Lib.hid (own11)
  clear own11
  have c_B11 := box_at (B11_13).out
  have l_B11 := (B11_13).out.lt
  go_wp2_with fail
  refine (heldP_any A5 E c5 1 w11 _ (M_13).out.rows (by omega) hEl hEt (by omega) (by omega)).mono ?_
  rintro e w12 ⟨rfl, hb12⟩
  clear c_B11 l_B11
  have sz_14 := (hb12).size
  have F_14 := Lib.hid ((F_13).out.below hb12 (F_13).out.lt)
  clear F_13
  have R_14 := Lib.hid ((R_13).out.below hb12 (by omega))
  clear R_13
  have BEL_14 := Lib.hid (below_on (BEL_13).out hb12)
  clear BEL_13
  have W0_14 := Lib.hid ((W0_13).out.below hb12 (by omega))
  clear W0_13
  have B8_14 := Lib.hid ((B8_13).out.below hb12 (B8_13).out.lt)
  clear B8_13
  have B10_14 := Lib.hid ((B10_13).out.below hb12 (B10_13).out.lt)
  clear B10_13
  have B11_14 := Lib.hid ((B11_13).out.below hb12 (B11_13).out.lt)
  clear B11_13
  have M_14 := Lib.hid ((M_13).out.below hb12 (by omega))
  clear M_13
  clear hb12
  have c_F := box_at (F_14).out
  have l_F := (F_14).out.lt
  go_wp2_with fail
  refine (toP_any A L c w12 _ (R_14).out (by omega) hl Hl2).mono ?_
  rintro e w13 ⟨A13, c13, rfl, hb13, own13⟩
  clear c_F l_F
  have sz_15 := (hb13).size
  have F_15 := Lib.hid ((F_14).out.below hb13 (F_14).out.lt)
  clear F_14
  have R_15 := Lib.hid ((R_14).out.below hb13 (by omega))
  clear R_14
  have BEL_15 := Lib.hid (below_on (BEL_14).out hb13)
  clear BEL_14
  have W0_15 := Lib.hid ((W0_14).out.below hb13 (by omega))
  clear W0_14
  have B8_15 := Lib.hid ((B8_14).out.below hb13 (B8_14).out.lt)
  clear B8_14
  have B10_15 := Lib.hid ((B10_14).out.below hb13 (B10_14).out.lt)
  clear B10_14
  have B11_15 := Lib.hid ((B11_14).out.below hb13 (B11_14).out.lt)
  clear B11_14
  have M_15 := Lib.hid ((M_14).out.below hb13 (by omega))
  clear M_14
  have o13 := Lib.hid own13
  clear hb13 own13
  go_wp2_with fail
  have hs := iwithout_any A13 L c13 th at_ w13 w13.heap.size (o13.out.rows) (Nat.le_refl _) hl Hl2
  rw [HE.out, Hr.out] at hs
  refine hs.mono ?_
  clear hs
  rintro e w14 ⟨A14, c14, rfl, hb14, own14⟩
  clear o13
  have sz_16 := (hb14).size
  have F_16 := Lib.hid ((F_15).out.below hb14 (F_15).out.lt)
  clear F_15
  have R_16 := Lib.hid ((R_15).out.below hb14 (by omega))
  clear R_15
  have BEL_16 := Lib.hid (below_on (BEL_15).out hb14)
  clear BEL_15
  have W0_16 := Lib.hid ((W0_15).out.below hb14 (by omega))
  clear W0_15
  have B8_16 := Lib.hid ((B8_15).out.below hb14 (B8_15).out.lt)
  clear B8_15
  have B10_16 := Lib.hid ((B10_15).out.below hb14 (B10_15).out.lt)
  clear B10_15
  have B11_16 := Lib.hid ((B11_15).out.below hb14 (B11_15).out.lt)
  clear B11_15
  have M_16 := Lib.hid ((M_15).out.below hb14 (by omega))
  clear M_15
  clear hb14
  have Hp_16 := Lib.hid (own14)
  clear own14
  have c_B8 := box_at (B8_16).out
  have l_B8 := (B8_16).out.lt
  go_wp2_with fail
  clear c_B8 l_B8
  obtain ⟨V16, hV16⟩ : ∃ V, V = w14.alloc (.cells #[.slice A14 E.length c14] 25) := ⟨_, rfl⟩
  rw [← hV16]
  have bV16 : Below w14.heap.size w14 V16 := by rw [hV16]; go_grown
  have zV16 : V16.heap.size = w14.heap.size + 1 := by rw [hV16]; simp
  have kV16 : Bk V16 w14.heap.size 25 #[.slice A14 E.length c14] := by rw [hV16]; exact Bk.new _ _ _
  have sz_17 := (bV16).size
  have F_17 := Lib.hid ((F_16).out.below bV16 (F_16).out.lt)
  clear F_16
  have R_17 := Lib.hid ((R_16).out.below bV16 (by omega))
  clear R_16
  have BEL_17 := Lib.hid (below_on (BEL_16).out bV16)
  clear BEL_16
  have W0_17 := Lib.hid ((W0_16).out.below bV16 (by omega))
  clear W0_16
  have B8_17 := Lib.hid ((B8_16).out.below bV16 (B8_16).out.lt)
  clear B8_16
  have B10_17 := Lib.hid ((B10_16).out.below bV16 (B10_16).out.lt)
  clear B10_16
  have B11_17 := Lib.hid ((B11_16).out.below bV16 (B11_16).out.lt)
  clear B11_16
  have M_17 := Lib.hid ((M_16).out.below bV16 (by omega))
  clear M_16
  have Hp_17 := Lib.hid ((Hp_16).out.below bV16 (by omega))
  clear Hp_16
  have B16_17 := Lib.hid (kV16)
  clear hV16 bV16 kV16
  refine (eqP_any A14 Aw E E c14 cw V16 V16.heap.size ((Hp_17).out.rows.up (Below.refl _ _) (by omega) (by omega)) ((W0_17).out.rows.up (Below.refl _ _) (by omega) (by omega)) (Nat.le_refl _) (by unfold maxLen; omega) (by unfold maxLen; omega) true (Lib.hid (by simp))).mono ?_
  rintro e w15 ⟨rfl, hb15⟩
  have sz_18 := (hb15).size
  have F_18 := Lib.hid ((F_17).out.below hb15 (F_17).out.lt)
  clear F_17
  have R_18 := Lib.hid ((R_17).out.below hb15 (by omega))
  clear R_17
  have BEL_18 := Lib.hid (below_on (BEL_17).out hb15)
  clear BEL_17
  have W0_18 := Lib.hid ((W0_17).out.below hb15 (by omega))
  clear W0_17
  have B8_18 := Lib.hid ((B8_17).out.below hb15 (B8_17).out.lt)
  clear B8_17
  have B10_18 := Lib.hid ((B10_17).out.below hb15 (B10_17).out.lt)
  clear B10_17
  have B11_18 := Lib.hid ((B11_17).out.below hb15 (B11_17).out.lt)
  clear B11_17
  have M_18 := Lib.hid ((M_17).out.below hb15 (by omega))
  clear M_17
  have Hp_18 := Lib.hid ((Hp_17).out.below hb15 (by omega))
  clear Hp_17
  have B16_18 := Lib.hid ((B16_17).out.below hb15 (B16_17).out.lt)
  clear B16_17
  clear hb15
  have c_B11 := box_at (B11_18).out
  have l_B11 := (B11_18).out.lt
  go_wp2_with fail
  refine (heldP_any A5 E c5 1 w15 _ (M_18).out.rows (by omega) hEl hEt (by omega) (by omega)).mono ?_
  rintro e w16 ⟨rfl, hb16⟩
  clear c_B11 l_B11
  have sz_19 := (hb16).size
  have F_19 := Lib.hid ((F_18).out.below hb16 (F_18).out.lt)
  clear F_18
  have R_19 := Lib.hid ((R_18).out.below hb16 (by omega))
  clear R_18
  have BEL_19 := Lib.hid (below_on (BEL_18).out hb16)
  clear BEL_18
  have W0_19 := Lib.hid ((W0_18).out.below hb16 (by omega))
  clear W0_18
  have B8_19 := Lib.hid ((B8_18).out.below hb16 (B8_18).out.lt)
  clear B8_18
  have B10_19 := Lib.hid ((B10_18).out.below hb16 (B10_18).out.lt)
  clear B10_18
  have B11_19 := Lib.hid ((B11_18).out.below hb16 (B11_18).out.lt)
  clear B11_18
  have M_19 := Lib.hid ((M_18).out.below hb16 (by omega))
  clear M_18
  have Hp_19 := Lib.hid ((Hp_18).out.below hb16 (by omega))
  clear Hp_18
  have B16_19 := Lib.hid ((B16_18).out.below hb16 (B16_18).out.lt)
  clear B16_18
  clear hb16
  have hfin := (BEL_19).out
  go_wp2
  go_ret
  exact ⟨rfl, hfin⟩

end Go.Proofs.Ytjbgjhcljmikcaa
