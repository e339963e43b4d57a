/-
  What the reference model's step over clocks comes to.
-/
import Derived.Test.YtidibnmlceccnaaWk
import Derived.Deep.RegionHeld3
import Derived.BigRegion
namespace Go.Proofs.Ytidibnmlceccnaa
open Go.RowKit Pl Go.BigFrame
set_option maxHeartbeats 8000000
set_option maxRecDepth 100000
set_option linter.unusedVariables false

theorem neZ {w : World} {lo hi m n zb g b : Nat} {S : Nat → Ck} {D : Nat → Nat} {cz : Array Value} (hz : Bk w zb 128 cz) (h : TabC w lo hi g m n S D b) : g ≠ zb := fun e => by
  obtain ⟨_, _, cs, hb, _⟩ := h
  rw [e] at hb
  unfold Bk at hb hz
  rw [hz] at hb
  injection hb with hb
  injection hb with _ hb
  cases hb
theorem step_none (z : WkH) (lo n : Nat) (S : Nat → Ck) (D : Nat → Nat) (tn : Nat) (ti q a bb cc : Int) (ss : Bool) (w : World) (hW0 : Wk w lo w.heap.size n S D z) (hlo : lo ≤ w.heap.size) (hn : n ≤ 3) (ht : tn < n) (hS : ∀ p q, S p q < 128) (h6 : ¬ q = 6) (h7 : ¬ q = 7) (e6 : (q == 6) = false) (e7q : (q == 7) = false) (hch : chanZ q a bb cc ss = -1) :
    Calls Try.prog 100 #[.pointer (some ⟨z.zb, 0, none⟩), Ev tn ti q a bb cc ss] w (Stp w lo n S z ⟨tn, ti, ⟨q, a, bb, cc, ss⟩⟩) := by
  have hn1 : 1 ≤ n := by omega
  obtain ⟨W, hW⟩ : ∃ W, W = w.alloc (.cells #[.int .i64 tn, .int .i64 ti, .int .i64 q, .int .i64 a, .int .i64 bb, .int .i64 cc, .bool ss] 81) := ⟨_, rfl⟩
  have bW : Below w.heap.size w W := by rw [hW]; go_grown
  have sW : W.heap.size = w.heap.size + 1 := by rw [hW]; simp
  have kE : Bk W w.heap.size 81 #[.int .i64 tn, .int .i64 ti, .int .i64 q, .int .i64 a, .int .i64 bb, .int .i64 cc, .bool ss] := by rw [hW]; exact Bk.new _ _ _
  have sWa := Nat.le_of_eq sW
  have sWb := Nat.le_of_eq sW.symm
  have HW := Lib.hid hW
  have KE := Lib.hid kE
  have BW := Lib.hid bW
  have WK := Lib.hid (hW0.below (hi' := W.heap.size) bW (Nat.le_refl _) (by omega))
  have iT : (tn : Int) < (n : Int) := by omega
  obtain ⟨cT0, hT0, -⟩ := WK.out.tT.head ht
  have rT := Lib.hid (WK.out.tT.row ht)
  rw [Nat.zero_add] at hT0 rT
  have hgT0 := hW0.tT.2.1
  have hgL0 := hW0.tL.2.1
  have hgC0 := hW0.tC.2.1
  have hz := WK.out.b0.2
  have hgT := WK.out.tT.2.1
  have hgL := WK.out.tL.2.1
  have hgC := WK.out.tC.2.1
  clear hW bW sW kE hW0
  have x0 : W.cell? ⟨z.zb, 0, none⟩ = some (.slice (some ⟨z.gT, 0, none⟩) n z.cT) := WK.out.bx.cell 0
  have x1 : W.cell? ⟨w.heap.size, 0, none⟩ = some (.int .i64 tn) := KE.out.cell 0
  have x2 : W.cell? ⟨z.gT, tn, none⟩ = some (.slice (some ⟨D tn, 0, none⟩) n cT0) := hT0
  have AllS := Lib.hid (show ∀ w', Below W.heap.size W w' → (w'.cell? ⟨z.zb, 0, none⟩ = some (.slice (some ⟨z.gT, 0, none⟩) n z.cT) ∧ w'.cell? ⟨w.heap.size, 0, none⟩ = some (.int .i64 tn) ∧ w'.cell? ⟨z.gT, tn, none⟩ = some (.slice (some ⟨D tn, 0, none⟩) n cT0)) from fun w' hb => ⟨(hb.cell (p := ⟨z.zb, 0, none⟩) (by show z.zb < W.heap.size; omega)).trans x0, (hb.cell (p := ⟨w.heap.size, 0, none⟩) (by show w.heap.size < W.heap.size; omega)).trans x1, (hb.cell (p := ⟨z.gT, tn, none⟩) (by show z.gT < W.heap.size; omega)).trans x2⟩)
  go_enter Try.func100, Try.ntmps100
  go_wp2_with fail
  rw [← HW.out]
  go_wp2_with fail
  go_region_held3 (fun w' => w'.cell? ⟨z.zb, 0, none⟩ = some (.slice (some ⟨z.gT, 0, none⟩) n z.cT) ∧ w'.cell? ⟨w.heap.size, 0, none⟩ = some (.int .i64 tn) ∧ w'.cell? ⟨z.gT, tn, none⟩ = some (.slice (some ⟨D tn, 0, none⟩) n cT0)) (first | (with_reducible exact Fin.out) | (go_split_ands; refine AllS.out _ ?_; go_grown; done) | (refine AllS.out _ ?_; go_grown; done)) (first | (go_at_call 139; go_split_ands; refine (nums_row (D tn) n cT0 (S tn) _ W.heap.size (rT.out.below (show Below W.heap.size W _ from by go_grown) (Nat.le_refl _)) (show Below W.heap.size W _ from by go_grown).size hn hn1).mono ?_; rintro e v1 ⟨g1, c1, rfl, hg1, hv, hn1v⟩; have hBv1 : Below W.heap.size W v1 := below_on (by go_grown) hv; have hg1 : W.heap.size ≤ g1 := Nat.le_trans (show Below W.heap.size W _ from by go_grown).size hg1; have N1 := Lib.hid hn1v; clear hv hn1v))
  clear AllS hT0
  try clear hHeld
  clear x0 x1 x2
  have z1 := hBv1.size
  have l1 := N1.out.lt
  have kE := KE.out.below hBv1 (by omega)
  have y0 : v1.cell? ⟨w.heap.size, 0, none⟩ = some (.int .i64 tn) := kE.cell 0
  have y1 : v1.cell? ⟨w.heap.size, 1, none⟩ = some (.int .i64 ti) := kE.cell 1
  have y2 : v1.cell? ⟨w.heap.size, 2, none⟩ = some (.int .i64 q) := kE.cell 2
  have y3 : v1.cell? ⟨w.heap.size, 3, none⟩ = some (.int .i64 a) := kE.cell 3
  have y4 : v1.cell? ⟨w.heap.size, 4, none⟩ = some (.int .i64 bb) := kE.cell 4
  have y5 : v1.cell? ⟨w.heap.size, 5, none⟩ = some (.int .i64 cc) := kE.cell 5
  have y6 : v1.cell? ⟨w.heap.size, 6, none⟩ = some (.bool ss) := kE.cell 6
  clear kE
  go_wp2_with fail
  refine (ret_int hch (schan_any q a bb cc ss v1)).mono ?_
  rintro e v4 ⟨rfl, hb4⟩
  clear y0 y1 y2 y3 y4 y5 y6
  have B4 := below_on hBv1 hb4
  have M4 := Lib.hid (N1.out.below hb4)
  have z4 := hb4.size
  have l4 := M4.out.lt
  clear hb4
  have hsm : (S tn) tn < 128 := by exact hS _ _
  obtain ⟨x0, x1⟩ := M4.out.cell ht
  have x2 : v4.cell? ⟨w.heap.size, 0, none⟩ = some (.int .i64 tn) := (KE.out.below B4 (by omega)).cell 0
  have M7 := Lib.hid (M4.out.inc ht)
  have e7 : nowS S ⟨tn, ti, ⟨q, a, bb, cc, ss⟩⟩ = incC (S tn) tn := by
    unfold nowS midS chE; simp only; rw [hch, if_neg (by omega), if_neg h6]; simp
  rw [← e7] at M7
  have E7 := Lib.hid e7
  clear e7
  obtain ⟨cv, hcv⟩ : ∃ cv, (S tn) tn = cv := ⟨_, rfl⟩
  rw [hcv] at x0 M7 hsm
  clear hcv
  go_wp2_with fail
  go_region
  clear x0 x1 x2
  obtain ⟨v7, hv7⟩ : ∃ V, V = (v4.setCell ⟨g1, tn, none⟩ (.int .i64 ((cv : Int) + 1))).drew := ⟨_, rfl⟩
  rw [← hv7]
  have B7 : Below W.heap.size W v7 := by rw [hv7]; exact (B4.setCell (p := ⟨g1, tn, none⟩) (by show W.heap.size ≤ g1; omega) _).trans ⟨rfl, rfl, rfl, Nat.le_refl _, fun _ _ => rfl⟩
  have N7 : NowR v7 g1 n (nowS S ⟨tn, ti, ⟨q, a, bb, cc, ss⟩⟩) := by rw [hv7]; exact M7.out
  skip
  obtain ⟨ck, hck⟩ : ∃ ck, nowS S ⟨tn, ti, ⟨q, a, bb, cc, ss⟩⟩ = ck := ⟨_, rfl⟩
  rw [hck] at N7
  have CK := Lib.hid hck
  have z7 := B7.size
  have l7 := N7.lt
  have M7' := Lib.hid N7
  clear hv7 hck N7 M7 E7
  have K7 := Lib.hid (WK.out.below (hi' := v7.heap.size) B7 (Nat.le_refl _) (by omega))
  have FR := Lib.hid (show ∀ q, q < w.heap.size → q ≠ z.gT → q ≠ z.gL → q ≠ z.gC → v7.heap[q]? = w.heap[q]? from fun q h1 _ _ _ => (B7.block q (by omega)).trans (BW.out.block q h1))
  have KB := Lib.hid (KE.out.below B7 (by omega))
  have BL := Lib.hid (show Below lo w v7 from (BW.out.mono hlo).trans (B7.mono (by omega)))
  have ne8_0 : z.gT ≠ z.zb := neZ WK.out.bx WK.out.tT
  have ne8_1 : z.gT ≠ w.heap.size := by omega
  have ne10_0 : z.gL ≠ z.zb := neZ WK.out.bx WK.out.tL
  have ne10_1 : z.gL ≠ w.heap.size := by omega
  have ne12_0 : z.gC ≠ z.zb := neZ WK.out.bx WK.out.tC
  clear WK KE rT
  obtain ⟨cX, hX, fX⟩ := K7.out.tT.head (i := tn) ht
  have x0 : v7.cell? ⟨z.zb, 0, none⟩ = some (.slice (some ⟨z.gT, 0, none⟩) n z.cT) := K7.out.bx.cell 0
  have x1 : v7.cell? ⟨w.heap.size, 0, none⟩ = some (.int .i64 tn) := KB.out.cell 0
  have AllS := Lib.hid (show ∀ w', Below v7.heap.size v7 w' → (w'.cell? ⟨z.zb, 0, none⟩ = some (.slice (some ⟨z.gT, 0, none⟩) n z.cT) ∧ w'.cell? ⟨w.heap.size, 0, none⟩ = some (.int .i64 tn)) from fun w' hb => ⟨(hb.cell (p := ⟨z.zb, 0, none⟩) (by show z.zb < v7.heap.size; omega)).trans x0, (hb.cell (p := ⟨w.heap.size, 0, none⟩) (by show w.heap.size < v7.heap.size; omega)).trans x1⟩)
  have hggT : z.gT < v7.heap.size := K7.out.tT.2.1
  have AllF := Lib.hid (show ∀ v : World, Below v7.heap.size v7 v → ∀ r : Value, ((v.setCell ⟨z.gT, tn, none⟩ r).cell? ⟨z.zb, 0, none⟩ = some (.slice (some ⟨z.gT, 0, none⟩) n z.cT) ∧ (v.setCell ⟨z.gT, tn, none⟩ r).cell? ⟨w.heap.size, 0, none⟩ = some (.int .i64 tn)) from fun v hBv r => ⟨(World.cell?_setCell_far _ _ _ _ (show z.gT ≠ z.zb from ne8_0)).trans (AllS.out v hBv).1, (World.cell?_setCell_far _ _ _ _ (show z.gT ≠ w.heap.size from ne8_1)).trans (AllS.out v hBv).2⟩)
  go_wp2_with fail
  go_region_held3 (fun w' => w'.cell? ⟨z.zb, 0, none⟩ = some (.slice (some ⟨z.gT, 0, none⟩) n z.cT) ∧ w'.cell? ⟨w.heap.size, 0, none⟩ = some (.int .i64 tn)) (first | (with_reducible exact Fin.out) | (go_split_ands; refine AllS.out _ ?_; go_grown; done) | (refine AllS.out _ ?_; go_grown; done)) (first | (go_at_call 139; go_split_ands; refine (nums_row g1 n c1 ck _ v7.heap.size (M7'.out.vs.below (show Below v7.heap.size v7 _ from by go_grown) (Nat.le_refl _)) (show Below v7.heap.size v7 _ from by go_grown).size hn hn1).mono ?_; rintro e v8 ⟨g8, c8, rfl, hg, hv, hnv⟩; have hBv : Below v7.heap.size v7 v8 := below_on (by go_grown) hv; have HBv := Lib.hid hBv; have hg : v7.heap.size ≤ g8 := Nat.le_trans (show Below v7.heap.size v7 _ from by go_grown).size hg; have NV := Lib.hid hnv; have cX2 := (hBv.cell (p := ⟨z.gT, tn, none⟩) hggT).trans hX; have fX2 : v8.frozen? ⟨z.gT, tn, none⟩ = false := (((K7.out.below hBv (Nat.le_refl _) (hBv.size)).tT).head (i := tn) ht).choose_spec.2; have lX2 : z.gT < v8.heap.size := Nat.lt_of_lt_of_le hggT hBv.size; have Fin := Lib.hid (AllF.out v8 hBv (.slice (some ⟨g8, 0, none⟩) n c8)); clear hv hnv))
  have K8 := Lib.hid (K7.out.putT (c := c8) HBv.out ht hn hg NV.out)
  have zv := HBv.out.size
  have lN := M7'.out.lt
  have neN : g1 ≠ z.gT := fun e => by
    obtain ⟨cs, hb, _⟩ := M7'.out
    obtain ⟨_, _, cs2, hb2, _⟩ := K7.out.tT
    rw [e] at hb
    unfold Bk at hb hb2
    rw [hb2] at hb
    injection hb with hb
    injection hb with _ hb
    cases hb
  have MM := Lib.hid ((M7'.out.below HBv.out).same (Below.heap_setCell v8 ⟨z.gT, tn, none⟩ (.slice (some ⟨g8, 0, none⟩) n c8) g1 neN))
  have FR8 := Lib.hid (show ∀ q, q < w.heap.size → q ≠ z.gT → q ≠ z.gL → q ≠ z.gC → (v8.setCell ⟨z.gT, tn, none⟩ (.slice (some ⟨g8, 0, none⟩) n c8)).heap[q]? = w.heap[q]? from fun q h1 h2 h3 h4 => (Below.heap_setCell v8 ⟨z.gT, tn, none⟩ _ q h2).trans ((HBv.out.block q (by omega)).trans (FR.out q h1 h2 h3 h4)))
  have BE := Lib.hid (show Bk (v8.setCell ⟨z.gT, tn, none⟩ (.slice (some ⟨g8, 0, none⟩) n c8)) w.heap.size 81 #[.int .i64 tn, .int .i64 ti, .int .i64 q, .int .i64 a, .int .i64 bb, .int .i64 cc, .bool ss] from (Below.heap_setCell v8 ⟨z.gT, tn, none⟩ _ w.heap.size (by show w.heap.size ≠ z.gT; omega)).trans (KB.out.below HBv.out KB.out.lt))
  have BL8 := Lib.hid ((BL.out.trans (HBv.out.mono (by omega))).setCell (p := ⟨z.gT, tn, none⟩) (by show lo ≤ z.gT; exact K7.out.tT.1) (.slice (some ⟨g8, 0, none⟩) n c8))
  have ZS : v7.heap.size ≤ (v8.setCell ⟨z.gT, tn, none⟩ (.slice (some ⟨g8, 0, none⟩) n c8)).heap.size := by rw [World.size_setCell]; exact zv
  have ZT : (v8.setCell ⟨z.gT, tn, none⟩ (.slice (some ⟨g8, 0, none⟩) n c8)).heap.size = v8.heap.size := World.size_setCell ..
  clear AllS AllF Fin hX fX cX2 fX2 lX2 hBv
  try clear hHeld
  clear x0 x1
  obtain ⟨u8, hOut⟩ : ∃ V, V = v8.setCell ⟨z.gT, tn, none⟩ (.slice (some ⟨g8, 0, none⟩) n c8) := ⟨_, rfl⟩
  rw [← hOut] at K8 MM FR8 BE BL8 ZS ZT
  rw [← ZT] at K8
  rw [← hOut]
  clear hOut M7' K7 FR KB BL HBv NV neN lN zv
  have M7' := MM
  have K7 := K8
  have FR := FR8
  have KB := BE
  have BL := BL8
  clear MM K8 FR8 BE BL8
  have y2 : u8.cell? ⟨w.heap.size, 2, none⟩ = some (.int .i64 q) := KB.out.cell 2
  have yl := KB.out.lt
  go_wp2
  go_ret
  have en : nextS S ⟨tn, ti, ⟨q, a, bb, cc, ss⟩⟩ = updC S tn ck := by
    unfold nextS unlS chE; rw [CK.out]; simp only; rw [hch, if_neg (by omega), if_neg h7]; simp
  have hK := K7.out
  rw [← en] at hK
  exact ⟨g1, c1, _, rfl, by omega, by rw [CK.out]; exact M7'.out, BL.out, hK, FR.out⟩
theorem step_lock (z : WkH) (lo n : Nat) (S : Nat → Ck) (D : Nat → Nat) (tn : Nat) (ti bb cc : Int) (ss : Bool) (w : World) (hW0 : Wk w lo w.heap.size n S D z) (hlo : lo ≤ w.heap.size) (hn : n ≤ 3) (ht : tn < n) (hS : ∀ p q, S p q < 128) (an : Nat) (han : an < 2) (hch : chanZ 6 (an : Int) bb cc ss = -1) :
    Calls Try.prog 100 #[.pointer (some ⟨z.zb, 0, none⟩), Ev tn ti 6 (an : Int) bb cc ss] w (Stp w lo n S z ⟨tn, ti, ⟨6, (an : Int), bb, cc, ss⟩⟩) := by
  have hn1 : 1 ≤ n := by omega
  obtain ⟨W, hW⟩ : ∃ W, W = w.alloc (.cells #[.int .i64 tn, .int .i64 ti, .int .i64 6, .int .i64 (an : Nat), .int .i64 bb, .int .i64 cc, .bool ss] 81) := ⟨_, rfl⟩
  have bW : Below w.heap.size w W := by rw [hW]; go_grown
  have sW : W.heap.size = w.heap.size + 1 := by rw [hW]; simp
  have kE : Bk W w.heap.size 81 #[.int .i64 tn, .int .i64 ti, .int .i64 6, .int .i64 (an : Nat), .int .i64 bb, .int .i64 cc, .bool ss] := by rw [hW]; exact Bk.new _ _ _
  have sWa := Nat.le_of_eq sW
  have sWb := Nat.le_of_eq sW.symm
  have HW := Lib.hid hW
  have KE := Lib.hid kE
  have BW := Lib.hid bW
  have WK := Lib.hid (hW0.below (hi' := W.heap.size) bW (Nat.le_refl _) (by omega))
  have iT : (tn : Int) < (n : Int) := by omega
  obtain ⟨cT0, hT0, -⟩ := WK.out.tT.head ht
  have rT := Lib.hid (WK.out.tT.row ht)
  rw [Nat.zero_add] at hT0 rT
  have hgT0 := hW0.tT.2.1
  have hgL0 := hW0.tL.2.1
  have hgC0 := hW0.tC.2.1
  have hz := WK.out.b0.2
  have hgT := WK.out.tT.2.1
  have hgL := WK.out.tL.2.1
  have hgC := WK.out.tC.2.1
  clear hW bW sW kE hW0
  have x0 : W.cell? ⟨z.zb, 0, none⟩ = some (.slice (some ⟨z.gT, 0, none⟩) n z.cT) := WK.out.bx.cell 0
  have x1 : W.cell? ⟨w.heap.size, 0, none⟩ = some (.int .i64 tn) := KE.out.cell 0
  have x2 : W.cell? ⟨z.gT, tn, none⟩ = some (.slice (some ⟨D tn, 0, none⟩) n cT0) := hT0
  have AllS := Lib.hid (show ∀ w', Below W.heap.size W w' → (w'.cell? ⟨z.zb, 0, none⟩ = some (.slice (some ⟨z.gT, 0, none⟩) n z.cT) ∧ w'.cell? ⟨w.heap.size, 0, none⟩ = some (.int .i64 tn) ∧ w'.cell? ⟨z.gT, tn, none⟩ = some (.slice (some ⟨D tn, 0, none⟩) n cT0)) from fun w' hb => ⟨(hb.cell (p := ⟨z.zb, 0, none⟩) (by show z.zb < W.heap.size; omega)).trans x0, (hb.cell (p := ⟨w.heap.size, 0, none⟩) (by show w.heap.size < W.heap.size; omega)).trans x1, (hb.cell (p := ⟨z.gT, tn, none⟩) (by show z.gT < W.heap.size; omega)).trans x2⟩)
  go_enter Try.func100, Try.ntmps100
  go_wp2_with fail
  rw [← HW.out]
  go_wp2_with fail
  go_region_held3 (fun w' => w'.cell? ⟨z.zb, 0, none⟩ = some (.slice (some ⟨z.gT, 0, none⟩) n z.cT) ∧ w'.cell? ⟨w.heap.size, 0, none⟩ = some (.int .i64 tn) ∧ w'.cell? ⟨z.gT, tn, none⟩ = some (.slice (some ⟨D tn, 0, none⟩) n cT0)) (first | (with_reducible exact Fin.out) | (go_split_ands; refine AllS.out _ ?_; go_grown; done) | (refine AllS.out _ ?_; go_grown; done)) (first | (go_at_call 139; go_split_ands; refine (nums_row (D tn) n cT0 (S tn) _ W.heap.size (rT.out.below (show Below W.heap.size W _ from by go_grown) (Nat.le_refl _)) (show Below W.heap.size W _ from by go_grown).size hn hn1).mono ?_; rintro e v1 ⟨g1, c1, rfl, hg1, hv, hn1v⟩; have hBv1 : Below W.heap.size W v1 := below_on (by go_grown) hv; have hg1 : W.heap.size ≤ g1 := Nat.le_trans (show Below W.heap.size W _ from by go_grown).size hg1; have N1 := Lib.hid hn1v; clear hv hn1v))
  clear AllS hT0
  try clear hHeld
  clear x0 x1 x2
  have z1 := hBv1.size
  have l1 := N1.out.lt
  have kE := KE.out.below hBv1 (by omega)
  have y0 : v1.cell? ⟨w.heap.size, 0, none⟩ = some (.int .i64 tn) := kE.cell 0
  have y1 : v1.cell? ⟨w.heap.size, 1, none⟩ = some (.int .i64 ti) := kE.cell 1
  have y2 : v1.cell? ⟨w.heap.size, 2, none⟩ = some (.int .i64 6) := kE.cell 2
  have y3 : v1.cell? ⟨w.heap.size, 3, none⟩ = some (.int .i64 (an : Nat)) := kE.cell 3
  have y4 : v1.cell? ⟨w.heap.size, 4, none⟩ = some (.int .i64 bb) := kE.cell 4
  have y5 : v1.cell? ⟨w.heap.size, 5, none⟩ = some (.int .i64 cc) := kE.cell 5
  have y6 : v1.cell? ⟨w.heap.size, 6, none⟩ = some (.bool ss) := kE.cell 6
  clear kE
  go_wp2_with fail
  clear y0 y1 y2 y3 y4 y5 y6
  obtain ⟨cL0, hL0, -⟩ := WK.out.tL.head (i := an) han
  have rL := Lib.hid (WK.out.tL.row (i := an) han)
  have iA : (an : Int) < 2 := by omega
  have x0 : v1.cell? ⟨z.zb, 1, none⟩ = some (.slice (some ⟨z.gL, 0, none⟩) 2 z.cL) := (hBv1.cell (p := ⟨z.zb, 1, none⟩) hz).trans (WK.out.bx.cell 1)
  have x1 : v1.cell? ⟨w.heap.size, 3, none⟩ = some (.int .i64 (an : Nat)) := (KE.out.below hBv1 (by omega)).cell 3
  have x2 : v1.cell? ⟨z.gL, an, none⟩ = some (.slice (some ⟨D (6 + an), 0, none⟩) n cL0) := (hBv1.cell (p := ⟨z.gL, an, none⟩) hgL).trans hL0
  have AllS := Lib.hid (show ∀ w', Below v1.heap.size v1 w' → (w'.cell? ⟨z.zb, 1, none⟩ = some (.slice (some ⟨z.gL, 0, none⟩) 2 z.cL) ∧ w'.cell? ⟨w.heap.size, 3, none⟩ = some (.int .i64 (an : Nat)) ∧ w'.cell? ⟨z.gL, an, none⟩ = some (.slice (some ⟨D (6 + an), 0, none⟩) n cL0)) from fun w' hb => ⟨(hb.cell (p := ⟨z.zb, 1, none⟩) (by show z.zb < v1.heap.size; omega)).trans x0, (hb.cell (p := ⟨w.heap.size, 3, none⟩) (by show w.heap.size < v1.heap.size; omega)).trans x1, (hb.cell (p := ⟨z.gL, an, none⟩) (by show z.gL < v1.heap.size; omega)).trans x2⟩)
  go_region_held3 (fun w' => w'.cell? ⟨z.zb, 1, none⟩ = some (.slice (some ⟨z.gL, 0, none⟩) 2 z.cL) ∧ w'.cell? ⟨w.heap.size, 3, none⟩ = some (.int .i64 (an : Nat)) ∧ w'.cell? ⟨z.gL, an, none⟩ = some (.slice (some ⟨D (6 + an), 0, none⟩) n cL0)) (first | (with_reducible exact Fin.out) | (go_split_ands; refine AllS.out _ ?_; go_grown; done) | (refine AllS.out _ ?_; go_grown; done)) (first | (go_at_call 98; go_split_ands; refine (join_rows g1 c1 (D (6 + an)) cL0 n (S tn) (S (6 + an)) _ v1.heap.size (N1.out.vs.below (show Below v1.heap.size v1 _ from by go_grown) (Nat.le_refl _)) ((rL.out.below hBv1 (Nat.le_refl _)).up (show Below v1.heap.size v1 _ from by go_grown) (by omega) (by omega)) (show Below v1.heap.size v1 _ from by go_grown).size hn hn1).mono ?_; rintro e v2 ⟨g2, c2, rfl, hg2, hv, hn2v⟩; have hBv2 : Below v1.heap.size v1 v2 := below_on (by go_grown) hv; have hg2 : v1.heap.size ≤ g2 := Nat.le_trans (show Below v1.heap.size v1 _ from by go_grown).size hg2; have N2 := Lib.hid hn2v; clear hv hn2v))
  clear AllS hL0
  try clear hHeld
  clear x0 x1 x2
  have B2 := below_on hBv1 hBv2
  have z2 := B2.size
  have l2 := N2.out.lt
  have kE := KE.out.below B2 (by omega)
  have y0 : v2.cell? ⟨w.heap.size, 0, none⟩ = some (.int .i64 tn) := kE.cell 0
  have y1 : v2.cell? ⟨w.heap.size, 1, none⟩ = some (.int .i64 ti) := kE.cell 1
  have y2 : v2.cell? ⟨w.heap.size, 2, none⟩ = some (.int .i64 6) := kE.cell 2
  have y3 : v2.cell? ⟨w.heap.size, 3, none⟩ = some (.int .i64 (an : Nat)) := kE.cell 3
  have y4 : v2.cell? ⟨w.heap.size, 4, none⟩ = some (.int .i64 bb) := kE.cell 4
  have y5 : v2.cell? ⟨w.heap.size, 5, none⟩ = some (.int .i64 cc) := kE.cell 5
  have y6 : v2.cell? ⟨w.heap.size, 6, none⟩ = some (.bool ss) := kE.cell 6
  clear kE
  go_wp2_with fail
  refine (ret_int hch (schan_any _ _ bb cc ss v2)).mono ?_
  rintro e v4 ⟨rfl, hb4⟩
  clear y0 y1 y2 y3 y4 y5 y6
  have B4 := below_on B2 hb4
  have M4 := Lib.hid (N2.out.below hb4)
  have z4 := hb4.size
  have l4 := M4.out.lt
  clear hb4
  have hsm : (joinC (S tn) (S (6 + an))) tn < 128 := by have h1 := hS tn tn; have h2 := hS (6 + an) tn; simp only [joinC]; omega
  obtain ⟨x0, x1⟩ := M4.out.cell ht
  have x2 : v4.cell? ⟨w.heap.size, 0, none⟩ = some (.int .i64 tn) := (KE.out.below B4 (by omega)).cell 0
  have M7 := Lib.hid (M4.out.inc ht)
  have e7 : nowS S ⟨tn, ti, ⟨6, (an : Int), bb, cc, ss⟩⟩ = incC (joinC (S tn) (S (6 + an))) tn := by
    unfold nowS midS chE; simp only; rw [hch, if_neg (by omega), if_pos trivial]; simp
  rw [← e7] at M7
  have E7 := Lib.hid e7
  clear e7
  obtain ⟨cv, hcv⟩ : ∃ cv, (joinC (S tn) (S (6 + an))) tn = cv := ⟨_, rfl⟩
  rw [hcv] at x0 M7 hsm
  clear hcv
  go_wp2_with fail
  go_region
  clear x0 x1 x2
  obtain ⟨v7, hv7⟩ : ∃ V, V = (v4.setCell ⟨g2, tn, none⟩ (.int .i64 ((cv : Int) + 1))).drew := ⟨_, rfl⟩
  rw [← hv7]
  have B7 : Below W.heap.size W v7 := by rw [hv7]; exact (B4.setCell (p := ⟨g2, tn, none⟩) (by show W.heap.size ≤ g2; omega) _).trans ⟨rfl, rfl, rfl, Nat.le_refl _, fun _ _ => rfl⟩
  have N7 : NowR v7 g2 n (nowS S ⟨tn, ti, ⟨6, (an : Int), bb, cc, ss⟩⟩) := by rw [hv7]; exact M7.out
  skip
  obtain ⟨ck, hck⟩ : ∃ ck, nowS S ⟨tn, ti, ⟨6, (an : Int), bb, cc, ss⟩⟩ = ck := ⟨_, rfl⟩
  rw [hck] at N7
  have CK := Lib.hid hck
  have z7 := B7.size
  have l7 := N7.lt
  have M7' := Lib.hid N7
  clear hv7 hck N7 M7 E7
  have K7 := Lib.hid (WK.out.below (hi' := v7.heap.size) B7 (Nat.le_refl _) (by omega))
  have FR := Lib.hid (show ∀ q, q < w.heap.size → q ≠ z.gT → q ≠ z.gL → q ≠ z.gC → v7.heap[q]? = w.heap[q]? from fun q h1 _ _ _ => (B7.block q (by omega)).trans (BW.out.block q h1))
  have KB := Lib.hid (KE.out.below B7 (by omega))
  have BL := Lib.hid (show Below lo w v7 from (BW.out.mono hlo).trans (B7.mono (by omega)))
  have ne8_0 : z.gT ≠ z.zb := neZ WK.out.bx WK.out.tT
  have ne8_1 : z.gT ≠ w.heap.size := by omega
  have ne10_0 : z.gL ≠ z.zb := neZ WK.out.bx WK.out.tL
  have ne10_1 : z.gL ≠ w.heap.size := by omega
  have ne12_0 : z.gC ≠ z.zb := neZ WK.out.bx WK.out.tC
  clear WK KE rT
  obtain ⟨cX, hX, fX⟩ := K7.out.tT.head (i := tn) ht
  have x0 : v7.cell? ⟨z.zb, 0, none⟩ = some (.slice (some ⟨z.gT, 0, none⟩) n z.cT) := K7.out.bx.cell 0
  have x1 : v7.cell? ⟨w.heap.size, 0, none⟩ = some (.int .i64 tn) := KB.out.cell 0
  have AllS := Lib.hid (show ∀ w', Below v7.heap.size v7 w' → (w'.cell? ⟨z.zb, 0, none⟩ = some (.slice (some ⟨z.gT, 0, none⟩) n z.cT) ∧ w'.cell? ⟨w.heap.size, 0, none⟩ = some (.int .i64 tn)) from fun w' hb => ⟨(hb.cell (p := ⟨z.zb, 0, none⟩) (by show z.zb < v7.heap.size; omega)).trans x0, (hb.cell (p := ⟨w.heap.size, 0, none⟩) (by show w.heap.size < v7.heap.size; omega)).trans x1⟩)
  have hggT : z.gT < v7.heap.size := K7.out.tT.2.1
  have AllF := Lib.hid (show ∀ v : World, Below v7.heap.size v7 v → ∀ r : Value, ((v.setCell ⟨z.gT, tn, none⟩ r).cell? ⟨z.zb, 0, none⟩ = some (.slice (some ⟨z.gT, 0, none⟩) n z.cT) ∧ (v.setCell ⟨z.gT, tn, none⟩ r).cell? ⟨w.heap.size, 0, none⟩ = some (.int .i64 tn)) from fun v hBv r => ⟨(World.cell?_setCell_far _ _ _ _ (show z.gT ≠ z.zb from ne8_0)).trans (AllS.out v hBv).1, (World.cell?_setCell_far _ _ _ _ (show z.gT ≠ w.heap.size from ne8_1)).trans (AllS.out v hBv).2⟩)
  go_wp2_with fail
  go_region_held3 (fun w' => w'.cell? ⟨z.zb, 0, none⟩ = some (.slice (some ⟨z.gT, 0, none⟩) n z.cT) ∧ w'.cell? ⟨w.heap.size, 0, none⟩ = some (.int .i64 tn)) (first | (with_reducible exact Fin.out) | (go_split_ands; refine AllS.out _ ?_; go_grown; done) | (refine AllS.out _ ?_; go_grown; done)) (first | (go_at_call 139; go_split_ands; refine (nums_row g2 n c2 ck _ v7.heap.size (M7'.out.vs.below (show Below v7.heap.size v7 _ from by go_grown) (Nat.le_refl _)) (show Below v7.heap.size v7 _ from by go_grown).size hn hn1).mono ?_; rintro e v8 ⟨g8, c8, rfl, hg, hv, hnv⟩; have hBv : Below v7.heap.size v7 v8 := below_on (by go_grown) hv; have HBv := Lib.hid hBv; have hg : v7.heap.size ≤ g8 := Nat.le_trans (show Below v7.heap.size v7 _ from by go_grown).size hg; have NV := Lib.hid hnv; have cX2 := (hBv.cell (p := ⟨z.gT, tn, none⟩) hggT).trans hX; have fX2 : v8.frozen? ⟨z.gT, tn, none⟩ = false := (((K7.out.below hBv (Nat.le_refl _) (hBv.size)).tT).head (i := tn) ht).choose_spec.2; have lX2 : z.gT < v8.heap.size := Nat.lt_of_lt_of_le hggT hBv.size; have Fin := Lib.hid (AllF.out v8 hBv (.slice (some ⟨g8, 0, none⟩) n c8)); clear hv hnv))
  have K8 := Lib.hid (K7.out.putT (c := c8) HBv.out ht hn hg NV.out)
  have zv := HBv.out.size
  have lN := M7'.out.lt
  have neN : g2 ≠ z.gT := fun e => by
    obtain ⟨cs, hb, _⟩ := M7'.out
    obtain ⟨_, _, cs2, hb2, _⟩ := K7.out.tT
    rw [e] at hb
    unfold Bk at hb hb2
    rw [hb2] at hb
    injection hb with hb
    injection hb with _ hb
    cases hb
  have MM := Lib.hid ((M7'.out.below HBv.out).same (Below.heap_setCell v8 ⟨z.gT, tn, none⟩ (.slice (some ⟨g8, 0, none⟩) n c8) g2 neN))
  have FR8 := Lib.hid (show ∀ q, q < w.heap.size → q ≠ z.gT → q ≠ z.gL → q ≠ z.gC → (v8.setCell ⟨z.gT, tn, none⟩ (.slice (some ⟨g8, 0, none⟩) n c8)).heap[q]? = w.heap[q]? from fun q h1 h2 h3 h4 => (Below.heap_setCell v8 ⟨z.gT, tn, none⟩ _ q h2).trans ((HBv.out.block q (by omega)).trans (FR.out q h1 h2 h3 h4)))
  have BE := Lib.hid (show Bk (v8.setCell ⟨z.gT, tn, none⟩ (.slice (some ⟨g8, 0, none⟩) n c8)) w.heap.size 81 #[.int .i64 tn, .int .i64 ti, .int .i64 6, .int .i64 (an : Nat), .int .i64 bb, .int .i64 cc, .bool ss] from (Below.heap_setCell v8 ⟨z.gT, tn, none⟩ _ w.heap.size (by show w.heap.size ≠ z.gT; omega)).trans (KB.out.below HBv.out KB.out.lt))
  have BL8 := Lib.hid ((BL.out.trans (HBv.out.mono (by omega))).setCell (p := ⟨z.gT, tn, none⟩) (by show lo ≤ z.gT; exact K7.out.tT.1) (.slice (some ⟨g8, 0, none⟩) n c8))
  have ZS : v7.heap.size ≤ (v8.setCell ⟨z.gT, tn, none⟩ (.slice (some ⟨g8, 0, none⟩) n c8)).heap.size := by rw [World.size_setCell]; exact zv
  have ZT : (v8.setCell ⟨z.gT, tn, none⟩ (.slice (some ⟨g8, 0, none⟩) n c8)).heap.size = v8.heap.size := World.size_setCell ..
  clear AllS AllF Fin hX fX cX2 fX2 lX2 hBv
  try clear hHeld
  clear x0 x1
  obtain ⟨u8, hOut⟩ : ∃ V, V = v8.setCell ⟨z.gT, tn, none⟩ (.slice (some ⟨g8, 0, none⟩) n c8) := ⟨_, rfl⟩
  rw [← hOut] at K8 MM FR8 BE BL8 ZS ZT
  rw [← ZT] at K8
  rw [← hOut]
  clear hOut M7' K7 FR KB BL HBv NV neN lN zv
  have M7' := MM
  have K7 := K8
  have FR := FR8
  have KB := BE
  have BL := BL8
  clear MM K8 FR8 BE BL8
  have y2 : u8.cell? ⟨w.heap.size, 2, none⟩ = some (.int .i64 6) := KB.out.cell 2
  have yl := KB.out.lt
  go_wp2
  go_ret
  have en : nextS S ⟨tn, ti, ⟨6, (an : Int), bb, cc, ss⟩⟩ = updC S tn ck := by
    unfold nextS unlS chE; rw [CK.out]; simp only; rw [hch, if_neg (by omega), if_neg (by omega)]; simp
  have hK := K7.out
  rw [← en] at hK
  exact ⟨g2, c2, _, rfl, by omega, by rw [CK.out]; exact M7'.out, BL.out, hK, FR.out⟩
theorem step_free (z : WkH) (lo n : Nat) (S : Nat → Ck) (D : Nat → Nat) (tn : Nat) (ti bb cc : Int) (ss : Bool) (w : World) (hW0 : Wk w lo w.heap.size n S D z) (hlo : lo ≤ w.heap.size) (hn : n ≤ 3) (ht : tn < n) (hS : ∀ p q, S p q < 128) (an : Nat) (han : an < 2) (hch : chanZ 7 (an : Int) bb cc ss = -1) :
    Calls Try.prog 100 #[.pointer (some ⟨z.zb, 0, none⟩), Ev tn ti 7 (an : Int) bb cc ss] w (Stp w lo n S z ⟨tn, ti, ⟨7, (an : Int), bb, cc, ss⟩⟩) := by
  have hn1 : 1 ≤ n := by omega
  obtain ⟨W, hW⟩ : ∃ W, W = w.alloc (.cells #[.int .i64 tn, .int .i64 ti, .int .i64 7, .int .i64 (an : Nat), .int .i64 bb, .int .i64 cc, .bool ss] 81) := ⟨_, rfl⟩
  have bW : Below w.heap.size w W := by rw [hW]; go_grown
  have sW : W.heap.size = w.heap.size + 1 := by rw [hW]; simp
  have kE : Bk W w.heap.size 81 #[.int .i64 tn, .int .i64 ti, .int .i64 7, .int .i64 (an : Nat), .int .i64 bb, .int .i64 cc, .bool ss] := by rw [hW]; exact Bk.new _ _ _
  have sWa := Nat.le_of_eq sW
  have sWb := Nat.le_of_eq sW.symm
  have HW := Lib.hid hW
  have KE := Lib.hid kE
  have BW := Lib.hid bW
  have WK := Lib.hid (hW0.below (hi' := W.heap.size) bW (Nat.le_refl _) (by omega))
  have iT : (tn : Int) < (n : Int) := by omega
  obtain ⟨cT0, hT0, -⟩ := WK.out.tT.head ht
  have rT := Lib.hid (WK.out.tT.row ht)
  rw [Nat.zero_add] at hT0 rT
  have hgT0 := hW0.tT.2.1
  have hgL0 := hW0.tL.2.1
  have hgC0 := hW0.tC.2.1
  have hz := WK.out.b0.2
  have hgT := WK.out.tT.2.1
  have hgL := WK.out.tL.2.1
  have hgC := WK.out.tC.2.1
  clear hW bW sW kE hW0
  have x0 : W.cell? ⟨z.zb, 0, none⟩ = some (.slice (some ⟨z.gT, 0, none⟩) n z.cT) := WK.out.bx.cell 0
  have x1 : W.cell? ⟨w.heap.size, 0, none⟩ = some (.int .i64 tn) := KE.out.cell 0
  have x2 : W.cell? ⟨z.gT, tn, none⟩ = some (.slice (some ⟨D tn, 0, none⟩) n cT0) := hT0
  have AllS := Lib.hid (show ∀ w', Below W.heap.size W w' → (w'.cell? ⟨z.zb, 0, none⟩ = some (.slice (some ⟨z.gT, 0, none⟩) n z.cT) ∧ w'.cell? ⟨w.heap.size, 0, none⟩ = some (.int .i64 tn) ∧ w'.cell? ⟨z.gT, tn, none⟩ = some (.slice (some ⟨D tn, 0, none⟩) n cT0)) from fun w' hb => ⟨(hb.cell (p := ⟨z.zb, 0, none⟩) (by show z.zb < W.heap.size; omega)).trans x0, (hb.cell (p := ⟨w.heap.size, 0, none⟩) (by show w.heap.size < W.heap.size; omega)).trans x1, (hb.cell (p := ⟨z.gT, tn, none⟩) (by show z.gT < W.heap.size; omega)).trans x2⟩)
  go_enter Try.func100, Try.ntmps100
  go_wp2_with fail
  rw [← HW.out]
  go_wp2_with fail
  go_region_held3 (fun w' => w'.cell? ⟨z.zb, 0, none⟩ = some (.slice (some ⟨z.gT, 0, none⟩) n z.cT) ∧ w'.cell? ⟨w.heap.size, 0, none⟩ = some (.int .i64 tn) ∧ w'.cell? ⟨z.gT, tn, none⟩ = some (.slice (some ⟨D tn, 0, none⟩) n cT0)) (first | (with_reducible exact Fin.out) | (go_split_ands; refine AllS.out _ ?_; go_grown; done) | (refine AllS.out _ ?_; go_grown; done)) (first | (go_at_call 139; go_split_ands; refine (nums_row (D tn) n cT0 (S tn) _ W.heap.size (rT.out.below (show Below W.heap.size W _ from by go_grown) (Nat.le_refl _)) (show Below W.heap.size W _ from by go_grown).size hn hn1).mono ?_; rintro e v1 ⟨g1, c1, rfl, hg1, hv, hn1v⟩; have hBv1 : Below W.heap.size W v1 := below_on (by go_grown) hv; have hg1 : W.heap.size ≤ g1 := Nat.le_trans (show Below W.heap.size W _ from by go_grown).size hg1; have N1 := Lib.hid hn1v; clear hv hn1v))
  clear AllS hT0
  try clear hHeld
  clear x0 x1 x2
  have z1 := hBv1.size
  have l1 := N1.out.lt
  have kE := KE.out.below hBv1 (by omega)
  have y0 : v1.cell? ⟨w.heap.size, 0, none⟩ = some (.int .i64 tn) := kE.cell 0
  have y1 : v1.cell? ⟨w.heap.size, 1, none⟩ = some (.int .i64 ti) := kE.cell 1
  have y2 : v1.cell? ⟨w.heap.size, 2, none⟩ = some (.int .i64 7) := kE.cell 2
  have y3 : v1.cell? ⟨w.heap.size, 3, none⟩ = some (.int .i64 (an : Nat)) := kE.cell 3
  have y4 : v1.cell? ⟨w.heap.size, 4, none⟩ = some (.int .i64 bb) := kE.cell 4
  have y5 : v1.cell? ⟨w.heap.size, 5, none⟩ = some (.int .i64 cc) := kE.cell 5
  have y6 : v1.cell? ⟨w.heap.size, 6, none⟩ = some (.bool ss) := kE.cell 6
  clear kE
  go_wp2_with fail
  refine (ret_int hch (schan_any _ _ bb cc ss v1)).mono ?_
  rintro e v4 ⟨rfl, hb4⟩
  clear y0 y1 y2 y3 y4 y5 y6
  have B4 := below_on hBv1 hb4
  have M4 := Lib.hid (N1.out.below hb4)
  have z4 := hb4.size
  have l4 := M4.out.lt
  clear hb4
  have hsm : (S tn) tn < 128 := by exact hS _ _
  obtain ⟨x0, x1⟩ := M4.out.cell ht
  have x2 : v4.cell? ⟨w.heap.size, 0, none⟩ = some (.int .i64 tn) := (KE.out.below B4 (by omega)).cell 0
  have M7 := Lib.hid (M4.out.inc ht)
  have e7 : nowS S ⟨tn, ti, ⟨7, (an : Int), bb, cc, ss⟩⟩ = incC (S tn) tn := by
    unfold nowS midS chE; simp only; rw [hch, if_neg (by omega), if_neg (by omega)]; simp
  rw [← e7] at M7
  have E7 := Lib.hid e7
  clear e7
  obtain ⟨cv, hcv⟩ : ∃ cv, (S tn) tn = cv := ⟨_, rfl⟩
  rw [hcv] at x0 M7 hsm
  clear hcv
  go_wp2_with fail
  go_region
  clear x0 x1 x2
  obtain ⟨v7, hv7⟩ : ∃ V, V = (v4.setCell ⟨g1, tn, none⟩ (.int .i64 ((cv : Int) + 1))).drew := ⟨_, rfl⟩
  rw [← hv7]
  have B7 : Below W.heap.size W v7 := by rw [hv7]; exact (B4.setCell (p := ⟨g1, tn, none⟩) (by show W.heap.size ≤ g1; omega) _).trans ⟨rfl, rfl, rfl, Nat.le_refl _, fun _ _ => rfl⟩
  have N7 : NowR v7 g1 n (nowS S ⟨tn, ti, ⟨7, (an : Int), bb, cc, ss⟩⟩) := by rw [hv7]; exact M7.out
  skip
  obtain ⟨ck, hck⟩ : ∃ ck, nowS S ⟨tn, ti, ⟨7, (an : Int), bb, cc, ss⟩⟩ = ck := ⟨_, rfl⟩
  rw [hck] at N7
  have CK := Lib.hid hck
  have z7 := B7.size
  have l7 := N7.lt
  have M7' := Lib.hid N7
  clear hv7 hck N7 M7 E7
  have K7 := Lib.hid (WK.out.below (hi' := v7.heap.size) B7 (Nat.le_refl _) (by omega))
  have FR := Lib.hid (show ∀ q, q < w.heap.size → q ≠ z.gT → q ≠ z.gL → q ≠ z.gC → v7.heap[q]? = w.heap[q]? from fun q h1 _ _ _ => (B7.block q (by omega)).trans (BW.out.block q h1))
  have KB := Lib.hid (KE.out.below B7 (by omega))
  have BL := Lib.hid (show Below lo w v7 from (BW.out.mono hlo).trans (B7.mono (by omega)))
  have ne8_0 : z.gT ≠ z.zb := neZ WK.out.bx WK.out.tT
  have ne8_1 : z.gT ≠ w.heap.size := by omega
  have ne10_0 : z.gL ≠ z.zb := neZ WK.out.bx WK.out.tL
  have ne10_1 : z.gL ≠ w.heap.size := by omega
  have ne12_0 : z.gC ≠ z.zb := neZ WK.out.bx WK.out.tC
  clear WK KE rT
  obtain ⟨cX, hX, fX⟩ := K7.out.tT.head (i := tn) ht
  have x0 : v7.cell? ⟨z.zb, 0, none⟩ = some (.slice (some ⟨z.gT, 0, none⟩) n z.cT) := K7.out.bx.cell 0
  have x1 : v7.cell? ⟨w.heap.size, 0, none⟩ = some (.int .i64 tn) := KB.out.cell 0
  have AllS := Lib.hid (show ∀ w', Below v7.heap.size v7 w' → (w'.cell? ⟨z.zb, 0, none⟩ = some (.slice (some ⟨z.gT, 0, none⟩) n z.cT) ∧ w'.cell? ⟨w.heap.size, 0, none⟩ = some (.int .i64 tn)) from fun w' hb => ⟨(hb.cell (p := ⟨z.zb, 0, none⟩) (by show z.zb < v7.heap.size; omega)).trans x0, (hb.cell (p := ⟨w.heap.size, 0, none⟩) (by show w.heap.size < v7.heap.size; omega)).trans x1⟩)
  have hggT : z.gT < v7.heap.size := K7.out.tT.2.1
  have AllF := Lib.hid (show ∀ v : World, Below v7.heap.size v7 v → ∀ r : Value, ((v.setCell ⟨z.gT, tn, none⟩ r).cell? ⟨z.zb, 0, none⟩ = some (.slice (some ⟨z.gT, 0, none⟩) n z.cT) ∧ (v.setCell ⟨z.gT, tn, none⟩ r).cell? ⟨w.heap.size, 0, none⟩ = some (.int .i64 tn)) from fun v hBv r => ⟨(World.cell?_setCell_far _ _ _ _ (show z.gT ≠ z.zb from ne8_0)).trans (AllS.out v hBv).1, (World.cell?_setCell_far _ _ _ _ (show z.gT ≠ w.heap.size from ne8_1)).trans (AllS.out v hBv).2⟩)
  go_wp2_with fail
  go_region_held3 (fun w' => w'.cell? ⟨z.zb, 0, none⟩ = some (.slice (some ⟨z.gT, 0, none⟩) n z.cT) ∧ w'.cell? ⟨w.heap.size, 0, none⟩ = some (.int .i64 tn)) (first | (with_reducible exact Fin.out) | (go_split_ands; refine AllS.out _ ?_; go_grown; done) | (refine AllS.out _ ?_; go_grown; done)) (first | (go_at_call 139; go_split_ands; refine (nums_row g1 n c1 ck _ v7.heap.size (M7'.out.vs.below (show Below v7.heap.size v7 _ from by go_grown) (Nat.le_refl _)) (show Below v7.heap.size v7 _ from by go_grown).size hn hn1).mono ?_; rintro e v8 ⟨g8, c8, rfl, hg, hv, hnv⟩; have hBv : Below v7.heap.size v7 v8 := below_on (by go_grown) hv; have HBv := Lib.hid hBv; have hg : v7.heap.size ≤ g8 := Nat.le_trans (show Below v7.heap.size v7 _ from by go_grown).size hg; have NV := Lib.hid hnv; have cX2 := (hBv.cell (p := ⟨z.gT, tn, none⟩) hggT).trans hX; have fX2 : v8.frozen? ⟨z.gT, tn, none⟩ = false := (((K7.out.below hBv (Nat.le_refl _) (hBv.size)).tT).head (i := tn) ht).choose_spec.2; have lX2 : z.gT < v8.heap.size := Nat.lt_of_lt_of_le hggT hBv.size; have Fin := Lib.hid (AllF.out v8 hBv (.slice (some ⟨g8, 0, none⟩) n c8)); clear hv hnv))
  have K8 := Lib.hid (K7.out.putT (c := c8) HBv.out ht hn hg NV.out)
  have zv := HBv.out.size
  have lN := M7'.out.lt
  have neN : g1 ≠ z.gT := fun e => by
    obtain ⟨cs, hb, _⟩ := M7'.out
    obtain ⟨_, _, cs2, hb2, _⟩ := K7.out.tT
    rw [e] at hb
    unfold Bk at hb hb2
    rw [hb2] at hb
    injection hb with hb
    injection hb with _ hb
    cases hb
  have MM := Lib.hid ((M7'.out.below HBv.out).same (Below.heap_setCell v8 ⟨z.gT, tn, none⟩ (.slice (some ⟨g8, 0, none⟩) n c8) g1 neN))
  have FR8 := Lib.hid (show ∀ q, q < w.heap.size → q ≠ z.gT → q ≠ z.gL → q ≠ z.gC → (v8.setCell ⟨z.gT, tn, none⟩ (.slice (some ⟨g8, 0, none⟩) n c8)).heap[q]? = w.heap[q]? from fun q h1 h2 h3 h4 => (Below.heap_setCell v8 ⟨z.gT, tn, none⟩ _ q h2).trans ((HBv.out.block q (by omega)).trans (FR.out q h1 h2 h3 h4)))
  have BE := Lib.hid (show Bk (v8.setCell ⟨z.gT, tn, none⟩ (.slice (some ⟨g8, 0, none⟩) n c8)) w.heap.size 81 #[.int .i64 tn, .int .i64 ti, .int .i64 7, .int .i64 (an : Nat), .int .i64 bb, .int .i64 cc, .bool ss] from (Below.heap_setCell v8 ⟨z.gT, tn, none⟩ _ w.heap.size (by show w.heap.size ≠ z.gT; omega)).trans (KB.out.below HBv.out KB.out.lt))
  have BL8 := Lib.hid ((BL.out.trans (HBv.out.mono (by omega))).setCell (p := ⟨z.gT, tn, none⟩) (by show lo ≤ z.gT; exact K7.out.tT.1) (.slice (some ⟨g8, 0, none⟩) n c8))
  have ZS : v7.heap.size ≤ (v8.setCell ⟨z.gT, tn, none⟩ (.slice (some ⟨g8, 0, none⟩) n c8)).heap.size := by rw [World.size_setCell]; exact zv
  have ZT : (v8.setCell ⟨z.gT, tn, none⟩ (.slice (some ⟨g8, 0, none⟩) n c8)).heap.size = v8.heap.size := World.size_setCell ..
  clear AllS AllF Fin hX fX cX2 fX2 lX2 hBv
  try clear hHeld
  clear x0 x1
  obtain ⟨u8, hOut⟩ : ∃ V, V = v8.setCell ⟨z.gT, tn, none⟩ (.slice (some ⟨g8, 0, none⟩) n c8) := ⟨_, rfl⟩
  rw [← hOut] at K8 MM FR8 BE BL8 ZS ZT
  rw [← ZT] at K8
  rw [← hOut]
  clear hOut M7' K7 FR KB BL HBv NV neN lN zv
  have M7' := MM
  have K7 := K8
  have FR := FR8
  have KB := BE
  have BL := BL8
  clear MM K8 FR8 BE BL8
  have y2 : u8.cell? ⟨w.heap.size, 2, none⟩ = some (.int .i64 7) := KB.out.cell 2
  have yl := KB.out.lt
  go_wp2_with fail
  clear y2 yl
  have iA : (an : Int) < 2 := by omega
  obtain ⟨cX, hX, fX⟩ := K7.out.tL.head (i := an) han
  have x0 : u8.cell? ⟨z.zb, 1, none⟩ = some (.slice (some ⟨z.gL, 0, none⟩) 2 z.cL) := K7.out.bx.cell 1
  have x1 : u8.cell? ⟨w.heap.size, 3, none⟩ = some (.int .i64 (an : Nat)) := KB.out.cell 3
  have AllS := Lib.hid (show ∀ w', Below u8.heap.size u8 w' → (w'.cell? ⟨z.zb, 1, none⟩ = some (.slice (some ⟨z.gL, 0, none⟩) 2 z.cL) ∧ w'.cell? ⟨w.heap.size, 3, none⟩ = some (.int .i64 (an : Nat))) from fun w' hb => ⟨(hb.cell (p := ⟨z.zb, 1, none⟩) (by show z.zb < u8.heap.size; omega)).trans x0, (hb.cell (p := ⟨w.heap.size, 3, none⟩) (by show w.heap.size < u8.heap.size; omega)).trans x1⟩)
  have hggL : z.gL < u8.heap.size := K7.out.tL.2.1
  have AllF := Lib.hid (show ∀ v : World, Below u8.heap.size u8 v → ∀ r : Value, ((v.setCell ⟨z.gL, an, none⟩ r).cell? ⟨z.zb, 1, none⟩ = some (.slice (some ⟨z.gL, 0, none⟩) 2 z.cL) ∧ (v.setCell ⟨z.gL, an, none⟩ r).cell? ⟨w.heap.size, 3, none⟩ = some (.int .i64 (an : Nat))) from fun v hBv r => ⟨(World.cell?_setCell_far _ _ _ _ (show z.gL ≠ z.zb from ne10_0)).trans (AllS.out v hBv).1, (World.cell?_setCell_far _ _ _ _ (show z.gL ≠ w.heap.size from ne10_1)).trans (AllS.out v hBv).2⟩)
  go_wp2_with fail
  go_region_held3 (fun w' => w'.cell? ⟨z.zb, 1, none⟩ = some (.slice (some ⟨z.gL, 0, none⟩) 2 z.cL) ∧ w'.cell? ⟨w.heap.size, 3, none⟩ = some (.int .i64 (an : Nat))) (first | (with_reducible exact Fin.out) | (go_split_ands; refine AllS.out _ ?_; go_grown; done) | (refine AllS.out _ ?_; go_grown; done)) (first | (go_at_call 139; go_split_ands; refine (nums_row g1 n c1 ck _ u8.heap.size (M7'.out.vs.below (show Below u8.heap.size u8 _ from by go_grown) (Nat.le_refl _)) (show Below u8.heap.size u8 _ from by go_grown).size hn hn1).mono ?_; rintro e v10 ⟨g10, c10, rfl, hg, hv, hnv⟩; have hBv : Below u8.heap.size u8 v10 := below_on (by go_grown) hv; have HBv := Lib.hid hBv; have hg : u8.heap.size ≤ g10 := Nat.le_trans (show Below u8.heap.size u8 _ from by go_grown).size hg; have NV := Lib.hid hnv; have cX2 := (hBv.cell (p := ⟨z.gL, an, none⟩) hggL).trans hX; have fX2 : v10.frozen? ⟨z.gL, an, none⟩ = false := (((K7.out.below hBv (Nat.le_refl _) (hBv.size)).tL).head (i := an) han).choose_spec.2; have lX2 : z.gL < v10.heap.size := Nat.lt_of_lt_of_le hggL hBv.size; have Fin := Lib.hid (AllF.out v10 hBv (.slice (some ⟨g10, 0, none⟩) n c10)); clear hv hnv))
  have K8 := Lib.hid (K7.out.putL (c := c10) HBv.out han hn hg NV.out)
  have zv := HBv.out.size
  have lN := M7'.out.lt
  have neN : g1 ≠ z.gL := fun e => by
    obtain ⟨cs, hb, _⟩ := M7'.out
    obtain ⟨_, _, cs2, hb2, _⟩ := K7.out.tL
    rw [e] at hb
    unfold Bk at hb hb2
    rw [hb2] at hb
    injection hb with hb
    injection hb with _ hb
    cases hb
  have MM := Lib.hid ((M7'.out.below HBv.out).same (Below.heap_setCell v10 ⟨z.gL, an, none⟩ (.slice (some ⟨g10, 0, none⟩) n c10) g1 neN))
  have FR8 := Lib.hid (show ∀ q, q < w.heap.size → q ≠ z.gT → q ≠ z.gL → q ≠ z.gC → (v10.setCell ⟨z.gL, an, none⟩ (.slice (some ⟨g10, 0, none⟩) n c10)).heap[q]? = w.heap[q]? from fun q h1 h2 h3 h4 => (Below.heap_setCell v10 ⟨z.gL, an, none⟩ _ q h3).trans ((HBv.out.block q (by omega)).trans (FR.out q h1 h2 h3 h4)))
  have BE := Lib.hid (show Bk (v10.setCell ⟨z.gL, an, none⟩ (.slice (some ⟨g10, 0, none⟩) n c10)) w.heap.size 81 #[.int .i64 tn, .int .i64 ti, .int .i64 7, .int .i64 (an : Nat), .int .i64 bb, .int .i64 cc, .bool ss] from (Below.heap_setCell v10 ⟨z.gL, an, none⟩ _ w.heap.size (by show w.heap.size ≠ z.gL; omega)).trans (KB.out.below HBv.out KB.out.lt))
  have BL8 := Lib.hid ((BL.out.trans (HBv.out.mono (by omega))).setCell (p := ⟨z.gL, an, none⟩) (by show lo ≤ z.gL; exact K7.out.tL.1) (.slice (some ⟨g10, 0, none⟩) n c10))
  have ZS : u8.heap.size ≤ (v10.setCell ⟨z.gL, an, none⟩ (.slice (some ⟨g10, 0, none⟩) n c10)).heap.size := by rw [World.size_setCell]; exact zv
  have ZT : (v10.setCell ⟨z.gL, an, none⟩ (.slice (some ⟨g10, 0, none⟩) n c10)).heap.size = v10.heap.size := World.size_setCell ..
  clear AllS AllF Fin hX fX cX2 fX2 lX2 hBv
  try clear hHeld
  clear x0 x1
  obtain ⟨u10, hOut⟩ : ∃ V, V = v10.setCell ⟨z.gL, an, none⟩ (.slice (some ⟨g10, 0, none⟩) n c10) := ⟨_, rfl⟩
  rw [← hOut] at K8 MM FR8 BE BL8 ZS ZT
  rw [← ZT] at K8
  rw [← hOut]
  clear hOut M7' K7 FR KB BL HBv NV neN lN zv
  have M7' := MM
  have K7 := K8
  have FR := FR8
  have KB := BE
  have BL := BL8
  clear MM K8 FR8 BE BL8
  go_wp2
  go_ret
  have en : nextS S ⟨tn, ti, ⟨7, (an : Int), bb, cc, ss⟩⟩ = updC (updC S tn ck) (6 + an) ck := by
    unfold nextS unlS chE; rw [CK.out]; simp only; rw [hch, if_neg (by omega), if_pos trivial]; simp
  have hK := K7.out
  rw [← en] at hK
  exact ⟨g1, c1, _, rfl, by omega, by rw [CK.out]; exact M7'.out, BL.out, hK, FR.out⟩
theorem step_chan (z : WkH) (lo n : Nat) (S : Nat → Ck) (D : Nat → Nat) (tn : Nat) (ti q a bb cc : Int) (ss : Bool) (w : World) (hW0 : Wk w lo w.heap.size n S D z) (hlo : lo ≤ w.heap.size) (hn : n ≤ 3) (ht : tn < n) (hS : ∀ p q, S p q < 128) (h6 : ¬ q = 6) (h7 : ¬ q = 7) (e6 : (q == 6) = false) (e7q : (q == 7) = false) (cn : Nat) (hcn : cn < 2) (hch : chanZ q a bb cc ss = ((cn : Nat) : Int)) :
    Calls Try.prog 100 #[.pointer (some ⟨z.zb, 0, none⟩), Ev tn ti q a bb cc ss] w (Stp w lo n S z ⟨tn, ti, ⟨q, a, bb, cc, ss⟩⟩) := by
  have hn1 : 1 ≤ n := by omega
  obtain ⟨W, hW⟩ : ∃ W, W = w.alloc (.cells #[.int .i64 tn, .int .i64 ti, .int .i64 q, .int .i64 a, .int .i64 bb, .int .i64 cc, .bool ss] 81) := ⟨_, rfl⟩
  have bW : Below w.heap.size w W := by rw [hW]; go_grown
  have sW : W.heap.size = w.heap.size + 1 := by rw [hW]; simp
  have kE : Bk W w.heap.size 81 #[.int .i64 tn, .int .i64 ti, .int .i64 q, .int .i64 a, .int .i64 bb, .int .i64 cc, .bool ss] := by rw [hW]; exact Bk.new _ _ _
  have sWa := Nat.le_of_eq sW
  have sWb := Nat.le_of_eq sW.symm
  have HW := Lib.hid hW
  have KE := Lib.hid kE
  have BW := Lib.hid bW
  have WK := Lib.hid (hW0.below (hi' := W.heap.size) bW (Nat.le_refl _) (by omega))
  have iT : (tn : Int) < (n : Int) := by omega
  obtain ⟨cT0, hT0, -⟩ := WK.out.tT.head ht
  have rT := Lib.hid (WK.out.tT.row ht)
  rw [Nat.zero_add] at hT0 rT
  have hgT0 := hW0.tT.2.1
  have hgL0 := hW0.tL.2.1
  have hgC0 := hW0.tC.2.1
  have hz := WK.out.b0.2
  have hgT := WK.out.tT.2.1
  have hgL := WK.out.tL.2.1
  have hgC := WK.out.tC.2.1
  clear hW bW sW kE hW0
  have x0 : W.cell? ⟨z.zb, 0, none⟩ = some (.slice (some ⟨z.gT, 0, none⟩) n z.cT) := WK.out.bx.cell 0
  have x1 : W.cell? ⟨w.heap.size, 0, none⟩ = some (.int .i64 tn) := KE.out.cell 0
  have x2 : W.cell? ⟨z.gT, tn, none⟩ = some (.slice (some ⟨D tn, 0, none⟩) n cT0) := hT0
  have AllS := Lib.hid (show ∀ w', Below W.heap.size W w' → (w'.cell? ⟨z.zb, 0, none⟩ = some (.slice (some ⟨z.gT, 0, none⟩) n z.cT) ∧ w'.cell? ⟨w.heap.size, 0, none⟩ = some (.int .i64 tn) ∧ w'.cell? ⟨z.gT, tn, none⟩ = some (.slice (some ⟨D tn, 0, none⟩) n cT0)) from fun w' hb => ⟨(hb.cell (p := ⟨z.zb, 0, none⟩) (by show z.zb < W.heap.size; omega)).trans x0, (hb.cell (p := ⟨w.heap.size, 0, none⟩) (by show w.heap.size < W.heap.size; omega)).trans x1, (hb.cell (p := ⟨z.gT, tn, none⟩) (by show z.gT < W.heap.size; omega)).trans x2⟩)
  go_enter Try.func100, Try.ntmps100
  go_wp2_with fail
  rw [← HW.out]
  go_wp2_with fail
  go_region_held3 (fun w' => w'.cell? ⟨z.zb, 0, none⟩ = some (.slice (some ⟨z.gT, 0, none⟩) n z.cT) ∧ w'.cell? ⟨w.heap.size, 0, none⟩ = some (.int .i64 tn) ∧ w'.cell? ⟨z.gT, tn, none⟩ = some (.slice (some ⟨D tn, 0, none⟩) n cT0)) (first | (with_reducible exact Fin.out) | (go_split_ands; refine AllS.out _ ?_; go_grown; done) | (refine AllS.out _ ?_; go_grown; done)) (first | (go_at_call 139; go_split_ands; refine (nums_row (D tn) n cT0 (S tn) _ W.heap.size (rT.out.below (show Below W.heap.size W _ from by go_grown) (Nat.le_refl _)) (show Below W.heap.size W _ from by go_grown).size hn hn1).mono ?_; rintro e v1 ⟨g1, c1, rfl, hg1, hv, hn1v⟩; have hBv1 : Below W.heap.size W v1 := below_on (by go_grown) hv; have hg1 : W.heap.size ≤ g1 := Nat.le_trans (show Below W.heap.size W _ from by go_grown).size hg1; have N1 := Lib.hid hn1v; clear hv hn1v))
  clear AllS hT0
  try clear hHeld
  clear x0 x1 x2
  have z1 := hBv1.size
  have l1 := N1.out.lt
  have kE := KE.out.below hBv1 (by omega)
  have y0 : v1.cell? ⟨w.heap.size, 0, none⟩ = some (.int .i64 tn) := kE.cell 0
  have y1 : v1.cell? ⟨w.heap.size, 1, none⟩ = some (.int .i64 ti) := kE.cell 1
  have y2 : v1.cell? ⟨w.heap.size, 2, none⟩ = some (.int .i64 q) := kE.cell 2
  have y3 : v1.cell? ⟨w.heap.size, 3, none⟩ = some (.int .i64 a) := kE.cell 3
  have y4 : v1.cell? ⟨w.heap.size, 4, none⟩ = some (.int .i64 bb) := kE.cell 4
  have y5 : v1.cell? ⟨w.heap.size, 5, none⟩ = some (.int .i64 cc) := kE.cell 5
  have y6 : v1.cell? ⟨w.heap.size, 6, none⟩ = some (.bool ss) := kE.cell 6
  clear kE
  go_wp2_with fail
  refine (ret_int hch (schan_any q a bb cc ss v1)).mono ?_
  rintro e v4 ⟨rfl, hb4⟩
  clear y0 y1 y2 y3 y4 y5 y6
  have B4 := below_on hBv1 hb4
  have M4 := Lib.hid (N1.out.below hb4)
  have z4 := hb4.size
  have l4 := M4.out.lt
  clear hb4
  obtain ⟨cC0, hC0, -⟩ := WK.out.tC.head (i := cn) hcn
  have rC := Lib.hid (WK.out.tC.row (i := cn) hcn)
  have iC : (cn : Int) < 2 := by omega
  have iC0 : (0 : Int) ≤ (cn : Int) := by omega
  have x0 : v4.cell? ⟨z.zb, 2, none⟩ = some (.slice (some ⟨z.gC, 0, none⟩) 2 z.cC) := (B4.cell (p := ⟨z.zb, 2, none⟩) hz).trans (WK.out.bx.cell 2)
  have x1 : v4.cell? ⟨z.gC, cn, none⟩ = some (.slice (some ⟨D (8 + cn), 0, none⟩) n cC0) := (B4.cell (p := ⟨z.gC, cn, none⟩) hgC).trans hC0
  go_wp2_with fail
  refine (join_rows g1 c1 (D (8 + cn)) cC0 n (S tn) (S (8 + cn)) v4 v4.heap.size M4.out.vs ((rC.out.below B4 (Nat.le_refl _)).up (Below.refl _ _) (by omega) (by omega)) (Nat.le_refl _) hn hn1).mono ?_
  rintro e v5 ⟨g5, c5, rfl, hg5, hb5, hn5⟩
  clear x0 x1
  clear hC0
  have B5 := below_on B4 hb5
  have z5 := hb5.size
  have M5 := Lib.hid hn5
  have l5 := M5.out.lt
  clear hb5 hn5
  have hsm : (joinC (S tn) (S (8 + cn))) tn < 128 := by have h1 := hS tn tn; have h2 := hS (8 + cn) tn; simp only [joinC]; omega
  obtain ⟨x0, x1⟩ := M5.out.cell ht
  have x2 : v5.cell? ⟨w.heap.size, 0, none⟩ = some (.int .i64 tn) := (KE.out.below B5 (by omega)).cell 0
  have M7 := Lib.hid (M5.out.inc ht)
  have e7 : nowS S ⟨tn, ti, ⟨q, a, bb, cc, ss⟩⟩ = incC (joinC (S tn) (S (8 + cn))) tn := by
    unfold nowS midS chE; simp only; rw [hch, if_pos (by omega), if_neg h6]; simp
  rw [← e7] at M7
  have E7 := Lib.hid e7
  clear e7
  obtain ⟨cv, hcv⟩ : ∃ cv, (joinC (S tn) (S (8 + cn))) tn = cv := ⟨_, rfl⟩
  rw [hcv] at x0 M7 hsm
  clear hcv
  go_wp2_with fail
  go_region
  clear x0 x1 x2
  obtain ⟨v7, hv7⟩ : ∃ V, V = (v5.setCell ⟨g5, tn, none⟩ (.int .i64 ((cv : Int) + 1))).drew := ⟨_, rfl⟩
  rw [← hv7]
  have B7 : Below W.heap.size W v7 := by rw [hv7]; exact (B5.setCell (p := ⟨g5, tn, none⟩) (by show W.heap.size ≤ g5; omega) _).trans ⟨rfl, rfl, rfl, Nat.le_refl _, fun _ _ => rfl⟩
  have N7 : NowR v7 g5 n (nowS S ⟨tn, ti, ⟨q, a, bb, cc, ss⟩⟩) := by rw [hv7]; exact M7.out
  skip
  obtain ⟨ck, hck⟩ : ∃ ck, nowS S ⟨tn, ti, ⟨q, a, bb, cc, ss⟩⟩ = ck := ⟨_, rfl⟩
  rw [hck] at N7
  have CK := Lib.hid hck
  have z7 := B7.size
  have l7 := N7.lt
  have M7' := Lib.hid N7
  clear hv7 hck N7 M7 E7
  have K7 := Lib.hid (WK.out.below (hi' := v7.heap.size) B7 (Nat.le_refl _) (by omega))
  have FR := Lib.hid (show ∀ q, q < w.heap.size → q ≠ z.gT → q ≠ z.gL → q ≠ z.gC → v7.heap[q]? = w.heap[q]? from fun q h1 _ _ _ => (B7.block q (by omega)).trans (BW.out.block q h1))
  have KB := Lib.hid (KE.out.below B7 (by omega))
  have BL := Lib.hid (show Below lo w v7 from (BW.out.mono hlo).trans (B7.mono (by omega)))
  have ne8_0 : z.gT ≠ z.zb := neZ WK.out.bx WK.out.tT
  have ne8_1 : z.gT ≠ w.heap.size := by omega
  have ne10_0 : z.gL ≠ z.zb := neZ WK.out.bx WK.out.tL
  have ne10_1 : z.gL ≠ w.heap.size := by omega
  have ne12_0 : z.gC ≠ z.zb := neZ WK.out.bx WK.out.tC
  clear WK KE rT
  obtain ⟨cX, hX, fX⟩ := K7.out.tT.head (i := tn) ht
  have x0 : v7.cell? ⟨z.zb, 0, none⟩ = some (.slice (some ⟨z.gT, 0, none⟩) n z.cT) := K7.out.bx.cell 0
  have x1 : v7.cell? ⟨w.heap.size, 0, none⟩ = some (.int .i64 tn) := KB.out.cell 0
  have AllS := Lib.hid (show ∀ w', Below v7.heap.size v7 w' → (w'.cell? ⟨z.zb, 0, none⟩ = some (.slice (some ⟨z.gT, 0, none⟩) n z.cT) ∧ w'.cell? ⟨w.heap.size, 0, none⟩ = some (.int .i64 tn)) from fun w' hb => ⟨(hb.cell (p := ⟨z.zb, 0, none⟩) (by show z.zb < v7.heap.size; omega)).trans x0, (hb.cell (p := ⟨w.heap.size, 0, none⟩) (by show w.heap.size < v7.heap.size; omega)).trans x1⟩)
  have hggT : z.gT < v7.heap.size := K7.out.tT.2.1
  have AllF := Lib.hid (show ∀ v : World, Below v7.heap.size v7 v → ∀ r : Value, ((v.setCell ⟨z.gT, tn, none⟩ r).cell? ⟨z.zb, 0, none⟩ = some (.slice (some ⟨z.gT, 0, none⟩) n z.cT) ∧ (v.setCell ⟨z.gT, tn, none⟩ r).cell? ⟨w.heap.size, 0, none⟩ = some (.int .i64 tn)) from fun v hBv r => ⟨(World.cell?_setCell_far _ _ _ _ (show z.gT ≠ z.zb from ne8_0)).trans (AllS.out v hBv).1, (World.cell?_setCell_far _ _ _ _ (show z.gT ≠ w.heap.size from ne8_1)).trans (AllS.out v hBv).2⟩)
  go_wp2_with fail
  go_region_held3 (fun w' => w'.cell? ⟨z.zb, 0, none⟩ = some (.slice (some ⟨z.gT, 0, none⟩) n z.cT) ∧ w'.cell? ⟨w.heap.size, 0, none⟩ = some (.int .i64 tn)) (first | (with_reducible exact Fin.out) | (go_split_ands; refine AllS.out _ ?_; go_grown; done) | (refine AllS.out _ ?_; go_grown; done)) (first | (go_at_call 139; go_split_ands; refine (nums_row g5 n c5 ck _ v7.heap.size (M7'.out.vs.below (show Below v7.heap.size v7 _ from by go_grown) (Nat.le_refl _)) (show Below v7.heap.size v7 _ from by go_grown).size hn hn1).mono ?_; rintro e v8 ⟨g8, c8, rfl, hg, hv, hnv⟩; have hBv : Below v7.heap.size v7 v8 := below_on (by go_grown) hv; have HBv := Lib.hid hBv; have hg : v7.heap.size ≤ g8 := Nat.le_trans (show Below v7.heap.size v7 _ from by go_grown).size hg; have NV := Lib.hid hnv; have cX2 := (hBv.cell (p := ⟨z.gT, tn, none⟩) hggT).trans hX; have fX2 : v8.frozen? ⟨z.gT, tn, none⟩ = false := (((K7.out.below hBv (Nat.le_refl _) (hBv.size)).tT).head (i := tn) ht).choose_spec.2; have lX2 : z.gT < v8.heap.size := Nat.lt_of_lt_of_le hggT hBv.size; have Fin := Lib.hid (AllF.out v8 hBv (.slice (some ⟨g8, 0, none⟩) n c8)); clear hv hnv))
  have K8 := Lib.hid (K7.out.putT (c := c8) HBv.out ht hn hg NV.out)
  have zv := HBv.out.size
  have lN := M7'.out.lt
  have neN : g5 ≠ z.gT := fun e => by
    obtain ⟨cs, hb, _⟩ := M7'.out
    obtain ⟨_, _, cs2, hb2, _⟩ := K7.out.tT
    rw [e] at hb
    unfold Bk at hb hb2
    rw [hb2] at hb
    injection hb with hb
    injection hb with _ hb
    cases hb
  have MM := Lib.hid ((M7'.out.below HBv.out).same (Below.heap_setCell v8 ⟨z.gT, tn, none⟩ (.slice (some ⟨g8, 0, none⟩) n c8) g5 neN))
  have FR8 := Lib.hid (show ∀ q, q < w.heap.size → q ≠ z.gT → q ≠ z.gL → q ≠ z.gC → (v8.setCell ⟨z.gT, tn, none⟩ (.slice (some ⟨g8, 0, none⟩) n c8)).heap[q]? = w.heap[q]? from fun q h1 h2 h3 h4 => (Below.heap_setCell v8 ⟨z.gT, tn, none⟩ _ q h2).trans ((HBv.out.block q (by omega)).trans (FR.out q h1 h2 h3 h4)))
  have BE := Lib.hid (show Bk (v8.setCell ⟨z.gT, tn, none⟩ (.slice (some ⟨g8, 0, none⟩) n c8)) w.heap.size 81 #[.int .i64 tn, .int .i64 ti, .int .i64 q, .int .i64 a, .int .i64 bb, .int .i64 cc, .bool ss] from (Below.heap_setCell v8 ⟨z.gT, tn, none⟩ _ w.heap.size (by show w.heap.size ≠ z.gT; omega)).trans (KB.out.below HBv.out KB.out.lt))
  have BL8 := Lib.hid ((BL.out.trans (HBv.out.mono (by omega))).setCell (p := ⟨z.gT, tn, none⟩) (by show lo ≤ z.gT; exact K7.out.tT.1) (.slice (some ⟨g8, 0, none⟩) n c8))
  have ZS : v7.heap.size ≤ (v8.setCell ⟨z.gT, tn, none⟩ (.slice (some ⟨g8, 0, none⟩) n c8)).heap.size := by rw [World.size_setCell]; exact zv
  have ZT : (v8.setCell ⟨z.gT, tn, none⟩ (.slice (some ⟨g8, 0, none⟩) n c8)).heap.size = v8.heap.size := World.size_setCell ..
  clear AllS AllF Fin hX fX cX2 fX2 lX2 hBv
  try clear hHeld
  clear x0 x1
  obtain ⟨u8, hOut⟩ : ∃ V, V = v8.setCell ⟨z.gT, tn, none⟩ (.slice (some ⟨g8, 0, none⟩) n c8) := ⟨_, rfl⟩
  rw [← hOut] at K8 MM FR8 BE BL8 ZS ZT
  rw [← ZT] at K8
  rw [← hOut]
  clear hOut M7' K7 FR KB BL HBv NV neN lN zv
  have M7' := MM
  have K7 := K8
  have FR := FR8
  have KB := BE
  have BL := BL8
  clear MM K8 FR8 BE BL8
  have y2 : u8.cell? ⟨w.heap.size, 2, none⟩ = some (.int .i64 q) := KB.out.cell 2
  have yl := KB.out.lt
  go_wp2_with fail
  clear y2 yl
  obtain ⟨cX, hX, fX⟩ := K7.out.tC.head (i := cn) hcn
  have x0 : u8.cell? ⟨z.zb, 2, none⟩ = some (.slice (some ⟨z.gC, 0, none⟩) 2 z.cC) := K7.out.bx.cell 2
  have AllS := Lib.hid (show ∀ w', Below u8.heap.size u8 w' → (w'.cell? ⟨z.zb, 2, none⟩ = some (.slice (some ⟨z.gC, 0, none⟩) 2 z.cC)) from fun w' hb => (hb.cell (p := ⟨z.zb, 2, none⟩) (by show z.zb < u8.heap.size; omega)).trans x0)
  have hggC : z.gC < u8.heap.size := K7.out.tC.2.1
  have AllF := Lib.hid (show ∀ v : World, Below u8.heap.size u8 v → ∀ r : Value, ((v.setCell ⟨z.gC, cn, none⟩ r).cell? ⟨z.zb, 2, none⟩ = some (.slice (some ⟨z.gC, 0, none⟩) 2 z.cC)) from fun v hBv r => (World.cell?_setCell_far _ _ _ _ (show z.gC ≠ z.zb from ne12_0)).trans (AllS.out v hBv))
  go_wp2_with fail
  go_region_held3 (fun w' => w'.cell? ⟨z.zb, 2, none⟩ = some (.slice (some ⟨z.gC, 0, none⟩) 2 z.cC)) (first | (with_reducible exact Fin.out) | (go_split_ands; refine AllS.out _ ?_; go_grown; done) | (refine AllS.out _ ?_; go_grown; done)) (first | (go_at_call 139; go_split_ands; refine (nums_row g5 n c5 ck _ u8.heap.size (M7'.out.vs.below (show Below u8.heap.size u8 _ from by go_grown) (Nat.le_refl _)) (show Below u8.heap.size u8 _ from by go_grown).size hn hn1).mono ?_; rintro e v12 ⟨g12, c12, rfl, hg, hv, hnv⟩; have hBv : Below u8.heap.size u8 v12 := below_on (by go_grown) hv; have HBv := Lib.hid hBv; have hg : u8.heap.size ≤ g12 := Nat.le_trans (show Below u8.heap.size u8 _ from by go_grown).size hg; have NV := Lib.hid hnv; have cX2 := (hBv.cell (p := ⟨z.gC, cn, none⟩) hggC).trans hX; have fX2 : v12.frozen? ⟨z.gC, cn, none⟩ = false := (((K7.out.below hBv (Nat.le_refl _) (hBv.size)).tC).head (i := cn) hcn).choose_spec.2; have lX2 : z.gC < v12.heap.size := Nat.lt_of_lt_of_le hggC hBv.size; have Fin := Lib.hid (AllF.out v12 hBv (.slice (some ⟨g12, 0, none⟩) n c12)); clear hv hnv))
  have K8 := Lib.hid (K7.out.putC (c := c12) HBv.out hcn hn hg NV.out)
  have zv := HBv.out.size
  have lN := M7'.out.lt
  have neN : g5 ≠ z.gC := fun e => by
    obtain ⟨cs, hb, _⟩ := M7'.out
    obtain ⟨_, _, cs2, hb2, _⟩ := K7.out.tC
    rw [e] at hb
    unfold Bk at hb hb2
    rw [hb2] at hb
    injection hb with hb
    injection hb with _ hb
    cases hb
  have MM := Lib.hid ((M7'.out.below HBv.out).same (Below.heap_setCell v12 ⟨z.gC, cn, none⟩ (.slice (some ⟨g12, 0, none⟩) n c12) g5 neN))
  have FR8 := Lib.hid (show ∀ q, q < w.heap.size → q ≠ z.gT → q ≠ z.gL → q ≠ z.gC → (v12.setCell ⟨z.gC, cn, none⟩ (.slice (some ⟨g12, 0, none⟩) n c12)).heap[q]? = w.heap[q]? from fun q h1 h2 h3 h4 => (Below.heap_setCell v12 ⟨z.gC, cn, none⟩ _ q h4).trans ((HBv.out.block q (by omega)).trans (FR.out q h1 h2 h3 h4)))
  have BE := Lib.hid (show Bk (v12.setCell ⟨z.gC, cn, none⟩ (.slice (some ⟨g12, 0, none⟩) n c12)) w.heap.size 81 #[.int .i64 tn, .int .i64 ti, .int .i64 q, .int .i64 a, .int .i64 bb, .int .i64 cc, .bool ss] from (Below.heap_setCell v12 ⟨z.gC, cn, none⟩ _ w.heap.size (by show w.heap.size ≠ z.gC; omega)).trans (KB.out.below HBv.out KB.out.lt))
  have BL8 := Lib.hid ((BL.out.trans (HBv.out.mono (by omega))).setCell (p := ⟨z.gC, cn, none⟩) (by show lo ≤ z.gC; exact K7.out.tC.1) (.slice (some ⟨g12, 0, none⟩) n c12))
  have ZS : u8.heap.size ≤ (v12.setCell ⟨z.gC, cn, none⟩ (.slice (some ⟨g12, 0, none⟩) n c12)).heap.size := by rw [World.size_setCell]; exact zv
  have ZT : (v12.setCell ⟨z.gC, cn, none⟩ (.slice (some ⟨g12, 0, none⟩) n c12)).heap.size = v12.heap.size := World.size_setCell ..
  clear AllS AllF Fin hX fX cX2 fX2 lX2 hBv
  try clear hHeld
  clear x0
  obtain ⟨u12, hOut⟩ : ∃ V, V = v12.setCell ⟨z.gC, cn, none⟩ (.slice (some ⟨g12, 0, none⟩) n c12) := ⟨_, rfl⟩
  rw [← hOut] at K8 MM FR8 BE BL8 ZS ZT
  rw [← ZT] at K8
  rw [← hOut]
  clear hOut M7' K7 FR KB BL HBv NV neN lN zv
  have M7' := MM
  have K7 := K8
  have FR := FR8
  have KB := BE
  have BL := BL8
  clear MM K8 FR8 BE BL8
  go_wp2
  go_ret
  have en : nextS S ⟨tn, ti, ⟨q, a, bb, cc, ss⟩⟩ = updC (updC S tn ck) (8 + cn) ck := by
    unfold nextS unlS chE; rw [CK.out]; simp only; rw [hch, if_pos (by omega), if_neg h7]; simp
  have hK := K7.out
  rw [← en] at hK
  exact ⟨g5, c5, _, rfl, by omega, by rw [CK.out]; exact M7'.out, BL.out, hK, FR.out⟩
end Go.Proofs.Ytidibnmlceccnaa
