/-
  What the program's bufStepped comes to at a store that is put behind.
-/
import Derived.Test.YtpcdcgcbhhnhhaaQue
import Derived.Test.YtpcdcgcbhhnhhaaBfR
import Derived.Test.YtpcdcgcbhhnhhaaBfC
import Derived.Test.YtpcdcgcbhhnhhaaIDo
import Derived.Deep.RegionHeld3
import Derived.Test.YtpcdcgcbhhnhhaaQMake
import Derived.Deep.QuietTactic
import Derived.BigQuiet
namespace Go.Proofs.Ytpcdcgcbhhnhhaa
open Go.RowKit Pl Go.BigFrame
set_option maxHeartbeats 4000000
set_option maxRecDepth 100000
set_option linter.unusedVariables false

def updB (b : Nat → List Nat) (t : Nat) (v : List Nat) : Nat → List Nat := fun u => if u = t then v else b u
theorem updB_same (b : Nat → List Nat) (t : Nat) (v : List Nat) : updB b t v t = v := if_pos rfl
theorem updB_other (b : Nat → List Nat) {t u : Nat} (v : List Nat) (h : u ≠ t) : updB b t v u = b u := if_neg h
theorem takq0 (f : Nat → Nat) (b : Nat → List Nat) (w : World) (hf : okF WS f) (c : Nat) (q : List Nat) (hbt : b 0 = c :: q) (hok : okS (c :: q)) (hl : q.length ≤ 6) :
    Calls Try.prog 126 #[QV f b, .int .i64 0] w fun e w' => e = .returned (QV (upd f (15 + c / 4) (c % 4)) (updB b 0 q)) ∧ Below w.heap.size w w' := by
  have hc12 := hok.head
  obtain ⟨W, hW⟩ : ∃ W, W = (w.alloc (.cells #[.int .u64 (enc WS f : Nat), .int .u64 (bwC (b 0) : Nat), .int .u64 (bwC (b 1) : Nat), .int .u64 (bwC (b 2) : Nat)] 74)).alloc (.cells #[.int .u64 0, .int .u64 0, .int .u64 0, .int .u64 0] 74) := ⟨_, rfl⟩
  have bW : Below w.heap.size w W := by rw [hW]; go_grown
  have k0 : Bk W w.heap.size 74 (Qk f b) := by rw [hW]; exact (Bk.new w _ _).alloc _
  have k1 : Bk W (w.heap.size + 1) 74 #[.int .u64 0, .int .u64 0, .int .u64 0, .int .u64 0] := by
    rw [hW]; have := Bk.new (w.alloc (.cells #[.int .u64 (enc WS f : Nat), .int .u64 (bwC (b 0) : Nat), .int .u64 (bwC (b 1) : Nat), .int .u64 (bwC (b 2) : Nat)] 74)) #[.int .u64 0, .int .u64 0, .int .u64 0, .int .u64 0] 74
    rwa [World.size_alloc] at this
  have K0 := Lib.hid k0
  have K1 := Lib.hid k1
  have B0 := Lib.hid bW
  have HW := Lib.hid hW
  have l0 := k0.lt
  have OF := Lib.hid (fun v => oldf_any c q v hok (by omega))
  have WO := Lib.hid (fun v => witho_any c q v hok (by omega))
  have LO := Lib.hid (fun v => lows_any (16 + c) v (by omega) c (Lib.hid (by omega)))
  have WE := Lib.hid (fun v => wentF fld2 hf (c / 4) (c % 4) ((c % 4 : Nat) : Int) (show c / 4 < 3 by omega) (show c % 4 < 4 by omega) (by simp [fL]) v)
  have hhead := bwC_head hok
  have hs : ((bwC (c :: q) : Nat) : Int) / 2 ^ (8 * (q.length : Int)).toNat = ((16 + c : Nat) : Int) := by
    rw [div_pow (bwC (c :: q)) (8 * q.length) _ (by omega), pow256, hhead]
  have HBT := Lib.hid hbt
  have hq0 : bwC (b 0) = bwC (c :: q) := by rw [hbt]
  have HQ : Hid (QV (upd f (15 + c / 4) (c % 4)) (updB b 0 q) = .agg #[.int .u64 (enc WS (upd f (15 + c / 4) (c % 4)) : Nat), .int .u64 (bwC q : Nat), .int .u64 (bwC (b 1) : Nat), .int .u64 (bwC (b 2) : Nat)]) := Lib.hid rfl
  rw [HQ.out]
  clear hW bW k0 k1 hbt hhead hf HQ
  generalize enc WS (upd f (15 + c / 4) (c % 4)) = E2 at *
  generalize bwC q = n3 at *
  have H0 := Lib.hid (show ∃ m0 m1 m2 : Nat, bwC (b 0) = m0 ∧ bwC (b 1) = m1 ∧ bwC (b 2) = m2 from ⟨_, _, _, rfl, rfl, rfl⟩)
  obtain ⟨m0, m1, m2, e0, e1, e2⟩ := H0.out
  unfold Qk at K0
  rw [e0, e1, e2] at K0 HW
  rw [e0] at hq0
  rw [← hq0] at OF WO hs
  show Calls Try.prog 126 #[.agg #[.int .u64 (enc WS f : Nat), .int .u64 (bwC (b 0) : Nat), .int .u64 (bwC (b 1) : Nat), .int .u64 (bwC (b 2) : Nat)], .int .i64 0] w _
  simp only [e0, e1, e2]
  clear hq0 e0 e1 e2 H0
  generalize enc WS f = E at *
  generalize q.length = n at *
  go_enter Try.func126, Try.ntmps126
  go_wp2_with fail
  rw [← HW.out]
  refine (OF.out _).mono ?_
  rintro e w' ⟨rfl, rfl⟩
  go_wp2_with fail
  refine (LO.out _).mono ?_
  rintro e w' ⟨rfl, rfl⟩
  have cq := K0.out.cell 0
  simp only [List.getElem?_toArray, List.getElem?_cons_zero] at cq
  go_wp2_with fail
  refine (WE.out _).mono ?_
  rintro e w1 ⟨rfl, hb1⟩
  have z1 := hb1.size
  have B1 := Lib.hid (below_on B0.out hb1)
  have K01 := Lib.hid (K0.out.below hb1 K0.out.lt)
  have K11 := Lib.hid (K1.out.below hb1 K1.out.lt)
  have f0 := K01.out.free 0
  have x0 := K01.out.cell 0
  simp only [List.getElem?_toArray, List.getElem?_cons_zero] at x0
  clear hb1 cq
  go_wp2_with fail
  obtain ⟨V1, hV⟩ : ∃ V, V = w1.setCell ⟨w.heap.size, 0, none⟩ (.int .u64 (E2 : Nat)) := ⟨_, rfl⟩
  rw [← hV]
  have K02 := Lib.hid (show Bk V1 w.heap.size 74 #[.int .u64 (E2 : Nat), .int .u64 (m0 : Nat), .int .u64 (m1 : Nat), .int .u64 (m2 : Nat)] by rw [hV]; have := K01.out.set 0 (.int .u64 (E2 : Nat)); simpa using this)
  have K12 := Lib.hid (show Bk V1 (w.heap.size + 1) 74 #[.int .u64 0, .int .u64 0, .int .u64 0, .int .u64 0] by rw [hV]; exact K11.out.far (p := ⟨w.heap.size, 0, none⟩) (by show w.heap.size + 1 ≠ w.heap.size; omega) _)
  have B2 := Lib.hid (show Below w.heap.size w V1 by rw [hV]; exact B1.out.setCell (Nat.le_refl _) _)
  clear hV f0 x0 K01 K11
  refine (WO.out _).mono ?_
  rintro e w' ⟨rfl, rfl⟩
  have k3 := K02.out.set (1 + 0) (.int .u64 (n3 : Nat))
  have K03 := Lib.hid (show Bk (V1.setCell ⟨w.heap.size, 1 + 0, none⟩ (.int .u64 (n3 : Nat))) w.heap.size 74 #[.int .u64 (E2 : Nat), .int .u64 (n3 : Nat), .int .u64 (m1 : Nat), .int .u64 (m2 : Nat)] by simpa using k3)
  have K13 := Lib.hid (K12.out.far (p := ⟨w.heap.size, 1 + 0, none⟩) (by show w.heap.size + 1 ≠ w.heap.size; omega) (.int .u64 (n3 : Nat)))
  have B3 := Lib.hid (B2.out.setCell (p := ⟨w.heap.size, 1 + 0, none⟩) (Nat.le_refl _) (.int .u64 (n3 : Nat)))
  have fz := K02.out.free (1 + 0)
  have y0 := K02.out.cell 0
  have y1 := K02.out.cell 1
  have y2 := K02.out.cell 2
  have y3 := K02.out.cell 3
  simp only [List.getElem?_toArray, List.getElem?_cons_zero, List.getElem?_cons_succ] at y0 y1 y2 y3
  have lV := K02.out.lt
  clear k3
  have fr0 : V1.frozen? ⟨w.heap.size + 1, 0, none⟩ = false := (K12.out).free 0
  have cr0 : V1.cell? ⟨w.heap.size + 1, 0, none⟩ = some (.int .u64 0) := (K12.out).cell 0
  have fr1 : V1.frozen? ⟨w.heap.size + 1, 1, none⟩ = false := (K12.out).free 1
  have cr1 : V1.cell? ⟨w.heap.size + 1, 1, none⟩ = some (.int .u64 0) := (K12.out).cell 1
  have fr2 : V1.frozen? ⟨w.heap.size + 1, 2, none⟩ = false := (K12.out).free 2
  have cr2 : V1.cell? ⟨w.heap.size + 1, 2, none⟩ = some (.int .u64 0) := (K12.out).cell 2
  have fr3 : V1.frozen? ⟨w.heap.size + 1, 3, none⟩ = false := (K12.out).free 3
  have cr3 : V1.cell? ⟨w.heap.size + 1, 3, none⟩ = some (.int .u64 0) := (K12.out).cell 3
  go_wp2
  clear y0 y1 y2 y3 fz cr0 fr0 cr1 fr1 cr2 fr2 cr3 fr3
  obtain ⟨V2, hV⟩ : ∃ V, V = V1.setCell ⟨w.heap.size, 1, none⟩ (.int .u64 (n3 : Nat)) := ⟨_, rfl⟩
  have K13' : Hid (Bk V2 (w.heap.size + 1) 74 #[.int .u64 0, .int .u64 0, .int .u64 0, .int .u64 0]) := Lib.hid (by rw [hV]; exact K13.out)
  have B3' : Hid (Below w.heap.size w V2) := Lib.hid (by rw [hV]; exact B3.out)
  rw [← hV]
  clear hV
  have kF : Bk ((((V2.setCell ⟨w.heap.size + 1, 0, none⟩ (.int .u64 (E2 : Nat))).setCell ⟨w.heap.size + 1, 1, none⟩ (.int .u64 (n3 : Nat))).setCell ⟨w.heap.size + 1, 2, none⟩ (.int .u64 (m1 : Nat))).setCell ⟨w.heap.size + 1, 3, none⟩ (.int .u64 (m2 : Nat))) (w.heap.size + 1) 74 #[.int .u64 (E2 : Nat), .int .u64 (n3 : Nat), .int .u64 (m1 : Nat), .int .u64 (m2 : Nat)] := by
    have a0 := K13'.out
    have a1 := a0.set 0 (.int .u64 (E2 : Nat))
    have a2 := a1.set 1 (.int .u64 (n3 : Nat))
    have a3 := a2.set 2 (.int .u64 (m1 : Nat))
    have a4 := a3.set 3 (.int .u64 (m2 : Nat))
    simpa using a4
  have bF : ∀ B, B ≤ w.heap.size + 1 → Below B V2 ((((V2.setCell ⟨w.heap.size + 1, 0, none⟩ (.int .u64 (E2 : Nat))).setCell ⟨w.heap.size + 1, 1, none⟩ (.int .u64 (n3 : Nat))).setCell ⟨w.heap.size + 1, 2, none⟩ (.int .u64 (m1 : Nat))).setCell ⟨w.heap.size + 1, 3, none⟩ (.int .u64 (m2 : Nat))) := fun B hB => (((((Below.refl _ _).setCell (by show B ≤ w.heap.size + 1; omega) _).setCell (by show B ≤ w.heap.size + 1; omega) _).setCell (by show B ≤ w.heap.size + 1; omega) _).setCell (by show B ≤ w.heap.size + 1; omega) _)
  have nF : ∀ q, q ≠ w.heap.size + 1 → ((((V2.setCell ⟨w.heap.size + 1, 0, none⟩ (.int .u64 (E2 : Nat))).setCell ⟨w.heap.size + 1, 1, none⟩ (.int .u64 (n3 : Nat))).setCell ⟨w.heap.size + 1, 2, none⟩ (.int .u64 (m1 : Nat))).setCell ⟨w.heap.size + 1, 3, none⟩ (.int .u64 (m2 : Nat))).heap[q]? = V2.heap[q]? := fun q hq => (Below.heap_setCell _ _ _ q (by show q ≠ w.heap.size + 1; omega)).trans ((Below.heap_setCell _ _ _ q (by show q ≠ w.heap.size + 1; omega)).trans ((Below.heap_setCell _ _ _ q (by show q ≠ w.heap.size + 1; omega)).trans (Below.heap_setCell _ _ _ q (by show q ≠ w.heap.size + 1; omega))))
  have sF : ((((V2.setCell ⟨w.heap.size + 1, 0, none⟩ (.int .u64 (E2 : Nat))).setCell ⟨w.heap.size + 1, 1, none⟩ (.int .u64 (n3 : Nat))).setCell ⟨w.heap.size + 1, 2, none⟩ (.int .u64 (m1 : Nat))).setCell ⟨w.heap.size + 1, 3, none⟩ (.int .u64 (m2 : Nat))).heap.size = V2.heap.size := by simp
  have KF := Lib.hid kF
  have BF := Lib.hid bF
  have NF := Lib.hid nF
  obtain ⟨F, hF⟩ : ∃ F, F = ((((V2.setCell ⟨w.heap.size + 1, 0, none⟩ (.int .u64 (E2 : Nat))).setCell ⟨w.heap.size + 1, 1, none⟩ (.int .u64 (n3 : Nat))).setCell ⟨w.heap.size + 1, 2, none⟩ (.int .u64 (m1 : Nat))).setCell ⟨w.heap.size + 1, 3, none⟩ (.int .u64 (m2 : Nat))) := ⟨_, rfl⟩
  rw [← hF] at KF BF NF sF
  rw [← hF]
  clear kF bF nF hF
  have sFa := Nat.le_of_eq sF
  have sFb := Nat.le_of_eq sF.symm
  clear sF
  have cF0 := KF.out.cell 0
  have cF1 := KF.out.cell 1
  have cF2 := KF.out.cell 2
  have cF3 := KF.out.cell 3
  simp only [List.getElem?_toArray, List.getElem?_cons_zero, List.getElem?_cons_succ] at cF0 cF1 cF2 cF3
  refine bodyPost_ret (v := .agg #[.int .u64 (E2 : Nat), .int .u64 (n3 : Nat), .int .u64 (m1 : Nat), .int .u64 (m2 : Nat)]) (by simp [results, Try.results126, cF0, cF1, cF2, cF3, go_sem]) rfl ?_
  exact ⟨rfl, B3'.out.trans (BF.out _ (by omega))⟩
theorem takq1 (f : Nat → Nat) (b : Nat → List Nat) (w : World) (hf : okF WS f) (c : Nat) (q : List Nat) (hbt : b 1 = c :: q) (hok : okS (c :: q)) (hl : q.length ≤ 6) :
    Calls Try.prog 126 #[QV f b, .int .i64 1] w fun e w' => e = .returned (QV (upd f (15 + c / 4) (c % 4)) (updB b 1 q)) ∧ Below w.heap.size w w' := by
  have hc12 := hok.head
  obtain ⟨W, hW⟩ : ∃ W, W = (w.alloc (.cells #[.int .u64 (enc WS f : Nat), .int .u64 (bwC (b 0) : Nat), .int .u64 (bwC (b 1) : Nat), .int .u64 (bwC (b 2) : Nat)] 74)).alloc (.cells #[.int .u64 0, .int .u64 0, .int .u64 0, .int .u64 0] 74) := ⟨_, rfl⟩
  have bW : Below w.heap.size w W := by rw [hW]; go_grown
  have k0 : Bk W w.heap.size 74 (Qk f b) := by rw [hW]; exact (Bk.new w _ _).alloc _
  have k1 : Bk W (w.heap.size + 1) 74 #[.int .u64 0, .int .u64 0, .int .u64 0, .int .u64 0] := by
    rw [hW]; have := Bk.new (w.alloc (.cells #[.int .u64 (enc WS f : Nat), .int .u64 (bwC (b 0) : Nat), .int .u64 (bwC (b 1) : Nat), .int .u64 (bwC (b 2) : Nat)] 74)) #[.int .u64 0, .int .u64 0, .int .u64 0, .int .u64 0] 74
    rwa [World.size_alloc] at this
  have K0 := Lib.hid k0
  have K1 := Lib.hid k1
  have B0 := Lib.hid bW
  have HW := Lib.hid hW
  have l0 := k0.lt
  have OF := Lib.hid (fun v => oldf_any c q v hok (by omega))
  have WO := Lib.hid (fun v => witho_any c q v hok (by omega))
  have LO := Lib.hid (fun v => lows_any (16 + c) v (by omega) c (Lib.hid (by omega)))
  have WE := Lib.hid (fun v => wentF fld2 hf (c / 4) (c % 4) ((c % 4 : Nat) : Int) (show c / 4 < 3 by omega) (show c % 4 < 4 by omega) (by simp [fL]) v)
  have hhead := bwC_head hok
  have hs : ((bwC (c :: q) : Nat) : Int) / 2 ^ (8 * (q.length : Int)).toNat = ((16 + c : Nat) : Int) := by
    rw [div_pow (bwC (c :: q)) (8 * q.length) _ (by omega), pow256, hhead]
  have HBT := Lib.hid hbt
  have hq0 : bwC (b 1) = bwC (c :: q) := by rw [hbt]
  have HQ : Hid (QV (upd f (15 + c / 4) (c % 4)) (updB b 1 q) = .agg #[.int .u64 (enc WS (upd f (15 + c / 4) (c % 4)) : Nat), .int .u64 (bwC (b 0) : Nat), .int .u64 (bwC q : Nat), .int .u64 (bwC (b 2) : Nat)]) := Lib.hid rfl
  rw [HQ.out]
  clear hW bW k0 k1 hbt hhead hf HQ
  generalize enc WS (upd f (15 + c / 4) (c % 4)) = E2 at *
  generalize bwC q = n3 at *
  have H0 := Lib.hid (show ∃ m0 m1 m2 : Nat, bwC (b 0) = m0 ∧ bwC (b 1) = m1 ∧ bwC (b 2) = m2 from ⟨_, _, _, rfl, rfl, rfl⟩)
  obtain ⟨m0, m1, m2, e0, e1, e2⟩ := H0.out
  unfold Qk at K0
  rw [e0, e1, e2] at K0 HW
  rw [e1] at hq0
  rw [← hq0] at OF WO hs
  show Calls Try.prog 126 #[.agg #[.int .u64 (enc WS f : Nat), .int .u64 (bwC (b 0) : Nat), .int .u64 (bwC (b 1) : Nat), .int .u64 (bwC (b 2) : Nat)], .int .i64 1] w _
  simp only [e0, e1, e2]
  clear hq0 e0 e1 e2 H0
  generalize enc WS f = E at *
  generalize q.length = n at *
  go_enter Try.func126, Try.ntmps126
  go_wp2_with fail
  rw [← HW.out]
  refine (OF.out _).mono ?_
  rintro e w' ⟨rfl, rfl⟩
  go_wp2_with fail
  refine (LO.out _).mono ?_
  rintro e w' ⟨rfl, rfl⟩
  have cq := K0.out.cell 0
  simp only [List.getElem?_toArray, List.getElem?_cons_zero] at cq
  go_wp2_with fail
  refine (WE.out _).mono ?_
  rintro e w1 ⟨rfl, hb1⟩
  have z1 := hb1.size
  have B1 := Lib.hid (below_on B0.out hb1)
  have K01 := Lib.hid (K0.out.below hb1 K0.out.lt)
  have K11 := Lib.hid (K1.out.below hb1 K1.out.lt)
  have f0 := K01.out.free 0
  have x0 := K01.out.cell 0
  simp only [List.getElem?_toArray, List.getElem?_cons_zero] at x0
  clear hb1 cq
  go_wp2_with fail
  obtain ⟨V1, hV⟩ : ∃ V, V = w1.setCell ⟨w.heap.size, 0, none⟩ (.int .u64 (E2 : Nat)) := ⟨_, rfl⟩
  rw [← hV]
  have K02 := Lib.hid (show Bk V1 w.heap.size 74 #[.int .u64 (E2 : Nat), .int .u64 (m0 : Nat), .int .u64 (m1 : Nat), .int .u64 (m2 : Nat)] by rw [hV]; have := K01.out.set 0 (.int .u64 (E2 : Nat)); simpa using this)
  have K12 := Lib.hid (show Bk V1 (w.heap.size + 1) 74 #[.int .u64 0, .int .u64 0, .int .u64 0, .int .u64 0] by rw [hV]; exact K11.out.far (p := ⟨w.heap.size, 0, none⟩) (by show w.heap.size + 1 ≠ w.heap.size; omega) _)
  have B2 := Lib.hid (show Below w.heap.size w V1 by rw [hV]; exact B1.out.setCell (Nat.le_refl _) _)
  clear hV f0 x0 K01 K11
  refine (WO.out _).mono ?_
  rintro e w' ⟨rfl, rfl⟩
  have k3 := K02.out.set (1 + 1) (.int .u64 (n3 : Nat))
  have K03 := Lib.hid (show Bk (V1.setCell ⟨w.heap.size, 1 + 1, none⟩ (.int .u64 (n3 : Nat))) w.heap.size 74 #[.int .u64 (E2 : Nat), .int .u64 (m0 : Nat), .int .u64 (n3 : Nat), .int .u64 (m2 : Nat)] by simpa using k3)
  have K13 := Lib.hid (K12.out.far (p := ⟨w.heap.size, 1 + 1, none⟩) (by show w.heap.size + 1 ≠ w.heap.size; omega) (.int .u64 (n3 : Nat)))
  have B3 := Lib.hid (B2.out.setCell (p := ⟨w.heap.size, 1 + 1, none⟩) (Nat.le_refl _) (.int .u64 (n3 : Nat)))
  have fz := K02.out.free (1 + 1)
  have y0 := K02.out.cell 0
  have y1 := K02.out.cell 1
  have y2 := K02.out.cell 2
  have y3 := K02.out.cell 3
  simp only [List.getElem?_toArray, List.getElem?_cons_zero, List.getElem?_cons_succ] at y0 y1 y2 y3
  have lV := K02.out.lt
  clear k3
  have fr0 : V1.frozen? ⟨w.heap.size + 1, 0, none⟩ = false := (K12.out).free 0
  have cr0 : V1.cell? ⟨w.heap.size + 1, 0, none⟩ = some (.int .u64 0) := (K12.out).cell 0
  have fr1 : V1.frozen? ⟨w.heap.size + 1, 1, none⟩ = false := (K12.out).free 1
  have cr1 : V1.cell? ⟨w.heap.size + 1, 1, none⟩ = some (.int .u64 0) := (K12.out).cell 1
  have fr2 : V1.frozen? ⟨w.heap.size + 1, 2, none⟩ = false := (K12.out).free 2
  have cr2 : V1.cell? ⟨w.heap.size + 1, 2, none⟩ = some (.int .u64 0) := (K12.out).cell 2
  have fr3 : V1.frozen? ⟨w.heap.size + 1, 3, none⟩ = false := (K12.out).free 3
  have cr3 : V1.cell? ⟨w.heap.size + 1, 3, none⟩ = some (.int .u64 0) := (K12.out).cell 3
  go_wp2
  clear y0 y1 y2 y3 fz cr0 fr0 cr1 fr1 cr2 fr2 cr3 fr3
  obtain ⟨V2, hV⟩ : ∃ V, V = V1.setCell ⟨w.heap.size, 2, none⟩ (.int .u64 (n3 : Nat)) := ⟨_, rfl⟩
  have K13' : Hid (Bk V2 (w.heap.size + 1) 74 #[.int .u64 0, .int .u64 0, .int .u64 0, .int .u64 0]) := Lib.hid (by rw [hV]; exact K13.out)
  have B3' : Hid (Below w.heap.size w V2) := Lib.hid (by rw [hV]; exact B3.out)
  rw [← hV]
  clear hV
  have kF : Bk ((((V2.setCell ⟨w.heap.size + 1, 0, none⟩ (.int .u64 (E2 : Nat))).setCell ⟨w.heap.size + 1, 1, none⟩ (.int .u64 (m0 : Nat))).setCell ⟨w.heap.size + 1, 2, none⟩ (.int .u64 (n3 : Nat))).setCell ⟨w.heap.size + 1, 3, none⟩ (.int .u64 (m2 : Nat))) (w.heap.size + 1) 74 #[.int .u64 (E2 : Nat), .int .u64 (m0 : Nat), .int .u64 (n3 : Nat), .int .u64 (m2 : Nat)] := by
    have a0 := K13'.out
    have a1 := a0.set 0 (.int .u64 (E2 : Nat))
    have a2 := a1.set 1 (.int .u64 (m0 : Nat))
    have a3 := a2.set 2 (.int .u64 (n3 : Nat))
    have a4 := a3.set 3 (.int .u64 (m2 : Nat))
    simpa using a4
  have bF : ∀ B, B ≤ w.heap.size + 1 → Below B V2 ((((V2.setCell ⟨w.heap.size + 1, 0, none⟩ (.int .u64 (E2 : Nat))).setCell ⟨w.heap.size + 1, 1, none⟩ (.int .u64 (m0 : Nat))).setCell ⟨w.heap.size + 1, 2, none⟩ (.int .u64 (n3 : Nat))).setCell ⟨w.heap.size + 1, 3, none⟩ (.int .u64 (m2 : Nat))) := fun B hB => (((((Below.refl _ _).setCell (by show B ≤ w.heap.size + 1; omega) _).setCell (by show B ≤ w.heap.size + 1; omega) _).setCell (by show B ≤ w.heap.size + 1; omega) _).setCell (by show B ≤ w.heap.size + 1; omega) _)
  have nF : ∀ q, q ≠ w.heap.size + 1 → ((((V2.setCell ⟨w.heap.size + 1, 0, none⟩ (.int .u64 (E2 : Nat))).setCell ⟨w.heap.size + 1, 1, none⟩ (.int .u64 (m0 : Nat))).setCell ⟨w.heap.size + 1, 2, none⟩ (.int .u64 (n3 : Nat))).setCell ⟨w.heap.size + 1, 3, none⟩ (.int .u64 (m2 : Nat))).heap[q]? = V2.heap[q]? := fun q hq => (Below.heap_setCell _ _ _ q (by show q ≠ w.heap.size + 1; omega)).trans ((Below.heap_setCell _ _ _ q (by show q ≠ w.heap.size + 1; omega)).trans ((Below.heap_setCell _ _ _ q (by show q ≠ w.heap.size + 1; omega)).trans (Below.heap_setCell _ _ _ q (by show q ≠ w.heap.size + 1; omega))))
  have sF : ((((V2.setCell ⟨w.heap.size + 1, 0, none⟩ (.int .u64 (E2 : Nat))).setCell ⟨w.heap.size + 1, 1, none⟩ (.int .u64 (m0 : Nat))).setCell ⟨w.heap.size + 1, 2, none⟩ (.int .u64 (n3 : Nat))).setCell ⟨w.heap.size + 1, 3, none⟩ (.int .u64 (m2 : Nat))).heap.size = V2.heap.size := by simp
  have KF := Lib.hid kF
  have BF := Lib.hid bF
  have NF := Lib.hid nF
  obtain ⟨F, hF⟩ : ∃ F, F = ((((V2.setCell ⟨w.heap.size + 1, 0, none⟩ (.int .u64 (E2 : Nat))).setCell ⟨w.heap.size + 1, 1, none⟩ (.int .u64 (m0 : Nat))).setCell ⟨w.heap.size + 1, 2, none⟩ (.int .u64 (n3 : Nat))).setCell ⟨w.heap.size + 1, 3, none⟩ (.int .u64 (m2 : Nat))) := ⟨_, rfl⟩
  rw [← hF] at KF BF NF sF
  rw [← hF]
  clear kF bF nF hF
  have sFa := Nat.le_of_eq sF
  have sFb := Nat.le_of_eq sF.symm
  clear sF
  have cF0 := KF.out.cell 0
  have cF1 := KF.out.cell 1
  have cF2 := KF.out.cell 2
  have cF3 := KF.out.cell 3
  simp only [List.getElem?_toArray, List.getElem?_cons_zero, List.getElem?_cons_succ] at cF0 cF1 cF2 cF3
  refine bodyPost_ret (v := .agg #[.int .u64 (E2 : Nat), .int .u64 (m0 : Nat), .int .u64 (n3 : Nat), .int .u64 (m2 : Nat)]) (by simp [results, Try.results126, cF0, cF1, cF2, cF3, go_sem]) rfl ?_
  exact ⟨rfl, B3'.out.trans (BF.out _ (by omega))⟩
theorem takq2 (f : Nat → Nat) (b : Nat → List Nat) (w : World) (hf : okF WS f) (c : Nat) (q : List Nat) (hbt : b 2 = c :: q) (hok : okS (c :: q)) (hl : q.length ≤ 6) :
    Calls Try.prog 126 #[QV f b, .int .i64 2] w fun e w' => e = .returned (QV (upd f (15 + c / 4) (c % 4)) (updB b 2 q)) ∧ Below w.heap.size w w' := by
  have hc12 := hok.head
  obtain ⟨W, hW⟩ : ∃ W, W = (w.alloc (.cells #[.int .u64 (enc WS f : Nat), .int .u64 (bwC (b 0) : Nat), .int .u64 (bwC (b 1) : Nat), .int .u64 (bwC (b 2) : Nat)] 74)).alloc (.cells #[.int .u64 0, .int .u64 0, .int .u64 0, .int .u64 0] 74) := ⟨_, rfl⟩
  have bW : Below w.heap.size w W := by rw [hW]; go_grown
  have k0 : Bk W w.heap.size 74 (Qk f b) := by rw [hW]; exact (Bk.new w _ _).alloc _
  have k1 : Bk W (w.heap.size + 1) 74 #[.int .u64 0, .int .u64 0, .int .u64 0, .int .u64 0] := by
    rw [hW]; have := Bk.new (w.alloc (.cells #[.int .u64 (enc WS f : Nat), .int .u64 (bwC (b 0) : Nat), .int .u64 (bwC (b 1) : Nat), .int .u64 (bwC (b 2) : Nat)] 74)) #[.int .u64 0, .int .u64 0, .int .u64 0, .int .u64 0] 74
    rwa [World.size_alloc] at this
  have K0 := Lib.hid k0
  have K1 := Lib.hid k1
  have B0 := Lib.hid bW
  have HW := Lib.hid hW
  have l0 := k0.lt
  have OF := Lib.hid (fun v => oldf_any c q v hok (by omega))
  have WO := Lib.hid (fun v => witho_any c q v hok (by omega))
  have LO := Lib.hid (fun v => lows_any (16 + c) v (by omega) c (Lib.hid (by omega)))
  have WE := Lib.hid (fun v => wentF fld2 hf (c / 4) (c % 4) ((c % 4 : Nat) : Int) (show c / 4 < 3 by omega) (show c % 4 < 4 by omega) (by simp [fL]) v)
  have hhead := bwC_head hok
  have hs : ((bwC (c :: q) : Nat) : Int) / 2 ^ (8 * (q.length : Int)).toNat = ((16 + c : Nat) : Int) := by
    rw [div_pow (bwC (c :: q)) (8 * q.length) _ (by omega), pow256, hhead]
  have HBT := Lib.hid hbt
  have hq0 : bwC (b 2) = bwC (c :: q) := by rw [hbt]
  have HQ : Hid (QV (upd f (15 + c / 4) (c % 4)) (updB b 2 q) = .agg #[.int .u64 (enc WS (upd f (15 + c / 4) (c % 4)) : Nat), .int .u64 (bwC (b 0) : Nat), .int .u64 (bwC (b 1) : Nat), .int .u64 (bwC q : Nat)]) := Lib.hid rfl
  rw [HQ.out]
  clear hW bW k0 k1 hbt hhead hf HQ
  generalize enc WS (upd f (15 + c / 4) (c % 4)) = E2 at *
  generalize bwC q = n3 at *
  have H0 := Lib.hid (show ∃ m0 m1 m2 : Nat, bwC (b 0) = m0 ∧ bwC (b 1) = m1 ∧ bwC (b 2) = m2 from ⟨_, _, _, rfl, rfl, rfl⟩)
  obtain ⟨m0, m1, m2, e0, e1, e2⟩ := H0.out
  unfold Qk at K0
  rw [e0, e1, e2] at K0 HW
  rw [e2] at hq0
  rw [← hq0] at OF WO hs
  show Calls Try.prog 126 #[.agg #[.int .u64 (enc WS f : Nat), .int .u64 (bwC (b 0) : Nat), .int .u64 (bwC (b 1) : Nat), .int .u64 (bwC (b 2) : Nat)], .int .i64 2] w _
  simp only [e0, e1, e2]
  clear hq0 e0 e1 e2 H0
  generalize enc WS f = E at *
  generalize q.length = n at *
  go_enter Try.func126, Try.ntmps126
  go_wp2_with fail
  rw [← HW.out]
  refine (OF.out _).mono ?_
  rintro e w' ⟨rfl, rfl⟩
  go_wp2_with fail
  refine (LO.out _).mono ?_
  rintro e w' ⟨rfl, rfl⟩
  have cq := K0.out.cell 0
  simp only [List.getElem?_toArray, List.getElem?_cons_zero] at cq
  go_wp2_with fail
  refine (WE.out _).mono ?_
  rintro e w1 ⟨rfl, hb1⟩
  have z1 := hb1.size
  have B1 := Lib.hid (below_on B0.out hb1)
  have K01 := Lib.hid (K0.out.below hb1 K0.out.lt)
  have K11 := Lib.hid (K1.out.below hb1 K1.out.lt)
  have f0 := K01.out.free 0
  have x0 := K01.out.cell 0
  simp only [List.getElem?_toArray, List.getElem?_cons_zero] at x0
  clear hb1 cq
  go_wp2_with fail
  obtain ⟨V1, hV⟩ : ∃ V, V = w1.setCell ⟨w.heap.size, 0, none⟩ (.int .u64 (E2 : Nat)) := ⟨_, rfl⟩
  rw [← hV]
  have K02 := Lib.hid (show Bk V1 w.heap.size 74 #[.int .u64 (E2 : Nat), .int .u64 (m0 : Nat), .int .u64 (m1 : Nat), .int .u64 (m2 : Nat)] by rw [hV]; have := K01.out.set 0 (.int .u64 (E2 : Nat)); simpa using this)
  have K12 := Lib.hid (show Bk V1 (w.heap.size + 1) 74 #[.int .u64 0, .int .u64 0, .int .u64 0, .int .u64 0] by rw [hV]; exact K11.out.far (p := ⟨w.heap.size, 0, none⟩) (by show w.heap.size + 1 ≠ w.heap.size; omega) _)
  have B2 := Lib.hid (show Below w.heap.size w V1 by rw [hV]; exact B1.out.setCell (Nat.le_refl _) _)
  clear hV f0 x0 K01 K11
  refine (WO.out _).mono ?_
  rintro e w' ⟨rfl, rfl⟩
  have k3 := K02.out.set (1 + 2) (.int .u64 (n3 : Nat))
  have K03 := Lib.hid (show Bk (V1.setCell ⟨w.heap.size, 1 + 2, none⟩ (.int .u64 (n3 : Nat))) w.heap.size 74 #[.int .u64 (E2 : Nat), .int .u64 (m0 : Nat), .int .u64 (m1 : Nat), .int .u64 (n3 : Nat)] by simpa using k3)
  have K13 := Lib.hid (K12.out.far (p := ⟨w.heap.size, 1 + 2, none⟩) (by show w.heap.size + 1 ≠ w.heap.size; omega) (.int .u64 (n3 : Nat)))
  have B3 := Lib.hid (B2.out.setCell (p := ⟨w.heap.size, 1 + 2, none⟩) (Nat.le_refl _) (.int .u64 (n3 : Nat)))
  have fz := K02.out.free (1 + 2)
  have y0 := K02.out.cell 0
  have y1 := K02.out.cell 1
  have y2 := K02.out.cell 2
  have y3 := K02.out.cell 3
  simp only [List.getElem?_toArray, List.getElem?_cons_zero, List.getElem?_cons_succ] at y0 y1 y2 y3
  have lV := K02.out.lt
  clear k3
  have fr0 : V1.frozen? ⟨w.heap.size + 1, 0, none⟩ = false := (K12.out).free 0
  have cr0 : V1.cell? ⟨w.heap.size + 1, 0, none⟩ = some (.int .u64 0) := (K12.out).cell 0
  have fr1 : V1.frozen? ⟨w.heap.size + 1, 1, none⟩ = false := (K12.out).free 1
  have cr1 : V1.cell? ⟨w.heap.size + 1, 1, none⟩ = some (.int .u64 0) := (K12.out).cell 1
  have fr2 : V1.frozen? ⟨w.heap.size + 1, 2, none⟩ = false := (K12.out).free 2
  have cr2 : V1.cell? ⟨w.heap.size + 1, 2, none⟩ = some (.int .u64 0) := (K12.out).cell 2
  have fr3 : V1.frozen? ⟨w.heap.size + 1, 3, none⟩ = false := (K12.out).free 3
  have cr3 : V1.cell? ⟨w.heap.size + 1, 3, none⟩ = some (.int .u64 0) := (K12.out).cell 3
  go_wp2
  clear y0 y1 y2 y3 fz cr0 fr0 cr1 fr1 cr2 fr2 cr3 fr3
  obtain ⟨V2, hV⟩ : ∃ V, V = V1.setCell ⟨w.heap.size, 3, none⟩ (.int .u64 (n3 : Nat)) := ⟨_, rfl⟩
  have K13' : Hid (Bk V2 (w.heap.size + 1) 74 #[.int .u64 0, .int .u64 0, .int .u64 0, .int .u64 0]) := Lib.hid (by rw [hV]; exact K13.out)
  have B3' : Hid (Below w.heap.size w V2) := Lib.hid (by rw [hV]; exact B3.out)
  rw [← hV]
  clear hV
  have kF : Bk ((((V2.setCell ⟨w.heap.size + 1, 0, none⟩ (.int .u64 (E2 : Nat))).setCell ⟨w.heap.size + 1, 1, none⟩ (.int .u64 (m0 : Nat))).setCell ⟨w.heap.size + 1, 2, none⟩ (.int .u64 (m1 : Nat))).setCell ⟨w.heap.size + 1, 3, none⟩ (.int .u64 (n3 : Nat))) (w.heap.size + 1) 74 #[.int .u64 (E2 : Nat), .int .u64 (m0 : Nat), .int .u64 (m1 : Nat), .int .u64 (n3 : Nat)] := by
    have a0 := K13'.out
    have a1 := a0.set 0 (.int .u64 (E2 : Nat))
    have a2 := a1.set 1 (.int .u64 (m0 : Nat))
    have a3 := a2.set 2 (.int .u64 (m1 : Nat))
    have a4 := a3.set 3 (.int .u64 (n3 : Nat))
    simpa using a4
  have bF : ∀ B, B ≤ w.heap.size + 1 → Below B V2 ((((V2.setCell ⟨w.heap.size + 1, 0, none⟩ (.int .u64 (E2 : Nat))).setCell ⟨w.heap.size + 1, 1, none⟩ (.int .u64 (m0 : Nat))).setCell ⟨w.heap.size + 1, 2, none⟩ (.int .u64 (m1 : Nat))).setCell ⟨w.heap.size + 1, 3, none⟩ (.int .u64 (n3 : Nat))) := fun B hB => (((((Below.refl _ _).setCell (by show B ≤ w.heap.size + 1; omega) _).setCell (by show B ≤ w.heap.size + 1; omega) _).setCell (by show B ≤ w.heap.size + 1; omega) _).setCell (by show B ≤ w.heap.size + 1; omega) _)
  have nF : ∀ q, q ≠ w.heap.size + 1 → ((((V2.setCell ⟨w.heap.size + 1, 0, none⟩ (.int .u64 (E2 : Nat))).setCell ⟨w.heap.size + 1, 1, none⟩ (.int .u64 (m0 : Nat))).setCell ⟨w.heap.size + 1, 2, none⟩ (.int .u64 (m1 : Nat))).setCell ⟨w.heap.size + 1, 3, none⟩ (.int .u64 (n3 : Nat))).heap[q]? = V2.heap[q]? := fun q hq => (Below.heap_setCell _ _ _ q (by show q ≠ w.heap.size + 1; omega)).trans ((Below.heap_setCell _ _ _ q (by show q ≠ w.heap.size + 1; omega)).trans ((Below.heap_setCell _ _ _ q (by show q ≠ w.heap.size + 1; omega)).trans (Below.heap_setCell _ _ _ q (by show q ≠ w.heap.size + 1; omega))))
  have sF : ((((V2.setCell ⟨w.heap.size + 1, 0, none⟩ (.int .u64 (E2 : Nat))).setCell ⟨w.heap.size + 1, 1, none⟩ (.int .u64 (m0 : Nat))).setCell ⟨w.heap.size + 1, 2, none⟩ (.int .u64 (m1 : Nat))).setCell ⟨w.heap.size + 1, 3, none⟩ (.int .u64 (n3 : Nat))).heap.size = V2.heap.size := by simp
  have KF := Lib.hid kF
  have BF := Lib.hid bF
  have NF := Lib.hid nF
  obtain ⟨F, hF⟩ : ∃ F, F = ((((V2.setCell ⟨w.heap.size + 1, 0, none⟩ (.int .u64 (E2 : Nat))).setCell ⟨w.heap.size + 1, 1, none⟩ (.int .u64 (m0 : Nat))).setCell ⟨w.heap.size + 1, 2, none⟩ (.int .u64 (m1 : Nat))).setCell ⟨w.heap.size + 1, 3, none⟩ (.int .u64 (n3 : Nat))) := ⟨_, rfl⟩
  rw [← hF] at KF BF NF sF
  rw [← hF]
  clear kF bF nF hF
  have sFa := Nat.le_of_eq sF
  have sFb := Nat.le_of_eq sF.symm
  clear sF
  have cF0 := KF.out.cell 0
  have cF1 := KF.out.cell 1
  have cF2 := KF.out.cell 2
  have cF3 := KF.out.cell 3
  simp only [List.getElem?_toArray, List.getElem?_cons_zero, List.getElem?_cons_succ] at cF0 cF1 cF2 cF3
  refine bodyPost_ret (v := .agg #[.int .u64 (E2 : Nat), .int .u64 (m0 : Nat), .int .u64 (m1 : Nat), .int .u64 (n3 : Nat)]) (by simp [results, Try.results126, cF0, cF1, cF2, cF3, go_sem]) rfl ?_
  exact ⟨rfl, B3'.out.trans (BF.out _ (by omega))⟩
end Go.Proofs.Ytpcdcgcbhhnhhaa
namespace Go.Proofs.Ytpcdcgcbhhnhhaa
open Go.RowKit Pl Go.BigFrame
set_option maxHeartbeats 4000000
set_option maxRecDepth 100000
set_option linter.unusedVariables false

/-- The word and the buffers behind a step. -/
def stepQ (L : Pg) (f : Nat → Nat) (b : Nat → List Nat) (st : Nat) : (Nat → Nat) × (Nat → List Nat) :=
  if L.length ≤ st then
    match b (st - L.length) with
    | c :: r => (upd f (15 + c / 4) (c % 4), updB b (st - L.length) r)
    | [] => (f, b)
  else if (smAt L st (f (3 + st))).k = 2 ∧ (smAt L st (f (3 + st))).s = false then
    (goF L f st (smAt L st (f (3 + st))), updB b st (b st ++ [(smAt L st (f (3 + st))).a.toNat * 4 + sumF f st (smAt L st (f (3 + st))).b (smAt L st (f (3 + st))).c]))
  else if (smAt L st (f (3 + st))).k = 1 then
    (upd (stepF L f st) (6 + (st * 3 + (smAt L st (f (3 + st))).a.toNat)) (rdC (b st) (smAt L st (f (3 + st))).b.toNat (f (15 + (smAt L st (f (3 + st))).b.toNat))), b)
  else (stepF L f st, b)
def putBeh (x : Sm) : Bool := x.k == 2 && !x.s
theorem isput_any (x : Sm) (w : World) (r : Bool) (hr : Hid (putBeh x = r)) :
    Calls Try.prog 127 #[x.val] w fun e w' => e = .returned (.bool r) ∧ Below w.heap.size w w' := by
  obtain ⟨k, a, b, c, s⟩ := x
  have hr' := hr.out
  unfold putBeh at hr'
  simp only at hr'
  clear hr
  by_cases h2 : k = 2
  · subst h2
    cases s
    all_goals
      have hfin := Lib.hid hr'
      clear hr'
      go_enter Try.func127, Try.ntmps127
      go_wp2
      go_ret
      exact ⟨by rw [← hfin.out]; rfl, by go_grown⟩
  · have e2 : (k == 2) = false := by rw [beq_eq_false_iff_ne]; exact h2
    have hfin : Hid (r = false) := Lib.hid (by rw [← hr', e2]; rfl)
    clear hr'
    go_enter Try.func127, Try.ntmps127
    go_wp2
    go_ret
    exact ⟨by rw [hfin.out]; rfl, by go_grown⟩
theorem takq_any (f : Nat → Nat) (b : Nat → List Nat) (t : Nat) (w : World) (hf : okF WS f) (ht : t < 3) (c : Nat) (q : List Nat) (hbt : b t = c :: q) (hok : okS (c :: q)) (hl : q.length ≤ 6) :
    Calls Try.prog 126 #[QV f b, .int .i64 t] w fun e w' => e = .returned (QV (upd f (15 + c / 4) (c % 4)) (updB b t q)) ∧ Below w.heap.size w w' := by
  rcases (show t = 0 ∨ t = 1 ∨ t = 2 by omega) with rfl | rfl | rfl
  · exact takq0 f b w hf c q hbt hok hl
  · exact takq1 f b w hf c q hbt hok hl
  · exact takq2 f b w hf c q hbt hok hl
theorem bstp_take (h : PgH) (L : Pg) (f : Nat → Nat) (b : Nat → List Nat) (t : Nat) (w : World) (B : Nat) (hP : PgR w B h L) (hB : B ≤ w.heap.size) (hf : okF WS f) (ht : t < 3) (c : Nat) (q : List Nat) (hbt : b t = c :: q) (hok : okS (c :: q)) (hl : q.length ≤ 6) :
    Calls Try.prog 77 #[PgV h L, QV f b, .int .i64 (L.length + t : Nat)] w fun e w' => e = .returned (QV (upd f (15 + c / 4) (c % 4)) (updB b t q)) ∧ Below w.heap.size w w' := by
  have TQ := Lib.hid (fun v => takq_any f b t v hf ht c q hbt hok hl)
  obtain ⟨S, hS⟩ : ∃ S : Int, ((L.length + t : Nat) : Int) = S := ⟨_, rfl⟩
  have hge : (L.length : Int) ≤ S := by omega
  have hsub : S - (L.length : Int) = (t : Int) := by omega
  rw [hS]
  clear hS hbt hok hf
  obtain ⟨W, hW⟩ : ∃ W, W = ((w.alloc (.cells #[.slice h.A L.length h.c] 36)).alloc (.cells #[.int .u64 (enc WS f : Nat), .int .u64 (bwC (b 0) : Nat), .int .u64 (bwC (b 1) : Nat), .int .u64 (bwC (b 2) : Nat)] 74)).alloc (.cells #[.int .u64 0, .int .u64 0, .int .u64 0, .int .u64 0] 74) := ⟨_, rfl⟩
  have bW : Below w.heap.size w W := by rw [hW]; go_grown
  have sW : W.heap.size = w.heap.size + 1 + 1 + 1 := by rw [hW]; simp
  have k0 : Bk W w.heap.size 36 #[.slice h.A L.length h.c] := by rw [hW]; exact ((Bk.new w _ _).alloc _).alloc _
  have k1 : Bk W (w.heap.size + 1) 74 (Qk f b) := by
    rw [hW]; have := (Bk.new (w.alloc (.cells #[.slice h.A L.length h.c] 36)) (Qk f b) 74).alloc (.cells #[.int .u64 0, .int .u64 0, .int .u64 0, .int .u64 0] 74)
    rwa [World.size_alloc] at this
  have k2 : Bk W (w.heap.size + 1 + 1) 74 #[.int .u64 0, .int .u64 0, .int .u64 0, .int .u64 0] := by
    rw [hW]; have := Bk.new ((w.alloc (.cells #[.slice h.A L.length h.c] 36)).alloc (.cells #[.int .u64 (enc WS f : Nat), .int .u64 (bwC (b 0) : Nat), .int .u64 (bwC (b 1) : Nat), .int .u64 (bwC (b 2) : Nat)] 74)) #[.int .u64 0, .int .u64 0, .int .u64 0, .int .u64 0] 74
    rwa [World.size_alloc, World.size_alloc] at this
  have P0 := Lib.hid (hP.below bW hB)
  have K0 := Lib.hid k0
  have K1 := Lib.hid k1
  have K2 := Lib.hid k2
  have B0 := Lib.hid bW
  have sWa := Nat.le_of_eq sW
  have sWb := Nat.le_of_eq sW.symm
  have HW := Lib.hid hW
  clear hW bW sW k0 k1 k2 hP
  obtain ⟨f2, b2, hf2⟩ : ∃ f2 b2, upd f (15 + c / 4) (c % 4) = f2 ∧ updB b t q = b2 := ⟨_, _, rfl, rfl⟩
  rw [hf2.1, hf2.2] at TQ
  rw [hf2.1, hf2.2]
  clear hf2
  go_enter Try.func77, Try.ntmps77
  go_wp2_with fail
  rw [← HW.out]
  refine (TQ.out _).mono ?_
  rintro e w1 ⟨rfl, hb1⟩
  have B1 := Lib.hid (below_on B0.out hb1)
  have K21 := Lib.hid (K2.out.below hb1 K2.out.lt)
  clear hb1
  have fr0 : w1.frozen? ⟨w.heap.size + 1 + 1, 0, none⟩ = false := (K21.out).free 0
  have cr0 : w1.cell? ⟨w.heap.size + 1 + 1, 0, none⟩ = some (.int .u64 0) := (K21.out).cell 0
  have fr1 : w1.frozen? ⟨w.heap.size + 1 + 1, 1, none⟩ = false := (K21.out).free 1
  have cr1 : w1.cell? ⟨w.heap.size + 1 + 1, 1, none⟩ = some (.int .u64 0) := (K21.out).cell 1
  have fr2 : w1.frozen? ⟨w.heap.size + 1 + 1, 2, none⟩ = false := (K21.out).free 2
  have cr2 : w1.cell? ⟨w.heap.size + 1 + 1, 2, none⟩ = some (.int .u64 0) := (K21.out).cell 2
  have fr3 : w1.frozen? ⟨w.heap.size + 1 + 1, 3, none⟩ = false := (K21.out).free 3
  have cr3 : w1.cell? ⟨w.heap.size + 1 + 1, 3, none⟩ = some (.int .u64 0) := (K21.out).cell 3
  go_wp2
  clear cr0 fr0 cr1 fr1 cr2 fr2 cr3 fr3
  have kF : Bk ((((w1.setCell ⟨w.heap.size + 1 + 1, 0, none⟩ (.int .u64 (enc WS f2 : Nat))).setCell ⟨w.heap.size + 1 + 1, 1, none⟩ (.int .u64 (bwC (b2 0) : Nat))).setCell ⟨w.heap.size + 1 + 1, 2, none⟩ (.int .u64 (bwC (b2 1) : Nat))).setCell ⟨w.heap.size + 1 + 1, 3, none⟩ (.int .u64 (bwC (b2 2) : Nat))) (w.heap.size + 1 + 1) 74 #[.int .u64 (enc WS f2 : Nat), .int .u64 (bwC (b2 0) : Nat), .int .u64 (bwC (b2 1) : Nat), .int .u64 (bwC (b2 2) : Nat)] := by
    have a0 := K21.out
    have a1 := a0.set 0 (.int .u64 (enc WS f2 : Nat))
    have a2 := a1.set 1 (.int .u64 (bwC (b2 0) : Nat))
    have a3 := a2.set 2 (.int .u64 (bwC (b2 1) : Nat))
    have a4 := a3.set 3 (.int .u64 (bwC (b2 2) : Nat))
    simpa using a4
  have bF : ∀ B, B ≤ w.heap.size + 1 + 1 → Below B w1 ((((w1.setCell ⟨w.heap.size + 1 + 1, 0, none⟩ (.int .u64 (enc WS f2 : Nat))).setCell ⟨w.heap.size + 1 + 1, 1, none⟩ (.int .u64 (bwC (b2 0) : Nat))).setCell ⟨w.heap.size + 1 + 1, 2, none⟩ (.int .u64 (bwC (b2 1) : Nat))).setCell ⟨w.heap.size + 1 + 1, 3, none⟩ (.int .u64 (bwC (b2 2) : Nat))) := fun B hB => (((((Below.refl _ _).setCell (by show B ≤ w.heap.size + 1 + 1; omega) _).setCell (by show B ≤ w.heap.size + 1 + 1; omega) _).setCell (by show B ≤ w.heap.size + 1 + 1; omega) _).setCell (by show B ≤ w.heap.size + 1 + 1; omega) _)
  have nF : ∀ q, q ≠ w.heap.size + 1 + 1 → ((((w1.setCell ⟨w.heap.size + 1 + 1, 0, none⟩ (.int .u64 (enc WS f2 : Nat))).setCell ⟨w.heap.size + 1 + 1, 1, none⟩ (.int .u64 (bwC (b2 0) : Nat))).setCell ⟨w.heap.size + 1 + 1, 2, none⟩ (.int .u64 (bwC (b2 1) : Nat))).setCell ⟨w.heap.size + 1 + 1, 3, none⟩ (.int .u64 (bwC (b2 2) : Nat))).heap[q]? = w1.heap[q]? := fun q hq => (Below.heap_setCell _ _ _ q (by show q ≠ w.heap.size + 1 + 1; omega)).trans ((Below.heap_setCell _ _ _ q (by show q ≠ w.heap.size + 1 + 1; omega)).trans ((Below.heap_setCell _ _ _ q (by show q ≠ w.heap.size + 1 + 1; omega)).trans (Below.heap_setCell _ _ _ q (by show q ≠ w.heap.size + 1 + 1; omega))))
  have sF : ((((w1.setCell ⟨w.heap.size + 1 + 1, 0, none⟩ (.int .u64 (enc WS f2 : Nat))).setCell ⟨w.heap.size + 1 + 1, 1, none⟩ (.int .u64 (bwC (b2 0) : Nat))).setCell ⟨w.heap.size + 1 + 1, 2, none⟩ (.int .u64 (bwC (b2 1) : Nat))).setCell ⟨w.heap.size + 1 + 1, 3, none⟩ (.int .u64 (bwC (b2 2) : Nat))).heap.size = w1.heap.size := by simp
  have KF := Lib.hid kF
  have BF := Lib.hid bF
  have NF := Lib.hid nF
  obtain ⟨F, hF⟩ : ∃ F, F = ((((w1.setCell ⟨w.heap.size + 1 + 1, 0, none⟩ (.int .u64 (enc WS f2 : Nat))).setCell ⟨w.heap.size + 1 + 1, 1, none⟩ (.int .u64 (bwC (b2 0) : Nat))).setCell ⟨w.heap.size + 1 + 1, 2, none⟩ (.int .u64 (bwC (b2 1) : Nat))).setCell ⟨w.heap.size + 1 + 1, 3, none⟩ (.int .u64 (bwC (b2 2) : Nat))) := ⟨_, rfl⟩
  rw [← hF] at KF BF NF sF
  rw [← hF]
  clear kF bF nF hF
  have sFa := Nat.le_of_eq sF
  have sFb := Nat.le_of_eq sF.symm
  clear sF
  have cF0 := KF.out.cell 0
  have cF1 := KF.out.cell 1
  have cF2 := KF.out.cell 2
  have cF3 := KF.out.cell 3
  simp only [List.getElem?_toArray, List.getElem?_cons_zero, List.getElem?_cons_succ] at cF0 cF1 cF2 cF3
  refine bodyPost_ret (v := .agg #[.int .u64 (enc WS f2 : Nat), .int .u64 (bwC (b2 0) : Nat), .int .u64 (bwC (b2 1) : Nat), .int .u64 (bwC (b2 2) : Nat)]) (by simp [results, Try.results77, cF0, cF1, cF2, cF3, go_sem]) rfl ?_
  exact ⟨rfl, B1.out.trans (BF.out _ (by omega))⟩
theorem can_lt {L : Pg} {f : Nat → Nat} {t : Nat} (hL : progB L = true) (hf : Good L f) (ht : t < L.length) (hc : canF L f t = true) : f (3 + t) < (L.getD t []).length ∧ (smAt L t (f (3 + t))).okb = true := by
  obtain ⟨xs, hxs⟩ : ∃ xs, L[t]? = some xs := ⟨_, List.getElem?_eq_getElem ht⟩
  have hle := hf.at_ t xs hxs
  have hd : L.getD t [] = xs := getD_some hxs
  unfold canF at hc
  rw [hd] at hc ⊢
  have hne : f (3 + t) ≠ xs.length := by intro e; rw [e] at hc; simp at hc
  have hlt : f (3 + t) < xs.length := by omega
  have hxn : xs[f (3 + t)]? = some xs[f (3 + t)] := List.getElem?_eq_getElem hlt
  have hsm : smAt L t (f (3 + t)) = xs[f (3 + t)] := by unfold smAt; rw [hd]; exact getD_some hxn
  exact ⟨hlt, by rw [hsm]; exact (prog_thr hL hxs).2 _ _ hxn⟩
theorem bstp_rest (h : PgH) (L : Pg) (f : Nat → Nat) (b : Nat → List Nat) (t : Nat) (w : World) (B : Nat) (hP : PgR w B h L) (hB : B ≤ w.heap.size) (hL : progB L = true) (hf : Good L f) (ht : t < L.length) (hc : canF L f t = true) (h4 : ∀ n, n < 2 → f (20 + n) ≤ 4) (hb7 : okB7 b 7) (hk : putBeh (smAt L t (f (3 + t))) = false) (hk1 : (smAt L t (f (3 + t))).k ≠ 1) :
    Calls Try.prog 77 #[PgV h L, QV f b, .int .i64 t] w fun e w' => e = .returned (QV (stepF L f t) b) ∧ Below w.heap.size w w' := by
  obtain ⟨h31, h32⟩ := prog_len hL
  have ht3 : t < 3 := by omega
  obtain ⟨hml, hxok⟩ := can_lt hL hf ht hc
  have hev := Lib.hid (fun (V : World) (hP : PgR V B h L) (hB : B ≤ V.heap.size) => nextev_any h L f t V B hP hB hL hf ht hml)
  have SD := Lib.hid (fun (V : World) (hP : PgR V B h L) (hB : B ≤ V.heap.size) => stepped_any h L f t V B hP hB hL hf ht hc h4)
  unfold evV at hev
  have HF := Lib.hid hf
  have H7 := Lib.hid hb7
  have HML := Lib.hid hml
  obtain ⟨x, hx⟩ : ∃ x, smAt L t (f (3 + t)) = x := ⟨_, rfl⟩
  rw [hx] at hev hxok hk hk1
  have ek1 : (x.k == 1) = false := by rw [beq_eq_false_iff_ne]; exact hk1
  have HX := Lib.hid hx
  have hfd := ev_stmt (t : Int) (f (3 + t) : Nat) x.k x.a x.b x.c x.s
  have IP := Lib.hid (fun v => isput_any x v false (Lib.hid hk))
  have hnge : ¬ (L.length : Int) ≤ (t : Int) := by omega
  have hti : (t : Int) < (L.length : Int) := by omega
  clear hf hb7 hx hc hml h4 hk
  obtain ⟨E, m0, m1, m2, e0, e1, e2, e3⟩ : ∃ E m0 m1 m2 : Nat, enc WS f = E ∧ bwC (b 0) = m0 ∧ bwC (b 1) = m1 ∧ bwC (b 2) = m2 := ⟨_, _, _, _, rfl, rfl, rfl, rfl⟩
  show Calls Try.prog 77 #[PgV h L, .agg #[.int .u64 (enc WS f : Nat), .int .u64 (bwC (b 0) : Nat), .int .u64 (bwC (b 1) : Nat), .int .u64 (bwC (b 2) : Nat)], .int .i64 t] w _
  show Calls _ _ _ _ fun e w' => e = .returned (.agg #[.int .u64 (enc WS (stepF L f t) : Nat), .int .u64 (bwC (b 0) : Nat), .int .u64 (bwC (b 1) : Nat), .int .u64 (bwC (b 2) : Nat)]) ∧ Below w.heap.size w w'
  simp only [e0, e1, e2, e3] at hev SD ⊢
  generalize enc WS (stepF L f t) = E2 at *
  obtain ⟨W, hW⟩ : ∃ W, W = ((w.alloc (.cells #[.slice h.A L.length h.c] 36)).alloc (.cells #[.int .u64 (E : Nat), .int .u64 (m0 : Nat), .int .u64 (m1 : Nat), .int .u64 (m2 : Nat)] 74)).alloc (.cells #[.int .u64 0, .int .u64 0, .int .u64 0, .int .u64 0] 74) := ⟨_, rfl⟩
  have bW : Below w.heap.size w W := by rw [hW]; go_grown
  have sW : W.heap.size = w.heap.size + 1 + 1 + 1 := by rw [hW]; simp
  have k0 : Bk W w.heap.size 36 #[.slice h.A L.length h.c] := by rw [hW]; exact ((Bk.new w _ _).alloc _).alloc _
  have k1 : Bk W (w.heap.size + 1) 74 #[.int .u64 (E : Nat), .int .u64 (m0 : Nat), .int .u64 (m1 : Nat), .int .u64 (m2 : Nat)] := by
    rw [hW]; have := (Bk.new (w.alloc (.cells #[.slice h.A L.length h.c] 36)) #[.int .u64 (E : Nat), .int .u64 (m0 : Nat), .int .u64 (m1 : Nat), .int .u64 (m2 : Nat)] 74).alloc (.cells #[.int .u64 0, .int .u64 0, .int .u64 0, .int .u64 0] 74)
    rwa [World.size_alloc] at this
  have k2 : Bk W (w.heap.size + 1 + 1) 74 #[.int .u64 0, .int .u64 0, .int .u64 0, .int .u64 0] := by
    rw [hW]; have := Bk.new ((w.alloc (.cells #[.slice h.A L.length h.c] 36)).alloc (.cells #[.int .u64 (E : Nat), .int .u64 (m0 : Nat), .int .u64 (m1 : Nat), .int .u64 (m2 : Nat)] 74)) #[.int .u64 0, .int .u64 0, .int .u64 0, .int .u64 0] 74
    rwa [World.size_alloc, World.size_alloc] at this
  have P0 := Lib.hid (hP.below bW hB)
  have K0 := Lib.hid k0
  have K1 := Lib.hid k1
  have K2 := Lib.hid k2
  have B0 := Lib.hid bW
  have sWa := Nat.le_of_eq sW
  have sWb := Nat.le_of_eq sW.symm
  have HW := Lib.hid hW
  clear hW bW sW k0 k1 k2 hP
  go_enter Try.func77, Try.ntmps77
  go_wp2_with fail
  rw [← HW.out]
  refine (hev.out W P0.out (by omega)).mono ?_
  rintro e w1 ⟨rfl, hb1⟩
  have B1 := Lib.hid (below_on B0.out hb1)
  have P1 := Lib.hid (P0.out.below hb1 (by omega))
  have K01 := Lib.hid (K0.out.below hb1 K0.out.lt)
  have K11 := Lib.hid (K1.out.below hb1 K1.out.lt)
  have K21 := Lib.hid (K2.out.below hb1 K2.out.lt)
  have z1 := hb1.size
  clear hb1
  go_wp2_with fail
  obtain ⟨V, hV⟩ : ∃ V, V = w1.alloc (.cells #[.int .i64 x.k, .int .i64 x.a, .int .i64 x.b, .int .i64 x.c, .bool x.s] 127) := ⟨_, rfl⟩
  rw [← hV]
  have bV : Below w1.heap.size w1 V := by rw [hV]; exact (Below.refl _ _).alloc (Nat.le_refl _) _
  have kX : Bk V w1.heap.size 127 #[.int .i64 x.k, .int .i64 x.a, .int .i64 x.b, .int .i64 x.c, .bool x.s] := by rw [hV]; exact Bk.new _ _ _
  have zV := bV.size
  refine (IP.out _).mono ?_
  rintro e w2 ⟨rfl, hb2⟩
  have b12 : Below w1.heap.size w1 w2 := bV.trans (hb2.mono zV)
  have B2 := Lib.hid (B1.out.trans (b12.mono (by omega)))
  have P2 := Lib.hid (P1.out.below b12 (by omega))
  have K02 := Lib.hid (K01.out.below b12 K01.out.lt)
  have K12 := Lib.hid (K11.out.below b12 K11.out.lt)
  have K22 := Lib.hid (K21.out.below b12 K21.out.lt)
  have KX2 := Lib.hid (kX.below hb2 kX.lt)
  have z2 := b12.size
  have lx := KX2.out.lt
  clear hV bV kX hb2 b12 K0 K1 K2 K01 K11 K21 hfd
  have y0 : w2.cell? ⟨w.heap.size + 1, 0, none⟩ = some (.int .u64 (E : Nat)) := K12.out.cell 0
  have y1 : w2.cell? ⟨w.heap.size + 1, 1, none⟩ = some (.int .u64 (m0 : Nat)) := K12.out.cell 1
  have y2 : w2.cell? ⟨w.heap.size + 1, 2, none⟩ = some (.int .u64 (m1 : Nat)) := K12.out.cell 2
  have y3 : w2.cell? ⟨w.heap.size + 1, 3, none⟩ = some (.int .u64 (m2 : Nat)) := K12.out.cell 3
  have cP : w2.cell? ⟨w.heap.size, 0, none⟩ = some (.slice h.A L.length h.c) := K02.out.cell 0
  have lP := K02.out.lt
  have lQ := K12.out.lt
  go_wp2_with fail
  obtain ⟨V3, hV⟩ : ∃ V, V = w2.alloc (.cells #[.int .u64 (E : Nat), .int .u64 (m0 : Nat), .int .u64 (m1 : Nat), .int .u64 (m2 : Nat)] 74) := ⟨_, rfl⟩
  rw [← hV]
  have bV : Below w2.heap.size w2 V3 := by rw [hV]; exact (Below.refl _ _).alloc (Nat.le_refl _) _
  have kR : Bk V3 w2.heap.size 74 #[.int .u64 (E : Nat), .int .u64 (m0 : Nat), .int .u64 (m1 : Nat), .int .u64 (m2 : Nat)] := by rw [hV]; exact Bk.new _ _ _
  have zV3 := bV.size
  refine (SD.out V3 (P2.out.below bV (by omega)) (by omega)).mono ?_
  rintro e w3 ⟨rfl, hb3⟩
  have b23 : Below w2.heap.size w2 w3 := bV.trans (hb3.mono zV3)
  have B3 := Lib.hid (B2.out.trans (b23.mono (by omega)))
  have K13 := Lib.hid (K12.out.below b23 K12.out.lt)
  have K23 := Lib.hid (K22.out.below b23 K22.out.lt)
  have KX3 := Lib.hid (KX2.out.below b23 KX2.out.lt)
  have KR3 := Lib.hid (kR.below hb3 kR.lt)
  have z3 := b23.size
  have lr := KR3.out.lt
  clear hV bV kR hb3 b23 cP lP y0 y1 y2 y3 P2 K02 K12 K22 KX2
  have fR := KR3.out.free 0
  have cR : w3.cell? ⟨w2.heap.size, 0, none⟩ = some (.int .u64 (E : Nat)) := KR3.out.cell 0
  clear SD
  have ck : w3.cell? ⟨w1.heap.size, 0, none⟩ = some (.int .i64 x.k) := KX3.out.cell 0
  have lx3 := KX3.out.lt
  have K4 := Lib.hid (show Bk (w3.setCell ⟨w2.heap.size, 0, none⟩ (.int .u64 (E2 : Nat))) w2.heap.size 74 #[.int .u64 (E2 : Nat), .int .u64 (m0 : Nat), .int .u64 (m1 : Nat), .int .u64 (m2 : Nat)] by have := KR3.out.set 0 (.int .u64 (E2 : Nat)); simpa using this)
  have K24 := Lib.hid (K23.out.far (p := ⟨w2.heap.size, 0, none⟩) (by show w.heap.size + 1 + 1 ≠ w2.heap.size; omega) (.int .u64 (E2 : Nat)))
  have B4 := Lib.hid (B3.out.setCell (p := ⟨w2.heap.size, 0, none⟩) (by show w.heap.size ≤ w2.heap.size; omega) (.int .u64 (E2 : Nat)))
  have q1 : w3.cell? ⟨w2.heap.size, 1, none⟩ = some (.int .u64 (m0 : Nat)) := KR3.out.cell 1
  have q2 : w3.cell? ⟨w2.heap.size, 2, none⟩ = some (.int .u64 (m1 : Nat)) := KR3.out.cell 2
  have q3 : w3.cell? ⟨w2.heap.size, 3, none⟩ = some (.int .u64 (m2 : Nat)) := KR3.out.cell 3
  have fr0 : w3.frozen? ⟨w.heap.size + 1 + 1, 0, none⟩ = false := (K23.out).free 0
  have cr0 : w3.cell? ⟨w.heap.size + 1 + 1, 0, none⟩ = some (.int .u64 0) := (K23.out).cell 0
  have fr1 : w3.frozen? ⟨w.heap.size + 1 + 1, 1, none⟩ = false := (K23.out).free 1
  have cr1 : w3.cell? ⟨w.heap.size + 1 + 1, 1, none⟩ = some (.int .u64 0) := (K23.out).cell 1
  have fr2 : w3.frozen? ⟨w.heap.size + 1 + 1, 2, none⟩ = false := (K23.out).free 2
  have cr2 : w3.cell? ⟨w.heap.size + 1 + 1, 2, none⟩ = some (.int .u64 0) := (K23.out).cell 2
  have fr3 : w3.frozen? ⟨w.heap.size + 1 + 1, 3, none⟩ = false := (K23.out).free 3
  have cr3 : w3.cell? ⟨w.heap.size + 1 + 1, 3, none⟩ = some (.int .u64 0) := (K23.out).cell 3
  go_wp2
  clear q1 q2 q3 ck fR cR cr0 fr0 cr1 fr1 cr2 fr2 cr3 fr3
  obtain ⟨V5, hV⟩ : ∃ V, V = w3.setCell ⟨w2.heap.size, 0, none⟩ (.int .u64 (E2 : Nat)) := ⟨_, rfl⟩
  have K25 : Hid (Bk V5 (w.heap.size + 1 + 1) 74 #[.int .u64 0, .int .u64 0, .int .u64 0, .int .u64 0]) := Lib.hid (by rw [hV]; exact K24.out)
  have B5 : Hid (Below w.heap.size w V5) := Lib.hid (by rw [hV]; exact B4.out)
  rw [← hV]
  clear hV
  have kF : Bk ((((V5.setCell ⟨w.heap.size + 1 + 1, 0, none⟩ (.int .u64 (E2 : Nat))).setCell ⟨w.heap.size + 1 + 1, 1, none⟩ (.int .u64 (m0 : Nat))).setCell ⟨w.heap.size + 1 + 1, 2, none⟩ (.int .u64 (m1 : Nat))).setCell ⟨w.heap.size + 1 + 1, 3, none⟩ (.int .u64 (m2 : Nat))) (w.heap.size + 1 + 1) 74 #[.int .u64 (E2 : Nat), .int .u64 (m0 : Nat), .int .u64 (m1 : Nat), .int .u64 (m2 : Nat)] := by
    have a0 := K25.out
    have a1 := a0.set 0 (.int .u64 (E2 : Nat))
    have a2 := a1.set 1 (.int .u64 (m0 : Nat))
    have a3 := a2.set 2 (.int .u64 (m1 : Nat))
    have a4 := a3.set 3 (.int .u64 (m2 : Nat))
    simpa using a4
  have bF : ∀ B, B ≤ w.heap.size + 1 + 1 → Below B V5 ((((V5.setCell ⟨w.heap.size + 1 + 1, 0, none⟩ (.int .u64 (E2 : Nat))).setCell ⟨w.heap.size + 1 + 1, 1, none⟩ (.int .u64 (m0 : Nat))).setCell ⟨w.heap.size + 1 + 1, 2, none⟩ (.int .u64 (m1 : Nat))).setCell ⟨w.heap.size + 1 + 1, 3, none⟩ (.int .u64 (m2 : Nat))) := fun B hB => (((((Below.refl _ _).setCell (by show B ≤ w.heap.size + 1 + 1; omega) _).setCell (by show B ≤ w.heap.size + 1 + 1; omega) _).setCell (by show B ≤ w.heap.size + 1 + 1; omega) _).setCell (by show B ≤ w.heap.size + 1 + 1; omega) _)
  have nF : ∀ q, q ≠ w.heap.size + 1 + 1 → ((((V5.setCell ⟨w.heap.size + 1 + 1, 0, none⟩ (.int .u64 (E2 : Nat))).setCell ⟨w.heap.size + 1 + 1, 1, none⟩ (.int .u64 (m0 : Nat))).setCell ⟨w.heap.size + 1 + 1, 2, none⟩ (.int .u64 (m1 : Nat))).setCell ⟨w.heap.size + 1 + 1, 3, none⟩ (.int .u64 (m2 : Nat))).heap[q]? = V5.heap[q]? := fun q hq => (Below.heap_setCell _ _ _ q (by show q ≠ w.heap.size + 1 + 1; omega)).trans ((Below.heap_setCell _ _ _ q (by show q ≠ w.heap.size + 1 + 1; omega)).trans ((Below.heap_setCell _ _ _ q (by show q ≠ w.heap.size + 1 + 1; omega)).trans (Below.heap_setCell _ _ _ q (by show q ≠ w.heap.size + 1 + 1; omega))))
  have sF : ((((V5.setCell ⟨w.heap.size + 1 + 1, 0, none⟩ (.int .u64 (E2 : Nat))).setCell ⟨w.heap.size + 1 + 1, 1, none⟩ (.int .u64 (m0 : Nat))).setCell ⟨w.heap.size + 1 + 1, 2, none⟩ (.int .u64 (m1 : Nat))).setCell ⟨w.heap.size + 1 + 1, 3, none⟩ (.int .u64 (m2 : Nat))).heap.size = V5.heap.size := by simp
  have KF := Lib.hid kF
  have BF := Lib.hid bF
  have NF := Lib.hid nF
  obtain ⟨F, hF⟩ : ∃ F, F = ((((V5.setCell ⟨w.heap.size + 1 + 1, 0, none⟩ (.int .u64 (E2 : Nat))).setCell ⟨w.heap.size + 1 + 1, 1, none⟩ (.int .u64 (m0 : Nat))).setCell ⟨w.heap.size + 1 + 1, 2, none⟩ (.int .u64 (m1 : Nat))).setCell ⟨w.heap.size + 1 + 1, 3, none⟩ (.int .u64 (m2 : Nat))) := ⟨_, rfl⟩
  rw [← hF] at KF BF NF sF
  rw [← hF]
  clear kF bF nF hF
  have sFa := Nat.le_of_eq sF
  have sFb := Nat.le_of_eq sF.symm
  clear sF
  have cF0 := KF.out.cell 0
  have cF1 := KF.out.cell 1
  have cF2 := KF.out.cell 2
  have cF3 := KF.out.cell 3
  simp only [List.getElem?_toArray, List.getElem?_cons_zero, List.getElem?_cons_succ] at cF0 cF1 cF2 cF3
  refine bodyPost_ret (v := .agg #[.int .u64 (E2 : Nat), .int .u64 (m0 : Nat), .int .u64 (m1 : Nat), .int .u64 (m2 : Nat)]) (by simp [results, Try.results77, cF0, cF1, cF2, cF3, go_sem]) rfl ?_
  exact ⟨rfl, B5.out.trans (BF.out _ (by omega))⟩
end Go.Proofs.Ytpcdcgcbhhnhhaa
namespace Go.Proofs.Ytpcdcgcbhhnhhaa
open Go.RowKit Pl Go.BigFrame
set_option maxHeartbeats 4000000
set_option maxRecDepth 100000
set_option linter.unusedVariables false

/-- What a cell has. -/
def curC (p : Addr) (w : World) : Value := (w.cell? p).getD undef
theorem bstp_load (h : PgH) (L : Pg) (f : Nat → Nat) (b : Nat → List Nat) (t : Nat) (w : World) (B : Nat) (hP : PgR w B h L) (hB : B ≤ w.heap.size) (hL : progB L = true) (hf : Good L f) (ht : t < L.length) (hc : canF L f t = true) (h4 : ∀ n, n < 2 → f (20 + n) ≤ 4) (hb7 : okB7 b 7) (hk1 : (smAt L t (f (3 + t))).k = 1) (n m : Nat) (hn3 : n < 3) (hm3 : m < 3) (hn : (smAt L t (f (3 + t))).a = (n : Int)) (hm : (smAt L t (f (3 + t))).b = (m : Int)) (r : Nat) (hr : Hid (rdC (b t) m (f (15 + m)) = r)) (hr4 : r < 4) :
    Calls Try.prog 77 #[PgV h L, QV f b, .int .i64 t] w fun e w' => e = .returned (QV (upd (stepF L f t) (6 + (t * 3 + n)) r) b) ∧ Below w.heap.size w w' := by
  have hk : putBeh (smAt L t (f (3 + t))) = false := by unfold putBeh; rw [hk1]; rfl
  have RA := Lib.hid (fun v => readat_any f b t m v hf.ok hb7 (by have := (prog_len hL).2; omega) hm3 r hr)
  have WR := Lib.hid (fun v => wreg_any (stepF L f t) t n r v (stepF_good hL hf ht hc h4).ok (by have := (prog_len hL).2; omega) hn3 hr4)
  obtain ⟨h31, h32⟩ := prog_len hL
  have ht3 : t < 3 := by omega
  obtain ⟨hml, hxok⟩ := can_lt hL hf ht hc
  have hev := Lib.hid (fun (V : World) (hP : PgR V B h L) (hB : B ≤ V.heap.size) => nextev_any h L f t V B hP hB hL hf ht hml)
  have SD := Lib.hid (fun (V : World) (hP : PgR V B h L) (hB : B ≤ V.heap.size) => stepped_any h L f t V B hP hB hL hf ht hc h4)
  unfold evV at hev
  have HF := Lib.hid hf
  have H7 := Lib.hid hb7
  have HML := Lib.hid hml
  obtain ⟨x, hx⟩ : ∃ x, smAt L t (f (3 + t)) = x := ⟨_, rfl⟩
  rw [hx] at hev hxok hk hk1 hn hm
  have ek1 : (x.k == 1) = true := by rw [hk1]; rfl
  have RA : Hid (∀ v, Calls Try.prog 72 #[.agg #[.int .u64 (enc WS f : Nat), .int .u64 (bwC (b 0) : Nat), .int .u64 (bwC (b 1) : Nat), .int .u64 (bwC (b 2) : Nat)], .int .i64 t, .int .i64 m] v fun e w' => e = .returned (.int .i64 r) ∧ Below v.heap.size v w') := RA
  have HNa := Lib.hid hn
  have HMb := Lib.hid hm
  clear hk1 hn hm
  have HX := Lib.hid hx
  have hfd := ev_stmt (t : Int) (f (3 + t) : Nat) x.k x.a x.b x.c x.s
  have IP := Lib.hid (fun v => isput_any x v false (Lib.hid hk))
  have hnge : ¬ (L.length : Int) ≤ (t : Int) := by omega
  have hti : (t : Int) < (L.length : Int) := by omega
  clear hf hb7 hx hc hml h4 hk
  obtain ⟨E, m0, m1, m2, e0, e1, e2, e3⟩ : ∃ E m0 m1 m2 : Nat, enc WS f = E ∧ bwC (b 0) = m0 ∧ bwC (b 1) = m1 ∧ bwC (b 2) = m2 := ⟨_, _, _, _, rfl, rfl, rfl, rfl⟩
  show Calls Try.prog 77 #[PgV h L, .agg #[.int .u64 (enc WS f : Nat), .int .u64 (bwC (b 0) : Nat), .int .u64 (bwC (b 1) : Nat), .int .u64 (bwC (b 2) : Nat)], .int .i64 t] w _
  show Calls _ _ _ _ fun e w' => e = .returned (.agg #[.int .u64 (enc WS (upd (stepF L f t) (6 + (t * 3 + n)) r) : Nat), .int .u64 (bwC (b 0) : Nat), .int .u64 (bwC (b 1) : Nat), .int .u64 (bwC (b 2) : Nat)]) ∧ Below w.heap.size w w'
  simp only [e0, e1, e2, e3] at hev SD RA ⊢
  generalize enc WS (upd (stepF L f t) (6 + (t * 3 + n)) r) = E3 at *
  generalize enc WS (stepF L f t) = E2 at *
  obtain ⟨W, hW⟩ : ∃ W, W = ((w.alloc (.cells #[.slice h.A L.length h.c] 36)).alloc (.cells #[.int .u64 (E : Nat), .int .u64 (m0 : Nat), .int .u64 (m1 : Nat), .int .u64 (m2 : Nat)] 74)).alloc (.cells #[.int .u64 0, .int .u64 0, .int .u64 0, .int .u64 0] 74) := ⟨_, rfl⟩
  have bW : Below w.heap.size w W := by rw [hW]; go_grown
  have sW : W.heap.size = w.heap.size + 1 + 1 + 1 := by rw [hW]; simp
  have k0 : Bk W w.heap.size 36 #[.slice h.A L.length h.c] := by rw [hW]; exact ((Bk.new w _ _).alloc _).alloc _
  have k1 : Bk W (w.heap.size + 1) 74 #[.int .u64 (E : Nat), .int .u64 (m0 : Nat), .int .u64 (m1 : Nat), .int .u64 (m2 : Nat)] := by
    rw [hW]; have := (Bk.new (w.alloc (.cells #[.slice h.A L.length h.c] 36)) #[.int .u64 (E : Nat), .int .u64 (m0 : Nat), .int .u64 (m1 : Nat), .int .u64 (m2 : Nat)] 74).alloc (.cells #[.int .u64 0, .int .u64 0, .int .u64 0, .int .u64 0] 74)
    rwa [World.size_alloc] at this
  have k2 : Bk W (w.heap.size + 1 + 1) 74 #[.int .u64 0, .int .u64 0, .int .u64 0, .int .u64 0] := by
    rw [hW]; have := Bk.new ((w.alloc (.cells #[.slice h.A L.length h.c] 36)).alloc (.cells #[.int .u64 (E : Nat), .int .u64 (m0 : Nat), .int .u64 (m1 : Nat), .int .u64 (m2 : Nat)] 74)) #[.int .u64 0, .int .u64 0, .int .u64 0, .int .u64 0] 74
    rwa [World.size_alloc, World.size_alloc] at this
  have P0 := Lib.hid (hP.below bW hB)
  have K0 := Lib.hid k0
  have K1 := Lib.hid k1
  have K2 := Lib.hid k2
  have B0 := Lib.hid bW
  have sWa := Nat.le_of_eq sW
  have sWb := Nat.le_of_eq sW.symm
  have HW := Lib.hid hW
  clear hW bW sW k0 k1 k2 hP
  go_enter Try.func77, Try.ntmps77
  go_wp2_with fail
  rw [← HW.out]
  refine (hev.out W P0.out (by omega)).mono ?_
  rintro e w1 ⟨rfl, hb1⟩
  have B1 := Lib.hid (below_on B0.out hb1)
  have P1 := Lib.hid (P0.out.below hb1 (by omega))
  have K01 := Lib.hid (K0.out.below hb1 K0.out.lt)
  have K11 := Lib.hid (K1.out.below hb1 K1.out.lt)
  have K21 := Lib.hid (K2.out.below hb1 K2.out.lt)
  have z1 := hb1.size
  clear hb1
  go_wp2_with fail
  obtain ⟨V, hV⟩ : ∃ V, V = w1.alloc (.cells #[.int .i64 x.k, .int .i64 x.a, .int .i64 x.b, .int .i64 x.c, .bool x.s] 127) := ⟨_, rfl⟩
  rw [← hV]
  have bV : Below w1.heap.size w1 V := by rw [hV]; exact (Below.refl _ _).alloc (Nat.le_refl _) _
  have kX : Bk V w1.heap.size 127 #[.int .i64 x.k, .int .i64 x.a, .int .i64 x.b, .int .i64 x.c, .bool x.s] := by rw [hV]; exact Bk.new _ _ _
  have zV := bV.size
  refine (IP.out _).mono ?_
  rintro e w2 ⟨rfl, hb2⟩
  have b12 : Below w1.heap.size w1 w2 := bV.trans (hb2.mono zV)
  have B2 := Lib.hid (B1.out.trans (b12.mono (by omega)))
  have P2 := Lib.hid (P1.out.below b12 (by omega))
  have K02 := Lib.hid (K01.out.below b12 K01.out.lt)
  have K12 := Lib.hid (K11.out.below b12 K11.out.lt)
  have K22 := Lib.hid (K21.out.below b12 K21.out.lt)
  have KX2 := Lib.hid (kX.below hb2 kX.lt)
  have z2 := b12.size
  have lx := KX2.out.lt
  clear hV bV kX hb2 b12 K0 K1 K2 K01 K11 K21 hfd
  have y0 : w2.cell? ⟨w.heap.size + 1, 0, none⟩ = some (.int .u64 (E : Nat)) := K12.out.cell 0
  have y1 : w2.cell? ⟨w.heap.size + 1, 1, none⟩ = some (.int .u64 (m0 : Nat)) := K12.out.cell 1
  have y2 : w2.cell? ⟨w.heap.size + 1, 2, none⟩ = some (.int .u64 (m1 : Nat)) := K12.out.cell 2
  have y3 : w2.cell? ⟨w.heap.size + 1, 3, none⟩ = some (.int .u64 (m2 : Nat)) := K12.out.cell 3
  have cP : w2.cell? ⟨w.heap.size, 0, none⟩ = some (.slice h.A L.length h.c) := K02.out.cell 0
  have lP := K02.out.lt
  have lQ := K12.out.lt
  go_wp2_with fail
  obtain ⟨V3, hV⟩ : ∃ V, V = w2.alloc (.cells #[.int .u64 (E : Nat), .int .u64 (m0 : Nat), .int .u64 (m1 : Nat), .int .u64 (m2 : Nat)] 74) := ⟨_, rfl⟩
  rw [← hV]
  have bV : Below w2.heap.size w2 V3 := by rw [hV]; exact (Below.refl _ _).alloc (Nat.le_refl _) _
  have kR : Bk V3 w2.heap.size 74 #[.int .u64 (E : Nat), .int .u64 (m0 : Nat), .int .u64 (m1 : Nat), .int .u64 (m2 : Nat)] := by rw [hV]; exact Bk.new _ _ _
  have zV3 := bV.size
  refine (SD.out V3 (P2.out.below bV (by omega)) (by omega)).mono ?_
  rintro e w3 ⟨rfl, hb3⟩
  have b23 : Below w2.heap.size w2 w3 := bV.trans (hb3.mono zV3)
  have B3 := Lib.hid (B2.out.trans (b23.mono (by omega)))
  have K13 := Lib.hid (K12.out.below b23 K12.out.lt)
  have K23 := Lib.hid (K22.out.below b23 K22.out.lt)
  have KX3 := Lib.hid (KX2.out.below b23 KX2.out.lt)
  have KR3 := Lib.hid (kR.below hb3 kR.lt)
  have z3 := b23.size
  have lr := KR3.out.lt
  clear hV bV kR hb3 b23 cP lP y0 y1 y2 y3 P2 K02 K12 K22 KX2
  have fR := KR3.out.free 0
  have cR : w3.cell? ⟨w2.heap.size, 0, none⟩ = some (.int .u64 (E : Nat)) := KR3.out.cell 0
  have ck : w3.cell? ⟨w1.heap.size, 0, none⟩ = some (.int .i64 x.k) := KX3.out.cell 0
  have lx3 := KX3.out.lt
  go_wp2_with fail
  obtain ⟨V4, hV⟩ : ∃ V, V = w3.setCell ⟨w2.heap.size, 0, none⟩ (.int .u64 (E2 : Nat)) := ⟨_, rfl⟩
  rw [← hV]
  have K4 := Lib.hid (show Bk V4 w2.heap.size 74 #[.int .u64 (E2 : Nat), .int .u64 (m0 : Nat), .int .u64 (m1 : Nat), .int .u64 (m2 : Nat)] by rw [hV]; have := KR3.out.set 0 (.int .u64 (E2 : Nat)); simpa using this)
  have K14 := Lib.hid (show Bk V4 (w.heap.size + 1) 74 #[.int .u64 (E : Nat), .int .u64 (m0 : Nat), .int .u64 (m1 : Nat), .int .u64 (m2 : Nat)] by rw [hV]; exact K13.out.far (p := ⟨w2.heap.size, 0, none⟩) (by show w.heap.size + 1 ≠ w2.heap.size; omega) _)
  have K24 := Lib.hid (show Bk V4 (w.heap.size + 1 + 1) 74 #[.int .u64 0, .int .u64 0, .int .u64 0, .int .u64 0] by rw [hV]; exact K23.out.far (p := ⟨w2.heap.size, 0, none⟩) (by show w.heap.size + 1 + 1 ≠ w2.heap.size; omega) _)
  have KX4 := Lib.hid (show Bk V4 w1.heap.size 127 #[.int .i64 x.k, .int .i64 (n : Int), .int .i64 (m : Int), .int .i64 x.c, .bool x.s] by rw [hV, ← HNa.out, ← HMb.out]; exact KX3.out.far (p := ⟨w2.heap.size, 0, none⟩) (by show w1.heap.size ≠ w2.heap.size; omega) _)
  have B4 := Lib.hid (show Below w.heap.size w V4 by rw [hV]; exact B3.out.setCell (p := ⟨w2.heap.size, 0, none⟩) (by show w.heap.size ≤ w2.heap.size; omega) _)
  have z4 : w3.heap.size ≤ V4.heap.size := by rw [hV]; simp
  clear hV K13 K23 KX3 KR3 fR cR ck
  go_wp2_with fail
  have g0 : ∀ y : Ws (Fr V4 []), y.val.cell? ⟨w2.heap.size, 0, none⟩ = some (.int .u64 (E2 : Nat)) := Ws.same (bs := []) K4.out.lt (K4.out.cell 0)
  have g1 : ∀ y : Ws (Fr V4 []), y.val.cell? ⟨w1.heap.size, 1, none⟩ = some (.int .i64 (n : Int)) := Ws.same (bs := []) KX4.out.lt (KX4.out.cell 1)
  have g2 : ∀ y : Ws (Fr V4 []), y.val.cell? ⟨w1.heap.size, 2, none⟩ = some (.int .i64 (m : Int)) := Ws.same (bs := []) KX4.out.lt (KX4.out.cell 2)
  have g3 : ∀ y : Ws (Fr V4 []), y.val.cell? ⟨w.heap.size + 1, 0, none⟩ = some (.int .u64 (E : Nat)) := Ws.same (bs := []) K14.out.lt (K14.out.cell 0)
  have g4 : ∀ y : Ws (Fr V4 []), y.val.cell? ⟨w.heap.size + 1, 1, none⟩ = some (.int .u64 (m0 : Nat)) := Ws.same (bs := []) K14.out.lt (K14.out.cell 1)
  have g5 : ∀ y : Ws (Fr V4 []), y.val.cell? ⟨w.heap.size + 1, 2, none⟩ = some (.int .u64 (m1 : Nat)) := Ws.same (bs := []) K14.out.lt (K14.out.cell 2)
  have g6 : ∀ y : Ws (Fr V4 []), y.val.cell? ⟨w.heap.size + 1, 3, none⟩ = some (.int .u64 (m2 : Nat)) := Ws.same (bs := []) K14.out.lt (K14.out.cell 3)
  have HS := Lib.hid (fr_none V4)
  haveI hne := Nonempty.intro (Ws.mk _ (fr_none V4))
  refine region_tail (C := In (Fr V4 [])) 12 (by kernel_rfl) (In.mk HS.out.drew) ?_
  simp only [List.take_succ_cons, List.take_zero, List.drop_succ_cons, List.drop_zero]
  repeat (go_big_quiet_step (first | (go_at_call 72; exact call_in (RA.out _)) | (go_at_call 132; exact call_in (WR.out _))))
  refine wpQuiet_nil ?_
  rintro _ ⟨y5, rfl⟩
  have b5 := y5.ok.below
  obtain ⟨w5, hw5⟩ : ∃ w5, w5 = y5.val := ⟨_, rfl⟩
  rw [← hw5] at b5 ⊢
  have B5 := Lib.hid (below_on B4.out b5)
  have K5 := Lib.hid (K4.out.below b5 K4.out.lt)
  have K25 := Lib.hid (K24.out.below b5 K24.out.lt)
  clear g0 g1 g2 g3 g4 g5 g6 hw5 b5
  have fR := K5.out.free 0
  have cR : w5.cell? ⟨w2.heap.size, 0, none⟩ = some (.int .u64 (E2 : Nat)) := K5.out.cell 0
  have z5 := B5.out.size
  have q1 : w5.cell? ⟨w2.heap.size, 1, none⟩ = some (.int .u64 (m0 : Nat)) := K5.out.cell 1
  have q2 : w5.cell? ⟨w2.heap.size, 2, none⟩ = some (.int .u64 (m1 : Nat)) := K5.out.cell 2
  have q3 : w5.cell? ⟨w2.heap.size, 3, none⟩ = some (.int .u64 (m2 : Nat)) := K5.out.cell 3
  have fr0 : w5.frozen? ⟨w.heap.size + 1 + 1, 0, none⟩ = false := (K25.out).free 0
  have cr0 : w5.cell? ⟨w.heap.size + 1 + 1, 0, none⟩ = some (.int .u64 0) := (K25.out).cell 0
  have fr1 : w5.frozen? ⟨w.heap.size + 1 + 1, 1, none⟩ = false := (K25.out).free 1
  have cr1 : w5.cell? ⟨w.heap.size + 1 + 1, 1, none⟩ = some (.int .u64 0) := (K25.out).cell 1
  have fr2 : w5.frozen? ⟨w.heap.size + 1 + 1, 2, none⟩ = false := (K25.out).free 2
  have cr2 : w5.cell? ⟨w.heap.size + 1 + 1, 2, none⟩ = some (.int .u64 0) := (K25.out).cell 2
  have fr3 : w5.frozen? ⟨w.heap.size + 1 + 1, 3, none⟩ = false := (K25.out).free 3
  have cr3 : w5.cell? ⟨w.heap.size + 1 + 1, 3, none⟩ = some (.int .u64 0) := (K25.out).cell 3
  have lr5 := K5.out.lt
  have K26' := Lib.hid (K25.out.far (p := ⟨w2.heap.size, 0, none⟩) (by show w.heap.size + 1 + 1 ≠ w2.heap.size; omega) (.int .u64 (E3 : Nat)))
  have B6' := Lib.hid (B5.out.setCell (p := ⟨w2.heap.size, 0, none⟩) (by show w.heap.size ≤ w2.heap.size; omega) (.int .u64 (E3 : Nat)))
  go_wp2
  clear q1 q2 q3 fR cR cr0 fr0 cr1 fr1 cr2 fr2 cr3 fr3
  obtain ⟨V6, hV⟩ : ∃ V, V = w5.setCell ⟨w2.heap.size, 0, none⟩ (.int .u64 (E3 : Nat)) := ⟨_, rfl⟩
  have K26 : Hid (Bk V6 (w.heap.size + 1 + 1) 74 #[.int .u64 0, .int .u64 0, .int .u64 0, .int .u64 0]) := Lib.hid (by rw [hV]; exact K26'.out)
  have B6 : Hid (Below w.heap.size w V6) := Lib.hid (by rw [hV]; exact B6'.out)
  rw [← hV]
  clear hV
  have kF : Bk ((((V6.setCell ⟨w.heap.size + 1 + 1, 0, none⟩ (.int .u64 (E3 : Nat))).setCell ⟨w.heap.size + 1 + 1, 1, none⟩ (.int .u64 (m0 : Nat))).setCell ⟨w.heap.size + 1 + 1, 2, none⟩ (.int .u64 (m1 : Nat))).setCell ⟨w.heap.size + 1 + 1, 3, none⟩ (.int .u64 (m2 : Nat))) (w.heap.size + 1 + 1) 74 #[.int .u64 (E3 : Nat), .int .u64 (m0 : Nat), .int .u64 (m1 : Nat), .int .u64 (m2 : Nat)] := by
    have a0 := K26.out
    have a1 := a0.set 0 (.int .u64 (E3 : Nat))
    have a2 := a1.set 1 (.int .u64 (m0 : Nat))
    have a3 := a2.set 2 (.int .u64 (m1 : Nat))
    have a4 := a3.set 3 (.int .u64 (m2 : Nat))
    simpa using a4
  have bF : ∀ B, B ≤ w.heap.size + 1 + 1 → Below B V6 ((((V6.setCell ⟨w.heap.size + 1 + 1, 0, none⟩ (.int .u64 (E3 : Nat))).setCell ⟨w.heap.size + 1 + 1, 1, none⟩ (.int .u64 (m0 : Nat))).setCell ⟨w.heap.size + 1 + 1, 2, none⟩ (.int .u64 (m1 : Nat))).setCell ⟨w.heap.size + 1 + 1, 3, none⟩ (.int .u64 (m2 : Nat))) := fun B hB => (((((Below.refl _ _).setCell (by show B ≤ w.heap.size + 1 + 1; omega) _).setCell (by show B ≤ w.heap.size + 1 + 1; omega) _).setCell (by show B ≤ w.heap.size + 1 + 1; omega) _).setCell (by show B ≤ w.heap.size + 1 + 1; omega) _)
  have nF : ∀ q, q ≠ w.heap.size + 1 + 1 → ((((V6.setCell ⟨w.heap.size + 1 + 1, 0, none⟩ (.int .u64 (E3 : Nat))).setCell ⟨w.heap.size + 1 + 1, 1, none⟩ (.int .u64 (m0 : Nat))).setCell ⟨w.heap.size + 1 + 1, 2, none⟩ (.int .u64 (m1 : Nat))).setCell ⟨w.heap.size + 1 + 1, 3, none⟩ (.int .u64 (m2 : Nat))).heap[q]? = V6.heap[q]? := fun q hq => (Below.heap_setCell _ _ _ q (by show q ≠ w.heap.size + 1 + 1; omega)).trans ((Below.heap_setCell _ _ _ q (by show q ≠ w.heap.size + 1 + 1; omega)).trans ((Below.heap_setCell _ _ _ q (by show q ≠ w.heap.size + 1 + 1; omega)).trans (Below.heap_setCell _ _ _ q (by show q ≠ w.heap.size + 1 + 1; omega))))
  have sF : ((((V6.setCell ⟨w.heap.size + 1 + 1, 0, none⟩ (.int .u64 (E3 : Nat))).setCell ⟨w.heap.size + 1 + 1, 1, none⟩ (.int .u64 (m0 : Nat))).setCell ⟨w.heap.size + 1 + 1, 2, none⟩ (.int .u64 (m1 : Nat))).setCell ⟨w.heap.size + 1 + 1, 3, none⟩ (.int .u64 (m2 : Nat))).heap.size = V6.heap.size := by simp
  have KF := Lib.hid kF
  have BF := Lib.hid bF
  have NF := Lib.hid nF
  obtain ⟨F, hF⟩ : ∃ F, F = ((((V6.setCell ⟨w.heap.size + 1 + 1, 0, none⟩ (.int .u64 (E3 : Nat))).setCell ⟨w.heap.size + 1 + 1, 1, none⟩ (.int .u64 (m0 : Nat))).setCell ⟨w.heap.size + 1 + 1, 2, none⟩ (.int .u64 (m1 : Nat))).setCell ⟨w.heap.size + 1 + 1, 3, none⟩ (.int .u64 (m2 : Nat))) := ⟨_, rfl⟩
  rw [← hF] at KF BF NF sF
  rw [← hF]
  clear kF bF nF hF
  have sFa := Nat.le_of_eq sF
  have sFb := Nat.le_of_eq sF.symm
  clear sF
  have cF0 := KF.out.cell 0
  have cF1 := KF.out.cell 1
  have cF2 := KF.out.cell 2
  have cF3 := KF.out.cell 3
  simp only [List.getElem?_toArray, List.getElem?_cons_zero, List.getElem?_cons_succ] at cF0 cF1 cF2 cF3
  refine bodyPost_ret (v := .agg #[.int .u64 (E3 : Nat), .int .u64 (m0 : Nat), .int .u64 (m1 : Nat), .int .u64 (m2 : Nat)]) (by simp [results, Try.results77, cF0, cF1, cF2, cF3, go_sem]) rfl ?_
  exact ⟨rfl, B6.out.trans (BF.out _ (by omega))⟩
end Go.Proofs.Ytpcdcgcbhhnhhaa
namespace Go.Proofs.Ytpcdcgcbhhnhhaa
open Go.RowKit Pl Go.BigFrame
set_option maxHeartbeats 4000000
set_option maxRecDepth 100000
set_option linter.unusedVariables false

theorem bstp_put (h : PgH) (L : Pg) (f : Nat → Nat) (b : Nat → List Nat) (t : Nat) (w : World) (B : Nat) (hP : PgR w B h L) (hB : B ≤ w.heap.size) (hL : progB L = true) (hf : Good L f) (ht : t < L.length) (hc : canF L f t = true) (h4 : ∀ n, n < 2 → f (20 + n) ≤ 4) (hb7 : okB7 b 7) (hk : putBeh (smAt L t (f (3 + t))) = true) (n : Nat) (hn3 : n < 3) (hn : (smAt L t (f (3 + t))).a = (n : Int)) (hvb : valB (smAt L t (f (3 + t))).b (smAt L t (f (3 + t))).c = true) (v : List Nat) (hv : b t ++ [n * 4 + sumF f t (smAt L t (f (3 + t))).b (smAt L t (f (3 + t))).c] = v) (hl6 : (b t).length ≤ 6) :
    Calls Try.prog 77 #[PgV h L, QV f b, .int .i64 t] w fun e w' => e = .returned (QV (goF L f t (smAt L t (f (3 + t)))) (updB b t v)) ∧ Below w.heap.size w w' := by
  have hs4 := sumF_lt (f := f) (t := t) hvb
  obtain ⟨sv, hsv⟩ : ∃ sv, sumF f t (smAt L t (f (3 + t))).b (smAt L t (f (3 + t))).c = sv := ⟨_, rfl⟩
  have SU := Lib.hid (fun u => sum_any f t (smAt L t (f (3 + t))).b (smAt L t (f (3 + t))).c u hf.ok (by have := (prog_len hL).2; omega) hvb sv (Lib.hid hsv))
  rw [hsv] at hv hs4
  have PB := Lib.hid (fun u => (putb_any (b t) n sv u (hb7 t (by have := (prog_len hL).2; omega)).1 (by omega) hn3 hs4).mono fun e w' (h : _ ∧ u = w') => (⟨h.1, by rw [← h.2]; exact Below.refl _ _⟩ : e = Ending.returned (.int .u64 (bwC (b t ++ [n * 4 + sv]) : Nat)) ∧ Below u.heap.size u w'))
  rw [hv] at PB
  have GO := Lib.hid (fun (V : World) (hP : PgR V B h L) (hB : B ≤ V.heap.size) => goneon_any h L f t (smAt L t (f (3 + t))) V B hP hB hL hf ht (can_lt hL hf ht hc).1 (can_lt hL hf ht hc).2 _ (Lib.hid rfl))
  obtain ⟨h31, h32⟩ := prog_len hL
  have ht3 : t < 3 := by omega
  obtain ⟨hml, hxok⟩ := can_lt hL hf ht hc
  have hev := Lib.hid (fun (V : World) (hP : PgR V B h L) (hB : B ≤ V.heap.size) => nextev_any h L f t V B hP hB hL hf ht hml)
  have SD := Lib.hid (fun (V : World) (hP : PgR V B h L) (hB : B ≤ V.heap.size) => stepped_any h L f t V B hP hB hL hf ht hc h4)
  unfold evV at hev
  have HF := Lib.hid hf
  have H7 := Lib.hid hb7
  have HML := Lib.hid hml
  obtain ⟨x, hx⟩ : ∃ x, smAt L t (f (3 + t)) = x := ⟨_, rfl⟩
  rw [hx] at hev hxok hk hn hvb SU GO
  have HNa := Lib.hid hn
  clear hn hvb hsv
  have HX := Lib.hid hx
  have hfd := ev_stmt (t : Int) (f (3 + t) : Nat) x.k x.a x.b x.c x.s
  have IP := Lib.hid (fun v => isput_any x v true (Lib.hid hk))
  have hnge : ¬ (L.length : Int) ≤ (t : Int) := by omega
  have hti : (t : Int) < (L.length : Int) := by omega
  clear hf hb7 hx hc hml h4 hk
  obtain ⟨E, m0, m1, m2, e0, e1, e2, e3⟩ : ∃ E m0 m1 m2 : Nat, enc WS f = E ∧ bwC (b 0) = m0 ∧ bwC (b 1) = m1 ∧ bwC (b 2) = m2 := ⟨_, _, _, _, rfl, rfl, rfl, rfl⟩
  show Calls Try.prog 77 #[PgV h L, .agg #[.int .u64 (enc WS f : Nat), .int .u64 (bwC (b 0) : Nat), .int .u64 (bwC (b 1) : Nat), .int .u64 (bwC (b 2) : Nat)], .int .i64 t] w _
  show Calls _ _ _ _ fun e w' => e = .returned (.agg #[.int .u64 (enc WS (goF L f t (smAt L t (f (3 + t)))) : Nat), .int .u64 (bwC (updB b t v 0) : Nat), .int .u64 (bwC (updB b t v 1) : Nat), .int .u64 (bwC (updB b t v 2) : Nat)]) ∧ Below w.heap.size w w'
  obtain ⟨M, hM⟩ : ∃ M, bwC (b t) = M := ⟨_, rfl⟩
  have hqc : #[Value.int .u64 (E : Nat), .int .u64 (m0 : Nat), .int .u64 (m1 : Nat), .int .u64 (m2 : Nat)][1 + t]? = some (.int .u64 (M : Nat)) := by
    rw [← hM, ← e1, ← e2, ← e3]
    rcases (show t = 0 ∨ t = 1 ∨ t = 2 by omega) with rfl | rfl | rfl <;> rfl
  have hqs : #[Value.int .u64 (E : Nat), .int .u64 (m0 : Nat), .int .u64 (m1 : Nat), .int .u64 (m2 : Nat)].setIfInBounds (1 + t) (.int .u64 (bwC v : Nat)) = #[.int .u64 (E : Nat), .int .u64 (bwC (updB b t v 0) : Nat), .int .u64 (bwC (updB b t v 1) : Nat), .int .u64 (bwC (updB b t v 2) : Nat)] := by
    rw [← e1, ← e2, ← e3]
    rcases (show t = 0 ∨ t = 1 ∨ t = 2 by omega) with rfl | rfl | rfl <;> rfl
  simp only [e0, hM] at hev SU GO PB
  simp only [e0, e1, e2, e3]
  rw [HX.out]
  generalize enc WS (goF L f t x) = E2 at *
  generalize bwC (updB b t v 0) = p0 at *
  generalize bwC (updB b t v 1) = p1 at *
  generalize bwC (updB b t v 2) = p2 at *
  generalize bwC v = N at *
  have HQC := Lib.hid hqc
  have HQS := Lib.hid hqs
  clear hqc hqs hM SD hv hl6
  obtain ⟨W, hW⟩ : ∃ W, W = ((w.alloc (.cells #[.slice h.A L.length h.c] 36)).alloc (.cells #[.int .u64 (E : Nat), .int .u64 (m0 : Nat), .int .u64 (m1 : Nat), .int .u64 (m2 : Nat)] 74)).alloc (.cells #[.int .u64 0, .int .u64 0, .int .u64 0, .int .u64 0] 74) := ⟨_, rfl⟩
  have bW : Below w.heap.size w W := by rw [hW]; go_grown
  have sW : W.heap.size = w.heap.size + 1 + 1 + 1 := by rw [hW]; simp
  have k0 : Bk W w.heap.size 36 #[.slice h.A L.length h.c] := by rw [hW]; exact ((Bk.new w _ _).alloc _).alloc _
  have k1 : Bk W (w.heap.size + 1) 74 #[.int .u64 (E : Nat), .int .u64 (m0 : Nat), .int .u64 (m1 : Nat), .int .u64 (m2 : Nat)] := by
    rw [hW]; have := (Bk.new (w.alloc (.cells #[.slice h.A L.length h.c] 36)) #[.int .u64 (E : Nat), .int .u64 (m0 : Nat), .int .u64 (m1 : Nat), .int .u64 (m2 : Nat)] 74).alloc (.cells #[.int .u64 0, .int .u64 0, .int .u64 0, .int .u64 0] 74)
    rwa [World.size_alloc] at this
  have k2 : Bk W (w.heap.size + 1 + 1) 74 #[.int .u64 0, .int .u64 0, .int .u64 0, .int .u64 0] := by
    rw [hW]; have := Bk.new ((w.alloc (.cells #[.slice h.A L.length h.c] 36)).alloc (.cells #[.int .u64 (E : Nat), .int .u64 (m0 : Nat), .int .u64 (m1 : Nat), .int .u64 (m2 : Nat)] 74)) #[.int .u64 0, .int .u64 0, .int .u64 0, .int .u64 0] 74
    rwa [World.size_alloc, World.size_alloc] at this
  have P0 := Lib.hid (hP.below bW hB)
  have K0 := Lib.hid k0
  have K1 := Lib.hid k1
  have K2 := Lib.hid k2
  have B0 := Lib.hid bW
  have sWa := Nat.le_of_eq sW
  have sWb := Nat.le_of_eq sW.symm
  have HW := Lib.hid hW
  clear hW bW sW k0 k1 k2 hP
  go_enter Try.func77, Try.ntmps77
  go_wp2_with fail
  rw [← HW.out]
  refine (hev.out W P0.out (by omega)).mono ?_
  rintro e w1 ⟨rfl, hb1⟩
  have B1 := Lib.hid (below_on B0.out hb1)
  have P1 := Lib.hid (P0.out.below hb1 (by omega))
  have K01 := Lib.hid (K0.out.below hb1 K0.out.lt)
  have K11 := Lib.hid (K1.out.below hb1 K1.out.lt)
  have K21 := Lib.hid (K2.out.below hb1 K2.out.lt)
  have z1 := hb1.size
  clear hb1
  go_wp2_with fail
  obtain ⟨V, hV⟩ : ∃ V, V = w1.alloc (.cells #[.int .i64 x.k, .int .i64 x.a, .int .i64 x.b, .int .i64 x.c, .bool x.s] 127) := ⟨_, rfl⟩
  rw [← hV]
  have bV : Below w1.heap.size w1 V := by rw [hV]; exact (Below.refl _ _).alloc (Nat.le_refl _) _
  have kX : Bk V w1.heap.size 127 #[.int .i64 x.k, .int .i64 x.a, .int .i64 x.b, .int .i64 x.c, .bool x.s] := by rw [hV]; exact Bk.new _ _ _
  have zV := bV.size
  refine (IP.out _).mono ?_
  rintro e w2 ⟨rfl, hb2⟩
  have b12 : Below w1.heap.size w1 w2 := bV.trans (hb2.mono zV)
  have B2 := Lib.hid (B1.out.trans (b12.mono (by omega)))
  have P2 := Lib.hid (P1.out.below b12 (by omega))
  have K02 := Lib.hid (K01.out.below b12 K01.out.lt)
  have K12 := Lib.hid (K11.out.below b12 K11.out.lt)
  have K22 := Lib.hid (K21.out.below b12 K21.out.lt)
  have KX2 := Lib.hid (kX.below hb2 kX.lt)
  have z2 := b12.size
  have lx := KX2.out.lt
  clear hV bV kX hb2 b12 K0 K1 K2 K01 K11 K21 hfd
  have KXn := Lib.hid (show Bk w2 w1.heap.size 127 #[.int .i64 x.k, .int .i64 (n : Int), .int .i64 x.b, .int .i64 x.c, .bool x.s] by rw [← HNa.out]; exact KX2.out)
  go_wp2_with fail
  have g0 : ∀ y : Ws (Fr w2 []), y.val.cell? ⟨w.heap.size + 1, 0, none⟩ = some (.int .u64 (E : Nat)) := Ws.same (bs := []) K12.out.lt (K12.out.cell 0)
  have g1 : ∀ y : Ws (Fr w2 []), y.val.cell? ⟨w1.heap.size, 1, none⟩ = some (.int .i64 (n : Int)) := Ws.same (bs := []) KXn.out.lt (KXn.out.cell 1)
  have g2 : ∀ y : Ws (Fr w2 []), y.val.cell? ⟨w1.heap.size, 2, none⟩ = some (.int .i64 x.b) := Ws.same (bs := []) KXn.out.lt (KXn.out.cell 2)
  have g3 : ∀ y : Ws (Fr w2 []), y.val.cell? ⟨w1.heap.size, 3, none⟩ = some (.int .i64 x.c) := Ws.same (bs := []) KXn.out.lt (KXn.out.cell 3)
  have HS := Lib.hid (fr_none w2)
  haveI hne := Nonempty.intro (Ws.mk _ (fr_none w2))
  have gt : ∀ y : Ws (Fr w2 []), y.val.cell? ⟨w.heap.size + 1, 1 + t, none⟩ = some (.int .u64 (M : Nat)) := Ws.same (bs := []) K12.out.lt ((K12.out.cell (1 + t)).trans HQC.out)
  refine region_tail (C := In (Fr w2 [])) 18 (by kernel_rfl) (In.mk HS.out.drew) ?_
  simp only [List.take_succ_cons, List.take_zero, List.drop_succ_cons, List.drop_zero]
  repeat (go_big_quiet_step (first | (go_at_call 129; exact call_in (SU.out _)) | (go_at_call 128; exact call_in (PB.out _))))
  refine wpQuiet_nil ?_
  rintro _ ⟨y5, rfl⟩
  have b5 := y5.ok.below
  obtain ⟨w5, hw5⟩ : ∃ w5, w5 = y5.val := ⟨_, rfl⟩
  rw [← hw5] at b5 ⊢
  have B5 := Lib.hid (B2.out.trans (b5.mono (by omega)))
  have P5 := Lib.hid (P2.out.below b5 (by omega))
  have K05 := Lib.hid (K02.out.below b5 K02.out.lt)
  have K15 := Lib.hid (K12.out.below b5 K12.out.lt)
  have K25 := Lib.hid (K22.out.below b5 K22.out.lt)
  have KX5 := Lib.hid (KX2.out.below b5 KX2.out.lt)
  have z5 := b5.size
  clear g0 g1 g2 g3 gt hw5 b5
  have fR := K15.out.free (1 + t)
  have cR : w5.cell? ⟨w.heap.size + 1, 1 + t, none⟩ = some (.int .u64 (M : Nat)) := (K15.out.cell (1 + t)).trans HQC.out
  have lq5 := K15.out.lt
  have lx5 := KX5.out.lt
  have lp5 := K05.out.lt
  have cQ : w5.cell? ⟨w.heap.size + 1, 0, none⟩ = some (.int .u64 (E : Nat)) := K15.out.cell 0
  have cP : w5.cell? ⟨w.heap.size, 0, none⟩ = some (.slice h.A L.length h.c) := K05.out.cell 0
  have cx0 : w5.cell? ⟨w1.heap.size, 0, none⟩ = some (.int .i64 x.k) := KX5.out.cell 0
  have cx1 : w5.cell? ⟨w1.heap.size, 1, none⟩ = some (.int .i64 x.a) := KX5.out.cell 1
  have cx2 : w5.cell? ⟨w1.heap.size, 2, none⟩ = some (.int .i64 x.b) := KX5.out.cell 2
  have cx3 : w5.cell? ⟨w1.heap.size, 3, none⟩ = some (.int .i64 x.c) := KX5.out.cell 3
  have cx4 : w5.cell? ⟨w1.heap.size, 4, none⟩ = some (.bool x.s) := KX5.out.cell 4
  go_wp2_with fail
  obtain ⟨V6, hV⟩ : ∃ V, V = w5.setCell ⟨w.heap.size + 1, 1 + t, none⟩ (.int .u64 (N : Nat)) := ⟨_, rfl⟩
  rw [← hV]
  have K16 := Lib.hid (show Bk V6 (w.heap.size + 1) 74 #[.int .u64 (E : Nat), .int .u64 (p0 : Nat), .int .u64 (p1 : Nat), .int .u64 (p2 : Nat)] by rw [hV, ← HQS.out]; exact K15.out.set _ _)
  have K26 := Lib.hid (show Bk V6 (w.heap.size + 1 + 1) 74 #[.int .u64 0, .int .u64 0, .int .u64 0, .int .u64 0] by rw [hV]; exact K25.out.far (p := ⟨w.heap.size + 1, 1 + t, none⟩) (by show w.heap.size + 1 + 1 ≠ w.heap.size + 1; omega) _)
  have b56 : Below w.heap.size w5 V6 := by rw [hV]; exact (Below.refl _ _).setCell (by show w.heap.size ≤ w.heap.size + 1; omega) _
  have B6 := Lib.hid (B5.out.trans b56)
  have P6 := Lib.hid (show PgR V6 B h L from P5.out.below b56 hB)
  have z6 : w5.heap.size ≤ V6.heap.size := by rw [hV]; simp
  clear hV b56 fR cR cQ cP cx0 cx1 cx2 cx3 cx4 K15 K25
  refine (GO.out V6 P6.out (by omega)).mono ?_
  rintro e w7 ⟨rfl, hb7⟩
  have z7 := hb7.size
  have B7 := Lib.hid (B6.out.trans (hb7.mono (by omega)))
  have K17 := Lib.hid (K16.out.below hb7 K16.out.lt)
  have K27 := Lib.hid (K26.out.below hb7 K26.out.lt)
  clear hb7
  have lq7 := K17.out.lt
  have fR := K17.out.free 0
  have cR : w7.cell? ⟨w.heap.size + 1, 0, none⟩ = some (.int .u64 (E : Nat)) := K17.out.cell 0
  have q1 : w7.cell? ⟨w.heap.size + 1, 1, none⟩ = some (.int .u64 (p0 : Nat)) := K17.out.cell 1
  have q2 : w7.cell? ⟨w.heap.size + 1, 2, none⟩ = some (.int .u64 (p1 : Nat)) := K17.out.cell 2
  have q3 : w7.cell? ⟨w.heap.size + 1, 3, none⟩ = some (.int .u64 (p2 : Nat)) := K17.out.cell 3
  have K28' := Lib.hid (K27.out.far (p := ⟨w.heap.size + 1, 0, none⟩) (by show w.heap.size + 1 + 1 ≠ w.heap.size + 1; omega) (.int .u64 (E2 : Nat)))
  have B8' := Lib.hid (B7.out.setCell (p := ⟨w.heap.size + 1, 0, none⟩) (by show w.heap.size ≤ w.heap.size + 1; omega) (.int .u64 (E2 : Nat)))
  have fr0 : w7.frozen? ⟨w.heap.size + 1 + 1, 0, none⟩ = false := (K27.out).free 0
  have cr0 : w7.cell? ⟨w.heap.size + 1 + 1, 0, none⟩ = some (.int .u64 0) := (K27.out).cell 0
  have fr1 : w7.frozen? ⟨w.heap.size + 1 + 1, 1, none⟩ = false := (K27.out).free 1
  have cr1 : w7.cell? ⟨w.heap.size + 1 + 1, 1, none⟩ = some (.int .u64 0) := (K27.out).cell 1
  have fr2 : w7.frozen? ⟨w.heap.size + 1 + 1, 2, none⟩ = false := (K27.out).free 2
  have cr2 : w7.cell? ⟨w.heap.size + 1 + 1, 2, none⟩ = some (.int .u64 0) := (K27.out).cell 2
  have fr3 : w7.frozen? ⟨w.heap.size + 1 + 1, 3, none⟩ = false := (K27.out).free 3
  have cr3 : w7.cell? ⟨w.heap.size + 1 + 1, 3, none⟩ = some (.int .u64 0) := (K27.out).cell 3
  go_wp2
  clear q1 q2 q3 fR cR cr0 fr0 cr1 fr1 cr2 fr2 cr3 fr3
  obtain ⟨V8, hV⟩ : ∃ V, V = w7.setCell ⟨w.heap.size + 1, 0, none⟩ (.int .u64 (E2 : Nat)) := ⟨_, rfl⟩
  have K28 : Hid (Bk V8 (w.heap.size + 1 + 1) 74 #[.int .u64 0, .int .u64 0, .int .u64 0, .int .u64 0]) := Lib.hid (by rw [hV]; exact K28'.out)
  have B8 : Hid (Below w.heap.size w V8) := Lib.hid (by rw [hV]; exact B8'.out)
  rw [← hV]
  clear hV
  have kF : Bk ((((V8.setCell ⟨w.heap.size + 1 + 1, 0, none⟩ (.int .u64 (E2 : Nat))).setCell ⟨w.heap.size + 1 + 1, 1, none⟩ (.int .u64 (p0 : Nat))).setCell ⟨w.heap.size + 1 + 1, 2, none⟩ (.int .u64 (p1 : Nat))).setCell ⟨w.heap.size + 1 + 1, 3, none⟩ (.int .u64 (p2 : Nat))) (w.heap.size + 1 + 1) 74 #[.int .u64 (E2 : Nat), .int .u64 (p0 : Nat), .int .u64 (p1 : Nat), .int .u64 (p2 : Nat)] := by
    have a0 := K28.out
    have a1 := a0.set 0 (.int .u64 (E2 : Nat))
    have a2 := a1.set 1 (.int .u64 (p0 : Nat))
    have a3 := a2.set 2 (.int .u64 (p1 : Nat))
    have a4 := a3.set 3 (.int .u64 (p2 : Nat))
    simpa using a4
  have bF : ∀ B, B ≤ w.heap.size + 1 + 1 → Below B V8 ((((V8.setCell ⟨w.heap.size + 1 + 1, 0, none⟩ (.int .u64 (E2 : Nat))).setCell ⟨w.heap.size + 1 + 1, 1, none⟩ (.int .u64 (p0 : Nat))).setCell ⟨w.heap.size + 1 + 1, 2, none⟩ (.int .u64 (p1 : Nat))).setCell ⟨w.heap.size + 1 + 1, 3, none⟩ (.int .u64 (p2 : Nat))) := fun B hB => (((((Below.refl _ _).setCell (by show B ≤ w.heap.size + 1 + 1; omega) _).setCell (by show B ≤ w.heap.size + 1 + 1; omega) _).setCell (by show B ≤ w.heap.size + 1 + 1; omega) _).setCell (by show B ≤ w.heap.size + 1 + 1; omega) _)
  have nF : ∀ q, q ≠ w.heap.size + 1 + 1 → ((((V8.setCell ⟨w.heap.size + 1 + 1, 0, none⟩ (.int .u64 (E2 : Nat))).setCell ⟨w.heap.size + 1 + 1, 1, none⟩ (.int .u64 (p0 : Nat))).setCell ⟨w.heap.size + 1 + 1, 2, none⟩ (.int .u64 (p1 : Nat))).setCell ⟨w.heap.size + 1 + 1, 3, none⟩ (.int .u64 (p2 : Nat))).heap[q]? = V8.heap[q]? := fun q hq => (Below.heap_setCell _ _ _ q (by show q ≠ w.heap.size + 1 + 1; omega)).trans ((Below.heap_setCell _ _ _ q (by show q ≠ w.heap.size + 1 + 1; omega)).trans ((Below.heap_setCell _ _ _ q (by show q ≠ w.heap.size + 1 + 1; omega)).trans (Below.heap_setCell _ _ _ q (by show q ≠ w.heap.size + 1 + 1; omega))))
  have sF : ((((V8.setCell ⟨w.heap.size + 1 + 1, 0, none⟩ (.int .u64 (E2 : Nat))).setCell ⟨w.heap.size + 1 + 1, 1, none⟩ (.int .u64 (p0 : Nat))).setCell ⟨w.heap.size + 1 + 1, 2, none⟩ (.int .u64 (p1 : Nat))).setCell ⟨w.heap.size + 1 + 1, 3, none⟩ (.int .u64 (p2 : Nat))).heap.size = V8.heap.size := by simp
  have KF := Lib.hid kF
  have BF := Lib.hid bF
  have NF := Lib.hid nF
  obtain ⟨F, hF⟩ : ∃ F, F = ((((V8.setCell ⟨w.heap.size + 1 + 1, 0, none⟩ (.int .u64 (E2 : Nat))).setCell ⟨w.heap.size + 1 + 1, 1, none⟩ (.int .u64 (p0 : Nat))).setCell ⟨w.heap.size + 1 + 1, 2, none⟩ (.int .u64 (p1 : Nat))).setCell ⟨w.heap.size + 1 + 1, 3, none⟩ (.int .u64 (p2 : Nat))) := ⟨_, rfl⟩
  rw [← hF] at KF BF NF sF
  rw [← hF]
  clear kF bF nF hF
  have sFa := Nat.le_of_eq sF
  have sFb := Nat.le_of_eq sF.symm
  clear sF
  have cF0 := KF.out.cell 0
  have cF1 := KF.out.cell 1
  have cF2 := KF.out.cell 2
  have cF3 := KF.out.cell 3
  simp only [List.getElem?_toArray, List.getElem?_cons_zero, List.getElem?_cons_succ] at cF0 cF1 cF2 cF3
  refine bodyPost_ret (v := .agg #[.int .u64 (E2 : Nat), .int .u64 (p0 : Nat), .int .u64 (p1 : Nat), .int .u64 (p2 : Nat)]) (by simp [results, Try.results77, cF0, cF1, cF2, cF3, go_sem]) rfl ?_
  exact ⟨rfl, B8.out.trans (BF.out _ (by omega))⟩
/-- What the program's bufStepped comes to. -/
theorem bufstepped_any (h : PgH) (L : Pg) (f : Nat → Nat) (b : Nat → List Nat) (st : Nat) (w : World) (B : Nat) (hP : PgR w B h L) (hB : B ≤ w.heap.size) (hL : progB L = true) (hf : Good L f) (hst : st < 2 * L.length) (hc : canQ L f b st = true) (h4 : ∀ n, n < 2 → f (20 + n) ≤ 4) (hb6 : okB7 b 6) :
    Calls Try.prog 77 #[PgV h L, QV f b, .int .i64 st] w fun e w' => e = .returned (QV (stepQ L f b st).1 (stepQ L f b st).2) ∧ Below w.heap.size w w' := by
  obtain ⟨h31, h32⟩ := prog_len hL
  have hb7 : okB7 b 7 := fun u hu => ⟨(hb6 u hu).1, by have := (hb6 u hu).2; omega⟩
  by_cases hs : L.length ≤ st
  · obtain ⟨t, rfl⟩ : ∃ t, st = L.length + t := ⟨st - L.length, by omega⟩
    have ht3 : t < 3 := by omega
    rw [canQ, if_pos (by simp [inB]; omega), show (((L.length + t : Nat) : Int) - (L.length : Int)).toNat = t by omega] at hc
    obtain ⟨hok, hl⟩ := hb6 t ht3
    unfold stepQ
    rw [if_pos hs, show L.length + t - L.length = t by omega]
    cases hbt : b t with
    | nil => rw [hbt] at hc; simp at hc
    | cons c q =>
      rw [hbt] at hok hl
      exact bstp_take h L f b t w B hP hB hf.ok ht3 c q hbt hok (by simp at hl; omega)
  · have ht : st < L.length := by omega
    rw [canQ, if_neg (by simp [inB]; omega), Int.toNat_natCast] at hc
    simp only [Bool.and_eq_true] at hc
    have hcf := hc.2.1
    obtain ⟨hml, hxok⟩ := can_lt hL hf ht hcf
    unfold stepQ
    rw [if_neg hs]
    obtain ⟨x, hx⟩ : ∃ x, smAt L st (f (3 + st)) = x := ⟨_, rfl⟩
    rw [hx] at hxok ⊢
    by_cases hp : x.k = 2 ∧ x.s = false
    · rw [if_pos hp]
      have hxo : okB x.k x.a x.b x.c x.s = true := hxok
      obtain ⟨n, hn3, hn⟩ := ok_a3 hxo (by omega)
      have hvb := ok_sum hxo (by omega)
      have := bstp_put h L f b st w B hP hB hL hf ht hcf h4 hb7 (by rw [hx]; unfold putBeh; rw [hp.1, hp.2]; rfl) n hn3 (by rw [hx]; exact hn) (by rw [hx]; exact hvb) _ rfl (hb6 st (by omega)).2
      rw [hx] at this
      rw [hn, Int.toNat_natCast]
      exact this
    · rw [if_neg hp]
      by_cases h1 : x.k = 1
      · rw [if_pos h1]
        have hxo : okB x.k x.a x.b x.c x.s = true := hxok
        obtain ⟨n, hn3, hn⟩ := ok_a3 hxo (by omega)
        obtain ⟨m, hm3, hm⟩ := ok_b3 hxo (by omega)
        have := bstp_load h L f b st w B hP hB hL hf ht hcf h4 hb7 (by rw [hx]; exact h1) n m hn3 hm3 (by rw [hx]; exact hn) (by rw [hx]; exact hm) _ (Lib.hid rfl) (rdC_lt (mem_lt hf.ok hm3))
        rw [hn, hm, Int.toNat_natCast, Int.toNat_natCast]
        exact this
      · rw [if_neg h1]
        refine bstp_rest h L f b st w B hP hB hL hf ht hcf h4 hb7 ?_ (by rw [hx]; exact h1)
        rw [hx]
        unfold putBeh
        by_cases h2 : x.k = 2
        · cases hs2 : x.s with
          | true => simp
          | false => exact absurd ⟨h2, hs2⟩ hp
        · rw [beq_eq_false_iff_ne.2 h2]; rfl
end Go.Proofs.Ytpcdcgcbhhnhhaa
