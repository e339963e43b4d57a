/-
  What the program's BufBegin and SpreadBegin come to.
-/
import Derived.Test.YtnadihepgmbhaaaVUn
import Derived.Deep.RegionHeld3
namespace Go.Proofs.Ytnadihepgmbhaaa
open Go.RowKit Pl Go.BigFrame
set_option maxHeartbeats 4000000
set_option maxRecDepth 100000
set_option linter.unusedVariables false

def bbegS (L : Pg) : Buf := ⟨begS L, List.replicate L.length []⟩
def bbegE (L : Pg) : Buf := if progB L then bbegS L else BufE
theorem bufOf_beg (L : Pg) (h3 : L.length ≤ 3) : bufOf L (keptF L zeroF L.length) (fun _ => []) = bbegS L := by
  unfold bufOf bbegS
  rw [staF_beg L h3]
  congr 1
  have : (fun t : Nat => rowS ((fun _ => []) t)) = fun _ => [] := rfl
  rw [this]
  induction L.length with
  | zero => rfl
  | succ n ih => rw [List.range_succ, List.map_append, ih, List.replicate_succ']; rfl
def vbegS (L : Pg) : Buf := ⟨begS L, List.replicate (L.length * 3) []⟩
def vbegE (L : Pg) : Buf := if progB L then vbegS L else BufE
theorem sprOf_beg (L : Pg) (h3 : L.length ≤ 3) : sprOf L (keptF L zeroF L.length) (fun _ => []) = vbegS L := by
  unfold sprOf vbegS
  rw [staF_beg L h3]
  congr 1
  have : (fun t : Nat => rowV ((fun _ => []) t)) = fun _ => [] := rfl
  rw [this]
  induction L.length * 3 with
  | zero => rfl
  | succ n ih => rw [List.range_succ, List.map_append, ih, List.replicate_succ']; rfl
theorem ibufbeg_any (h : PgH) (L : Pg) (w : World) (B : Nat) (hR : PgR w B h L) (hB : B ≤ w.heap.size) (SP : PgS L) :
    Calls Try.prog 36 #[PgV h L] w (AnsBuf w (bbegE L) (progB L)) := by
  have LP := PgS_L SP
  have hl := LP.l
  obtain ⟨W, hW⟩ : ∃ W, W = (w.alloc (.cells #[.slice h.A L.length h.c] 36)).alloc (.cells #[.slice none 0 0, .slice none 0 0, .slice none 0 0, .slice none 0 0, .slice none 0 0, .slice none 0 0] 59) := ⟨_, rfl⟩
  have bW : Below w.heap.size w W := by rw [hW]; go_grown
  have sW : W.heap.size = w.heap.size + 1 + 1 := by rw [hW]; simp
  have k0 : Bk W w.heap.size 36 #[.slice h.A L.length h.c] := by rw [hW]; exact (Bk.new w _ _).alloc _
  have k1 : Bk W (w.heap.size + 1) 59 #[.slice none 0 0, .slice none 0 0, .slice none 0 0, .slice none 0 0, .slice none 0 0, .slice none 0 0] := by
    rw [hW]; have := Bk.new (w.alloc (.cells #[.slice h.A L.length h.c] 36)) #[.slice none 0 0, .slice none 0 0, .slice none 0 0, .slice none 0 0, .slice none 0 0, .slice none 0 0] 59
    rwa [World.size_alloc] at this
  have P0 := Lib.hid (hR.below bW hB)
  have K0 := Lib.hid k0
  have K1 := Lib.hid k1
  have BW := Lib.hid bW
  have sWa := Nat.le_of_eq sW
  have sWb := Nat.le_of_eq sW.symm
  have HW := Lib.hid hW
  clear k0 k1 bW sW hW hR
  rcases Bool.eq_false_or_eq_true (progB L) with hp | hp
  rotate_left
  · have hE : bbegE L = BufE := by unfold bbegE; rw [hp]; rfl
    rw [hE, hp]
    have HP := Lib.hid hp
    clear hE hp
    go_enter Try.func36, Try.ntmps36
    go_wp2_with fail
    rw [← HW.out]
    refine (iprog_any h.A L h.c W B P0.out (by omega) hl false HP).mono ?_
    rintro e w1 ⟨rfl, hb1⟩
    have B1 := Lib.hid (below_on BW.out hb1)
    have z1 := hb1.size
    have K11 := Lib.hid (K1.out.below hb1 K1.out.lt)
    clear hb1
    have fr0 : w1.frozen? ⟨w.heap.size + 1, 0, none⟩ = false := (K11.out).free 0
    have cr0 : w1.cell? ⟨w.heap.size + 1, 0, none⟩ = some (.slice none 0 0) := (K11.out).cell 0
    have fr1 : w1.frozen? ⟨w.heap.size + 1, 1, none⟩ = false := (K11.out).free 1
    have cr1 : w1.cell? ⟨w.heap.size + 1, 1, none⟩ = some (.slice none 0 0) := (K11.out).cell 1
    have fr2 : w1.frozen? ⟨w.heap.size + 1, 2, none⟩ = false := (K11.out).free 2
    have cr2 : w1.cell? ⟨w.heap.size + 1, 2, none⟩ = some (.slice none 0 0) := (K11.out).cell 2
    have fr3 : w1.frozen? ⟨w.heap.size + 1, 3, none⟩ = false := (K11.out).free 3
    have cr3 : w1.cell? ⟨w.heap.size + 1, 3, none⟩ = some (.slice none 0 0) := (K11.out).cell 3
    have fr4 : w1.frozen? ⟨w.heap.size + 1, 4, none⟩ = false := (K11.out).free 4
    have cr4 : w1.cell? ⟨w.heap.size + 1, 4, none⟩ = some (.slice none 0 0) := (K11.out).cell 4
    have fr5 : w1.frozen? ⟨w.heap.size + 1, 5, none⟩ = false := (K11.out).free 5
    have cr5 : w1.cell? ⟨w.heap.size + 1, 5, none⟩ = some (.slice none 0 0) := (K11.out).cell 5
    go_wp2
    clear cr0 fr0 cr1 fr1 cr2 fr2 cr3 fr3 cr4 fr4 cr5 fr5
    have kF : Bk ((((((w1.setCell ⟨w.heap.size + 1, 0, none⟩ (.slice none 0 0)).setCell ⟨w.heap.size + 1, 1, none⟩ (.slice none 0 0)).setCell ⟨w.heap.size + 1, 2, none⟩ (.slice none 0 0)).setCell ⟨w.heap.size + 1, 3, none⟩ (.slice none 0 0)).setCell ⟨w.heap.size + 1, 4, none⟩ (.slice none 0 0)).setCell ⟨w.heap.size + 1, 5, none⟩ (.slice none 0 0)) (w.heap.size + 1) 59 #[.slice none 0 0, .slice none 0 0, .slice none 0 0, .slice none 0 0, .slice none 0 0, .slice none 0 0] := by
      have a0 := K11.out
      have a1 := a0.set 0 (.slice none 0 0)
      have a2 := a1.set 1 (.slice none 0 0)
      have a3 := a2.set 2 (.slice none 0 0)
      have a4 := a3.set 3 (.slice none 0 0)
      have a5 := a4.set 4 (.slice none 0 0)
      have a6 := a5.set 5 (.slice none 0 0)
      simpa using a6
    have bF : ∀ B, B ≤ w.heap.size + 1 → Below B w1 ((((((w1.setCell ⟨w.heap.size + 1, 0, none⟩ (.slice none 0 0)).setCell ⟨w.heap.size + 1, 1, none⟩ (.slice none 0 0)).setCell ⟨w.heap.size + 1, 2, none⟩ (.slice none 0 0)).setCell ⟨w.heap.size + 1, 3, none⟩ (.slice none 0 0)).setCell ⟨w.heap.size + 1, 4, none⟩ (.slice none 0 0)).setCell ⟨w.heap.size + 1, 5, none⟩ (.slice none 0 0)) := fun B hB => (((((((Below.refl _ _).setCell (by show B ≤ w.heap.size + 1; omega) _).setCell (by show B ≤ w.heap.size + 1; omega) _).setCell (by show B ≤ w.heap.size + 1; omega) _).setCell (by show B ≤ w.heap.size + 1; omega) _).setCell (by show B ≤ w.heap.size + 1; omega) _).setCell (by show B ≤ w.heap.size + 1; omega) _)
    have nF : ∀ q, q ≠ w.heap.size + 1 → ((((((w1.setCell ⟨w.heap.size + 1, 0, none⟩ (.slice none 0 0)).setCell ⟨w.heap.size + 1, 1, none⟩ (.slice none 0 0)).setCell ⟨w.heap.size + 1, 2, none⟩ (.slice none 0 0)).setCell ⟨w.heap.size + 1, 3, none⟩ (.slice none 0 0)).setCell ⟨w.heap.size + 1, 4, none⟩ (.slice none 0 0)).setCell ⟨w.heap.size + 1, 5, none⟩ (.slice none 0 0)).heap[q]? = w1.heap[q]? := fun q hq => (Below.heap_setCell _ _ _ q (by show q ≠ w.heap.size + 1; omega)).trans ((Below.heap_setCell _ _ _ q (by show q ≠ w.heap.size + 1; omega)).trans ((Below.heap_setCell _ _ _ q (by show q ≠ w.heap.size + 1; omega)).trans ((Below.heap_setCell _ _ _ q (by show q ≠ w.heap.size + 1; omega)).trans ((Below.heap_setCell _ _ _ q (by show q ≠ w.heap.size + 1; omega)).trans (Below.heap_setCell _ _ _ q (by show q ≠ w.heap.size + 1; omega))))))
    have sF : ((((((w1.setCell ⟨w.heap.size + 1, 0, none⟩ (.slice none 0 0)).setCell ⟨w.heap.size + 1, 1, none⟩ (.slice none 0 0)).setCell ⟨w.heap.size + 1, 2, none⟩ (.slice none 0 0)).setCell ⟨w.heap.size + 1, 3, none⟩ (.slice none 0 0)).setCell ⟨w.heap.size + 1, 4, none⟩ (.slice none 0 0)).setCell ⟨w.heap.size + 1, 5, none⟩ (.slice none 0 0)).heap.size = w1.heap.size := by simp
    have KF := Lib.hid kF
    have BF := Lib.hid bF
    have NF := Lib.hid nF
    obtain ⟨F, hF⟩ : ∃ F, F = ((((((w1.setCell ⟨w.heap.size + 1, 0, none⟩ (.slice none 0 0)).setCell ⟨w.heap.size + 1, 1, none⟩ (.slice none 0 0)).setCell ⟨w.heap.size + 1, 2, none⟩ (.slice none 0 0)).setCell ⟨w.heap.size + 1, 3, none⟩ (.slice none 0 0)).setCell ⟨w.heap.size + 1, 4, none⟩ (.slice none 0 0)).setCell ⟨w.heap.size + 1, 5, none⟩ (.slice none 0 0)) := ⟨_, rfl⟩
    rw [← hF] at KF BF NF sF
    rw [← hF]
    clear kF bF nF hF
    have sFa := Nat.le_of_eq sF
    have sFb := Nat.le_of_eq sF.symm
    clear sF
    have cF0 := KF.out.cell 0
    have cF1 := KF.out.cell 1
    have cF2 := KF.out.cell 2
    have cF3 := KF.out.cell 3
    have cF4 := KF.out.cell 4
    have cF5 := KF.out.cell 5
    simp only [List.getElem?_toArray, List.getElem?_cons_zero, List.getElem?_cons_succ] at cF0 cF1 cF2 cF3 cF4 cF5
    refine bodyPost_ret (v := .tuple #[.agg #[.slice none 0 0, .slice none 0 0, .slice none 0 0, .slice none 0 0, .slice none 0 0, .slice none 0 0], .bool false]) (by simp [results, Try.results36, cF0, cF1, cF2, cF3, cF4, cF5, go_sem]) rfl ?_
    exact ⟨BufN, rfl, B1.out.trans (BF.out _ (by omega)), by omega, BufO.none_ _ _ _ _ (by omega)⟩
  have hE : bbegE L = bbegS L := by unfold bbegE; rw [hp]; rfl
  rw [hE, hp]
  obtain ⟨h31, h32⟩ := prog_len hp
  have HP := Lib.hid hp
  clear hE
  have HL := Lib.hid hp
  clear hp
  go_enter Try.func36, Try.ntmps36
  go_wp2_with fail
  rw [← HW.out]
  refine (iprog_any h.A L h.c W B P0.out (by omega) hl true HP).mono ?_
  rintro e w1 ⟨rfl, hb1⟩
  have B1 := Lib.hid (below_on BW.out hb1)
  have z1 := hb1.size
  have K01 := Lib.hid (K0.out.below hb1 K0.out.lt)
  have K11 := Lib.hid (K1.out.below hb1 K1.out.lt)
  have P1 := Lib.hid (P0.out.below hb1 (by omega))
  clear hb1
  have cb : w1.cell? ⟨w.heap.size, 0, none⟩ = some (.slice h.A L.length h.c) := K01.out.cell 0
  have UB : Hid (∀ v, Calls Try.prog 85 #[PgV h L, QV 1 (keptF L zeroF L.length) (fun _ => [])] v (AnsB v (bbegS L))) := Lib.hid (fun v => by
    have := unpbuf_any h L (keptF L zeroF L.length) (fun _ => []) v HL.out (keptF_ok zeroF_ok h32) (fun t _ => ⟨fun c hc => by simp at hc, by simp⟩)
    rw [bufOf_beg L h32] at this
    exact this)
  go_wp2_with fail
  go_region_held3 (fun w' => w'.cell? ⟨w.heap.size, 0, none⟩ = some (.slice h.A L.length h.c)) (first | with_reducible assumption | (simp [cb]; done) | (exact ((((((((K01.out.below hBv1 K01.out.lt).far (p := ⟨w.heap.size + 1, 0, none⟩) (show w.heap.size ≠ w.heap.size + 1 by omega) _).far (p := ⟨w.heap.size + 1, 1, none⟩) (show w.heap.size ≠ w.heap.size + 1 by omega) _).far (p := ⟨w.heap.size + 1, 2, none⟩) (show w.heap.size ≠ w.heap.size + 1 by omega) _).far (p := ⟨w.heap.size + 1, 3, none⟩) (show w.heap.size ≠ w.heap.size + 1 by omega) _).far (p := ⟨w.heap.size + 1, 4, none⟩) (show w.heap.size ≠ w.heap.size + 1 by omega) _).far (p := ⟨w.heap.size + 1, 5, none⟩) (show w.heap.size ≠ w.heap.size + 1 by omega) _)).cell 0)) (first | (go_at_call 56; refine (begq_any h L 1 _ B (P1.out.below ((Below.refl w1.heap.size w1).drew) (by omega)) (show B ≤ w1.heap.size by omega) HL.out).mono ?_; rintro e v0 ⟨rfl, hv⟩; have hBv0 : Below w1.heap.size w1 v0 := below_on ((Below.refl w1.heap.size w1).drew) hv; have cb0 : v0.cell? ⟨w.heap.size, 0, none⟩ = some (.slice h.A L.length h.c) := (K01.out.below hBv0 K01.out.lt).cell 0; clear hv) | (go_at_call 85; refine (UB.out _).mono ?_; rintro e v1 ⟨hu, rfl, hv, hlt, ov⟩; have Ov := Lib.hid ov; have hBv1 : Below w1.heap.size w1 v1 := below_on hBv0 hv; have hz1 : v0.heap.size ≤ v1.heap.size := hv.size; have cb1 : v1.cell? ⟨w.heap.size, 0, none⟩ = some (.slice h.A L.length h.c) := (K01.out.below hBv1 K01.out.lt).cell 0; have fr0 : v1.frozen? ⟨w.heap.size + 1, 0, none⟩ = false := (K11.out.below hBv1 K11.out.lt).free 0; have cr0 : v1.cell? ⟨w.heap.size + 1, 0, none⟩ = some (.slice none 0 0) := (K11.out.below hBv1 K11.out.lt).cell 0; have fr1 : v1.frozen? ⟨w.heap.size + 1, 1, none⟩ = false := (K11.out.below hBv1 K11.out.lt).free 1; have cr1 : v1.cell? ⟨w.heap.size + 1, 1, none⟩ = some (.slice none 0 0) := (K11.out.below hBv1 K11.out.lt).cell 1; have fr2 : v1.frozen? ⟨w.heap.size + 1, 2, none⟩ = false := (K11.out.below hBv1 K11.out.lt).free 2; have cr2 : v1.cell? ⟨w.heap.size + 1, 2, none⟩ = some (.slice none 0 0) := (K11.out.below hBv1 K11.out.lt).cell 2; have fr3 : v1.frozen? ⟨w.heap.size + 1, 3, none⟩ = false := (K11.out.below hBv1 K11.out.lt).free 3; have cr3 : v1.cell? ⟨w.heap.size + 1, 3, none⟩ = some (.slice none 0 0) := (K11.out.below hBv1 K11.out.lt).cell 3; have fr4 : v1.frozen? ⟨w.heap.size + 1, 4, none⟩ = false := (K11.out.below hBv1 K11.out.lt).free 4; have cr4 : v1.cell? ⟨w.heap.size + 1, 4, none⟩ = some (.slice none 0 0) := (K11.out.below hBv1 K11.out.lt).cell 4; have fr5 : v1.frozen? ⟨w.heap.size + 1, 5, none⟩ = false := (K11.out.below hBv1 K11.out.lt).free 5; have cr5 : v1.cell? ⟨w.heap.size + 1, 5, none⟩ = some (.slice none 0 0) := (K11.out.below hBv1 K11.out.lt).cell 5; clear hv hlt ov))
  clear cb cb0 cb1
  clear cr0 fr0 cr1 fr1 cr2 fr2 cr3 fr3 cr4 fr4 cr5 fr5
  have zv0 := hBv0.size
  have zv1 := hBv1.size
  have kF : Bk ((((((v1.setCell ⟨w.heap.size + 1, 0, none⟩ (.slice hu.h.A0 (bbegS L).st.f0.length hu.h.c0)).setCell ⟨w.heap.size + 1, 1, none⟩ (.slice hu.h.A1 (bbegS L).st.f1.length hu.h.c1)).setCell ⟨w.heap.size + 1, 2, none⟩ (.slice hu.h.A2 (bbegS L).st.f2.length hu.h.c2)).setCell ⟨w.heap.size + 1, 3, none⟩ (.slice hu.h.A3 (bbegS L).st.f3.length hu.h.c3)).setCell ⟨w.heap.size + 1, 4, none⟩ (.slice hu.h.A4 (bbegS L).st.f4.length hu.h.c4)).setCell ⟨w.heap.size + 1, 5, none⟩ (.slice hu.k.A (bbegS L).bs.length hu.k.c)) (w.heap.size + 1) 59 #[.slice hu.h.A0 (bbegS L).st.f0.length hu.h.c0, .slice hu.h.A1 (bbegS L).st.f1.length hu.h.c1, .slice hu.h.A2 (bbegS L).st.f2.length hu.h.c2, .slice hu.h.A3 (bbegS L).st.f3.length hu.h.c3, .slice hu.h.A4 (bbegS L).st.f4.length hu.h.c4, .slice hu.k.A (bbegS L).bs.length hu.k.c] := by
    have a0 := K11.out.below hBv1 K11.out.lt
    have a1 := a0.set 0 (.slice hu.h.A0 (bbegS L).st.f0.length hu.h.c0)
    have a2 := a1.set 1 (.slice hu.h.A1 (bbegS L).st.f1.length hu.h.c1)
    have a3 := a2.set 2 (.slice hu.h.A2 (bbegS L).st.f2.length hu.h.c2)
    have a4 := a3.set 3 (.slice hu.h.A3 (bbegS L).st.f3.length hu.h.c3)
    have a5 := a4.set 4 (.slice hu.h.A4 (bbegS L).st.f4.length hu.h.c4)
    have a6 := a5.set 5 (.slice hu.k.A (bbegS L).bs.length hu.k.c)
    simpa using a6
  have bF : ∀ B, B ≤ w.heap.size + 1 → Below B v1 ((((((v1.setCell ⟨w.heap.size + 1, 0, none⟩ (.slice hu.h.A0 (bbegS L).st.f0.length hu.h.c0)).setCell ⟨w.heap.size + 1, 1, none⟩ (.slice hu.h.A1 (bbegS L).st.f1.length hu.h.c1)).setCell ⟨w.heap.size + 1, 2, none⟩ (.slice hu.h.A2 (bbegS L).st.f2.length hu.h.c2)).setCell ⟨w.heap.size + 1, 3, none⟩ (.slice hu.h.A3 (bbegS L).st.f3.length hu.h.c3)).setCell ⟨w.heap.size + 1, 4, none⟩ (.slice hu.h.A4 (bbegS L).st.f4.length hu.h.c4)).setCell ⟨w.heap.size + 1, 5, none⟩ (.slice hu.k.A (bbegS L).bs.length hu.k.c)) := fun B hB => (((((((Below.refl _ _).setCell (by show B ≤ w.heap.size + 1; omega) _).setCell (by show B ≤ w.heap.size + 1; omega) _).setCell (by show B ≤ w.heap.size + 1; omega) _).setCell (by show B ≤ w.heap.size + 1; omega) _).setCell (by show B ≤ w.heap.size + 1; omega) _).setCell (by show B ≤ w.heap.size + 1; omega) _)
  have nF : ∀ q, q ≠ w.heap.size + 1 → ((((((v1.setCell ⟨w.heap.size + 1, 0, none⟩ (.slice hu.h.A0 (bbegS L).st.f0.length hu.h.c0)).setCell ⟨w.heap.size + 1, 1, none⟩ (.slice hu.h.A1 (bbegS L).st.f1.length hu.h.c1)).setCell ⟨w.heap.size + 1, 2, none⟩ (.slice hu.h.A2 (bbegS L).st.f2.length hu.h.c2)).setCell ⟨w.heap.size + 1, 3, none⟩ (.slice hu.h.A3 (bbegS L).st.f3.length hu.h.c3)).setCell ⟨w.heap.size + 1, 4, none⟩ (.slice hu.h.A4 (bbegS L).st.f4.length hu.h.c4)).setCell ⟨w.heap.size + 1, 5, none⟩ (.slice hu.k.A (bbegS L).bs.length hu.k.c)).heap[q]? = v1.heap[q]? := fun q hq => (Below.heap_setCell _ _ _ q (by show q ≠ w.heap.size + 1; omega)).trans ((Below.heap_setCell _ _ _ q (by show q ≠ w.heap.size + 1; omega)).trans ((Below.heap_setCell _ _ _ q (by show q ≠ w.heap.size + 1; omega)).trans ((Below.heap_setCell _ _ _ q (by show q ≠ w.heap.size + 1; omega)).trans ((Below.heap_setCell _ _ _ q (by show q ≠ w.heap.size + 1; omega)).trans (Below.heap_setCell _ _ _ q (by show q ≠ w.heap.size + 1; omega))))))
  have sF : ((((((v1.setCell ⟨w.heap.size + 1, 0, none⟩ (.slice hu.h.A0 (bbegS L).st.f0.length hu.h.c0)).setCell ⟨w.heap.size + 1, 1, none⟩ (.slice hu.h.A1 (bbegS L).st.f1.length hu.h.c1)).setCell ⟨w.heap.size + 1, 2, none⟩ (.slice hu.h.A2 (bbegS L).st.f2.length hu.h.c2)).setCell ⟨w.heap.size + 1, 3, none⟩ (.slice hu.h.A3 (bbegS L).st.f3.length hu.h.c3)).setCell ⟨w.heap.size + 1, 4, none⟩ (.slice hu.h.A4 (bbegS L).st.f4.length hu.h.c4)).setCell ⟨w.heap.size + 1, 5, none⟩ (.slice hu.k.A (bbegS L).bs.length hu.k.c)).heap.size = v1.heap.size := by simp
  have KF := Lib.hid kF
  have BF := Lib.hid bF
  have NF := Lib.hid nF
  obtain ⟨F, hF⟩ : ∃ F, F = ((((((v1.setCell ⟨w.heap.size + 1, 0, none⟩ (.slice hu.h.A0 (bbegS L).st.f0.length hu.h.c0)).setCell ⟨w.heap.size + 1, 1, none⟩ (.slice hu.h.A1 (bbegS L).st.f1.length hu.h.c1)).setCell ⟨w.heap.size + 1, 2, none⟩ (.slice hu.h.A2 (bbegS L).st.f2.length hu.h.c2)).setCell ⟨w.heap.size + 1, 3, none⟩ (.slice hu.h.A3 (bbegS L).st.f3.length hu.h.c3)).setCell ⟨w.heap.size + 1, 4, none⟩ (.slice hu.h.A4 (bbegS L).st.f4.length hu.h.c4)).setCell ⟨w.heap.size + 1, 5, none⟩ (.slice hu.k.A (bbegS L).bs.length hu.k.c)) := ⟨_, rfl⟩
  rw [← hF] at KF BF NF sF
  rw [← hF]
  clear kF bF nF hF
  have sFa := Nat.le_of_eq sF
  have sFb := Nat.le_of_eq sF.symm
  clear sF
  have cF0 := KF.out.cell 0
  have cF1 := KF.out.cell 1
  have cF2 := KF.out.cell 2
  have cF3 := KF.out.cell 3
  have cF4 := KF.out.cell 4
  have cF5 := KF.out.cell 5
  simp only [List.getElem?_toArray, List.getElem?_cons_zero, List.getElem?_cons_succ] at cF0 cF1 cF2 cF3 cF4 cF5
  go_wp2
  refine bodyPost_ret (v := .tuple #[.agg #[.slice hu.h.A0 (bbegS L).st.f0.length hu.h.c0, .slice hu.h.A1 (bbegS L).st.f1.length hu.h.c1, .slice hu.h.A2 (bbegS L).st.f2.length hu.h.c2, .slice hu.h.A3 (bbegS L).st.f3.length hu.h.c3, .slice hu.h.A4 (bbegS L).st.f4.length hu.h.c4, .slice hu.k.A (bbegS L).bs.length hu.k.c], .bool true]) (by simp [results, Try.results36, cF0, cF1, cF2, cF3, cF4, cF5, go_sem]) rfl ?_
  exact ⟨hu, rfl, (B1.out.trans (hBv1.mono (by omega))).trans (BF.out _ (by omega)), by omega, Ov.out.keep (by omega) sFb fun q h1 h2 => NF.out q (by omega)⟩
theorem isprbeg_any (h : PgH) (L : Pg) (w : World) (B : Nat) (hR : PgR w B h L) (hB : B ≤ w.heap.size) (SP : PgS L) :
    Calls Try.prog 16 #[PgV h L] w (AnsBuf w (vbegE L) (progB L)) := by
  have LP := PgS_L SP
  have hl := LP.l
  obtain ⟨W, hW⟩ : ∃ W, W = (w.alloc (.cells #[.slice h.A L.length h.c] 36)).alloc (.cells #[.slice none 0 0, .slice none 0 0, .slice none 0 0, .slice none 0 0, .slice none 0 0, .slice none 0 0] 31) := ⟨_, rfl⟩
  have bW : Below w.heap.size w W := by rw [hW]; go_grown
  have sW : W.heap.size = w.heap.size + 1 + 1 := by rw [hW]; simp
  have k0 : Bk W w.heap.size 36 #[.slice h.A L.length h.c] := by rw [hW]; exact (Bk.new w _ _).alloc _
  have k1 : Bk W (w.heap.size + 1) 31 #[.slice none 0 0, .slice none 0 0, .slice none 0 0, .slice none 0 0, .slice none 0 0, .slice none 0 0] := by
    rw [hW]; have := Bk.new (w.alloc (.cells #[.slice h.A L.length h.c] 36)) #[.slice none 0 0, .slice none 0 0, .slice none 0 0, .slice none 0 0, .slice none 0 0, .slice none 0 0] 31
    rwa [World.size_alloc] at this
  have P0 := Lib.hid (hR.below bW hB)
  have K0 := Lib.hid k0
  have K1 := Lib.hid k1
  have BW := Lib.hid bW
  have sWa := Nat.le_of_eq sW
  have sWb := Nat.le_of_eq sW.symm
  have HW := Lib.hid hW
  clear k0 k1 bW sW hW hR
  rcases Bool.eq_false_or_eq_true (progB L) with hp | hp
  rotate_left
  · have hE : vbegE L = BufE := by unfold vbegE; rw [hp]; rfl
    rw [hE, hp]
    have HP := Lib.hid hp
    clear hE hp
    go_enter Try.func16, Try.ntmps16
    go_wp2_with fail
    rw [← HW.out]
    refine (iprog_any h.A L h.c W B P0.out (by omega) hl false HP).mono ?_
    rintro e w1 ⟨rfl, hb1⟩
    have B1 := Lib.hid (below_on BW.out hb1)
    have z1 := hb1.size
    have K11 := Lib.hid (K1.out.below hb1 K1.out.lt)
    clear hb1
    have fr0 : w1.frozen? ⟨w.heap.size + 1, 0, none⟩ = false := (K11.out).free 0
    have cr0 : w1.cell? ⟨w.heap.size + 1, 0, none⟩ = some (.slice none 0 0) := (K11.out).cell 0
    have fr1 : w1.frozen? ⟨w.heap.size + 1, 1, none⟩ = false := (K11.out).free 1
    have cr1 : w1.cell? ⟨w.heap.size + 1, 1, none⟩ = some (.slice none 0 0) := (K11.out).cell 1
    have fr2 : w1.frozen? ⟨w.heap.size + 1, 2, none⟩ = false := (K11.out).free 2
    have cr2 : w1.cell? ⟨w.heap.size + 1, 2, none⟩ = some (.slice none 0 0) := (K11.out).cell 2
    have fr3 : w1.frozen? ⟨w.heap.size + 1, 3, none⟩ = false := (K11.out).free 3
    have cr3 : w1.cell? ⟨w.heap.size + 1, 3, none⟩ = some (.slice none 0 0) := (K11.out).cell 3
    have fr4 : w1.frozen? ⟨w.heap.size + 1, 4, none⟩ = false := (K11.out).free 4
    have cr4 : w1.cell? ⟨w.heap.size + 1, 4, none⟩ = some (.slice none 0 0) := (K11.out).cell 4
    have fr5 : w1.frozen? ⟨w.heap.size + 1, 5, none⟩ = false := (K11.out).free 5
    have cr5 : w1.cell? ⟨w.heap.size + 1, 5, none⟩ = some (.slice none 0 0) := (K11.out).cell 5
    go_wp2
    clear cr0 fr0 cr1 fr1 cr2 fr2 cr3 fr3 cr4 fr4 cr5 fr5
    have kF : Bk ((((((w1.setCell ⟨w.heap.size + 1, 0, none⟩ (.slice none 0 0)).setCell ⟨w.heap.size + 1, 1, none⟩ (.slice none 0 0)).setCell ⟨w.heap.size + 1, 2, none⟩ (.slice none 0 0)).setCell ⟨w.heap.size + 1, 3, none⟩ (.slice none 0 0)).setCell ⟨w.heap.size + 1, 4, none⟩ (.slice none 0 0)).setCell ⟨w.heap.size + 1, 5, none⟩ (.slice none 0 0)) (w.heap.size + 1) 31 #[.slice none 0 0, .slice none 0 0, .slice none 0 0, .slice none 0 0, .slice none 0 0, .slice none 0 0] := by
      have a0 := K11.out
      have a1 := a0.set 0 (.slice none 0 0)
      have a2 := a1.set 1 (.slice none 0 0)
      have a3 := a2.set 2 (.slice none 0 0)
      have a4 := a3.set 3 (.slice none 0 0)
      have a5 := a4.set 4 (.slice none 0 0)
      have a6 := a5.set 5 (.slice none 0 0)
      simpa using a6
    have bF : ∀ B, B ≤ w.heap.size + 1 → Below B w1 ((((((w1.setCell ⟨w.heap.size + 1, 0, none⟩ (.slice none 0 0)).setCell ⟨w.heap.size + 1, 1, none⟩ (.slice none 0 0)).setCell ⟨w.heap.size + 1, 2, none⟩ (.slice none 0 0)).setCell ⟨w.heap.size + 1, 3, none⟩ (.slice none 0 0)).setCell ⟨w.heap.size + 1, 4, none⟩ (.slice none 0 0)).setCell ⟨w.heap.size + 1, 5, none⟩ (.slice none 0 0)) := fun B hB => (((((((Below.refl _ _).setCell (by show B ≤ w.heap.size + 1; omega) _).setCell (by show B ≤ w.heap.size + 1; omega) _).setCell (by show B ≤ w.heap.size + 1; omega) _).setCell (by show B ≤ w.heap.size + 1; omega) _).setCell (by show B ≤ w.heap.size + 1; omega) _).setCell (by show B ≤ w.heap.size + 1; omega) _)
    have nF : ∀ q, q ≠ w.heap.size + 1 → ((((((w1.setCell ⟨w.heap.size + 1, 0, none⟩ (.slice none 0 0)).setCell ⟨w.heap.size + 1, 1, none⟩ (.slice none 0 0)).setCell ⟨w.heap.size + 1, 2, none⟩ (.slice none 0 0)).setCell ⟨w.heap.size + 1, 3, none⟩ (.slice none 0 0)).setCell ⟨w.heap.size + 1, 4, none⟩ (.slice none 0 0)).setCell ⟨w.heap.size + 1, 5, none⟩ (.slice none 0 0)).heap[q]? = w1.heap[q]? := fun q hq => (Below.heap_setCell _ _ _ q (by show q ≠ w.heap.size + 1; omega)).trans ((Below.heap_setCell _ _ _ q (by show q ≠ w.heap.size + 1; omega)).trans ((Below.heap_setCell _ _ _ q (by show q ≠ w.heap.size + 1; omega)).trans ((Below.heap_setCell _ _ _ q (by show q ≠ w.heap.size + 1; omega)).trans ((Below.heap_setCell _ _ _ q (by show q ≠ w.heap.size + 1; omega)).trans (Below.heap_setCell _ _ _ q (by show q ≠ w.heap.size + 1; omega))))))
    have sF : ((((((w1.setCell ⟨w.heap.size + 1, 0, none⟩ (.slice none 0 0)).setCell ⟨w.heap.size + 1, 1, none⟩ (.slice none 0 0)).setCell ⟨w.heap.size + 1, 2, none⟩ (.slice none 0 0)).setCell ⟨w.heap.size + 1, 3, none⟩ (.slice none 0 0)).setCell ⟨w.heap.size + 1, 4, none⟩ (.slice none 0 0)).setCell ⟨w.heap.size + 1, 5, none⟩ (.slice none 0 0)).heap.size = w1.heap.size := by simp
    have KF := Lib.hid kF
    have BF := Lib.hid bF
    have NF := Lib.hid nF
    obtain ⟨F, hF⟩ : ∃ F, F = ((((((w1.setCell ⟨w.heap.size + 1, 0, none⟩ (.slice none 0 0)).setCell ⟨w.heap.size + 1, 1, none⟩ (.slice none 0 0)).setCell ⟨w.heap.size + 1, 2, none⟩ (.slice none 0 0)).setCell ⟨w.heap.size + 1, 3, none⟩ (.slice none 0 0)).setCell ⟨w.heap.size + 1, 4, none⟩ (.slice none 0 0)).setCell ⟨w.heap.size + 1, 5, none⟩ (.slice none 0 0)) := ⟨_, rfl⟩
    rw [← hF] at KF BF NF sF
    rw [← hF]
    clear kF bF nF hF
    have sFa := Nat.le_of_eq sF
    have sFb := Nat.le_of_eq sF.symm
    clear sF
    have cF0 := KF.out.cell 0
    have cF1 := KF.out.cell 1
    have cF2 := KF.out.cell 2
    have cF3 := KF.out.cell 3
    have cF4 := KF.out.cell 4
    have cF5 := KF.out.cell 5
    simp only [List.getElem?_toArray, List.getElem?_cons_zero, List.getElem?_cons_succ] at cF0 cF1 cF2 cF3 cF4 cF5
    refine bodyPost_ret (v := .tuple #[.agg #[.slice none 0 0, .slice none 0 0, .slice none 0 0, .slice none 0 0, .slice none 0 0, .slice none 0 0], .bool false]) (by simp [results, Try.results16, cF0, cF1, cF2, cF3, cF4, cF5, go_sem]) rfl ?_
    exact ⟨BufN, rfl, B1.out.trans (BF.out _ (by omega)), by omega, BufO.none_ _ _ _ _ (by omega)⟩
  have hE : vbegE L = vbegS L := by unfold vbegE; rw [hp]; rfl
  rw [hE, hp]
  obtain ⟨h31, h32⟩ := prog_len hp
  have HP := Lib.hid hp
  clear hE
  have HL := Lib.hid hp
  clear hp
  go_enter Try.func16, Try.ntmps16
  go_wp2_with fail
  rw [← HW.out]
  refine (iprog_any h.A L h.c W B P0.out (by omega) hl true HP).mono ?_
  rintro e w1 ⟨rfl, hb1⟩
  have B1 := Lib.hid (below_on BW.out hb1)
  have z1 := hb1.size
  have K01 := Lib.hid (K0.out.below hb1 K0.out.lt)
  have K11 := Lib.hid (K1.out.below hb1 K1.out.lt)
  have P1 := Lib.hid (P0.out.below hb1 (by omega))
  clear hb1
  have cb : w1.cell? ⟨w.heap.size, 0, none⟩ = some (.slice h.A L.length h.c) := K01.out.cell 0
  have UB : Hid (∀ v, Calls Try.prog 55 #[PgV h L, QV 3 (keptF L zeroF L.length) (fun _ => [])] v (AnsB v (vbegS L))) := Lib.hid (fun v => by
    have := unpspr_any h L (keptF L zeroF L.length) (fun _ => []) v HL.out (keptF_ok zeroF_ok h32) (fun t _ => ⟨fun c hc => by simp at hc, by simp⟩)
    rw [sprOf_beg L h32] at this
    exact this)
  go_wp2_with fail
  go_region_held3 (fun w' => w'.cell? ⟨w.heap.size, 0, none⟩ = some (.slice h.A L.length h.c)) (first | with_reducible assumption | (simp [cb]; done) | (exact ((((((((K01.out.below hBv1 K01.out.lt).far (p := ⟨w.heap.size + 1, 0, none⟩) (show w.heap.size ≠ w.heap.size + 1 by omega) _).far (p := ⟨w.heap.size + 1, 1, none⟩) (show w.heap.size ≠ w.heap.size + 1 by omega) _).far (p := ⟨w.heap.size + 1, 2, none⟩) (show w.heap.size ≠ w.heap.size + 1 by omega) _).far (p := ⟨w.heap.size + 1, 3, none⟩) (show w.heap.size ≠ w.heap.size + 1 by omega) _).far (p := ⟨w.heap.size + 1, 4, none⟩) (show w.heap.size ≠ w.heap.size + 1 by omega) _).far (p := ⟨w.heap.size + 1, 5, none⟩) (show w.heap.size ≠ w.heap.size + 1 by omega) _)).cell 0)) (first | (go_at_call 56; refine (begq_any h L 3 _ B (P1.out.below ((Below.refl w1.heap.size w1).drew) (by omega)) (show B ≤ w1.heap.size by omega) HL.out).mono ?_; rintro e v0 ⟨rfl, hv⟩; have hBv0 : Below w1.heap.size w1 v0 := below_on ((Below.refl w1.heap.size w1).drew) hv; have cb0 : v0.cell? ⟨w.heap.size, 0, none⟩ = some (.slice h.A L.length h.c) := (K01.out.below hBv0 K01.out.lt).cell 0; clear hv) | (go_at_call 55; refine (UB.out _).mono ?_; rintro e v1 ⟨hu, rfl, hv, hlt, ov⟩; have Ov := Lib.hid ov; have hBv1 : Below w1.heap.size w1 v1 := below_on hBv0 hv; have hz1 : v0.heap.size ≤ v1.heap.size := hv.size; have cb1 : v1.cell? ⟨w.heap.size, 0, none⟩ = some (.slice h.A L.length h.c) := (K01.out.below hBv1 K01.out.lt).cell 0; have fr0 : v1.frozen? ⟨w.heap.size + 1, 0, none⟩ = false := (K11.out.below hBv1 K11.out.lt).free 0; have cr0 : v1.cell? ⟨w.heap.size + 1, 0, none⟩ = some (.slice none 0 0) := (K11.out.below hBv1 K11.out.lt).cell 0; have fr1 : v1.frozen? ⟨w.heap.size + 1, 1, none⟩ = false := (K11.out.below hBv1 K11.out.lt).free 1; have cr1 : v1.cell? ⟨w.heap.size + 1, 1, none⟩ = some (.slice none 0 0) := (K11.out.below hBv1 K11.out.lt).cell 1; have fr2 : v1.frozen? ⟨w.heap.size + 1, 2, none⟩ = false := (K11.out.below hBv1 K11.out.lt).free 2; have cr2 : v1.cell? ⟨w.heap.size + 1, 2, none⟩ = some (.slice none 0 0) := (K11.out.below hBv1 K11.out.lt).cell 2; have fr3 : v1.frozen? ⟨w.heap.size + 1, 3, none⟩ = false := (K11.out.below hBv1 K11.out.lt).free 3; have cr3 : v1.cell? ⟨w.heap.size + 1, 3, none⟩ = some (.slice none 0 0) := (K11.out.below hBv1 K11.out.lt).cell 3; have fr4 : v1.frozen? ⟨w.heap.size + 1, 4, none⟩ = false := (K11.out.below hBv1 K11.out.lt).free 4; have cr4 : v1.cell? ⟨w.heap.size + 1, 4, none⟩ = some (.slice none 0 0) := (K11.out.below hBv1 K11.out.lt).cell 4; have fr5 : v1.frozen? ⟨w.heap.size + 1, 5, none⟩ = false := (K11.out.below hBv1 K11.out.lt).free 5; have cr5 : v1.cell? ⟨w.heap.size + 1, 5, none⟩ = some (.slice none 0 0) := (K11.out.below hBv1 K11.out.lt).cell 5; clear hv hlt ov))
  clear cb cb0 cb1
  clear cr0 fr0 cr1 fr1 cr2 fr2 cr3 fr3 cr4 fr4 cr5 fr5
  have zv0 := hBv0.size
  have zv1 := hBv1.size
  have kF : Bk ((((((v1.setCell ⟨w.heap.size + 1, 0, none⟩ (.slice hu.h.A0 (vbegS L).st.f0.length hu.h.c0)).setCell ⟨w.heap.size + 1, 1, none⟩ (.slice hu.h.A1 (vbegS L).st.f1.length hu.h.c1)).setCell ⟨w.heap.size + 1, 2, none⟩ (.slice hu.h.A2 (vbegS L).st.f2.length hu.h.c2)).setCell ⟨w.heap.size + 1, 3, none⟩ (.slice hu.h.A3 (vbegS L).st.f3.length hu.h.c3)).setCell ⟨w.heap.size + 1, 4, none⟩ (.slice hu.h.A4 (vbegS L).st.f4.length hu.h.c4)).setCell ⟨w.heap.size + 1, 5, none⟩ (.slice hu.k.A (vbegS L).bs.length hu.k.c)) (w.heap.size + 1) 31 #[.slice hu.h.A0 (vbegS L).st.f0.length hu.h.c0, .slice hu.h.A1 (vbegS L).st.f1.length hu.h.c1, .slice hu.h.A2 (vbegS L).st.f2.length hu.h.c2, .slice hu.h.A3 (vbegS L).st.f3.length hu.h.c3, .slice hu.h.A4 (vbegS L).st.f4.length hu.h.c4, .slice hu.k.A (vbegS L).bs.length hu.k.c] := by
    have a0 := K11.out.below hBv1 K11.out.lt
    have a1 := a0.set 0 (.slice hu.h.A0 (vbegS L).st.f0.length hu.h.c0)
    have a2 := a1.set 1 (.slice hu.h.A1 (vbegS L).st.f1.length hu.h.c1)
    have a3 := a2.set 2 (.slice hu.h.A2 (vbegS L).st.f2.length hu.h.c2)
    have a4 := a3.set 3 (.slice hu.h.A3 (vbegS L).st.f3.length hu.h.c3)
    have a5 := a4.set 4 (.slice hu.h.A4 (vbegS L).st.f4.length hu.h.c4)
    have a6 := a5.set 5 (.slice hu.k.A (vbegS L).bs.length hu.k.c)
    simpa using a6
  have bF : ∀ B, B ≤ w.heap.size + 1 → Below B v1 ((((((v1.setCell ⟨w.heap.size + 1, 0, none⟩ (.slice hu.h.A0 (vbegS L).st.f0.length hu.h.c0)).setCell ⟨w.heap.size + 1, 1, none⟩ (.slice hu.h.A1 (vbegS L).st.f1.length hu.h.c1)).setCell ⟨w.heap.size + 1, 2, none⟩ (.slice hu.h.A2 (vbegS L).st.f2.length hu.h.c2)).setCell ⟨w.heap.size + 1, 3, none⟩ (.slice hu.h.A3 (vbegS L).st.f3.length hu.h.c3)).setCell ⟨w.heap.size + 1, 4, none⟩ (.slice hu.h.A4 (vbegS L).st.f4.length hu.h.c4)).setCell ⟨w.heap.size + 1, 5, none⟩ (.slice hu.k.A (vbegS L).bs.length hu.k.c)) := fun B hB => (((((((Below.refl _ _).setCell (by show B ≤ w.heap.size + 1; omega) _).setCell (by show B ≤ w.heap.size + 1; omega) _).setCell (by show B ≤ w.heap.size + 1; omega) _).setCell (by show B ≤ w.heap.size + 1; omega) _).setCell (by show B ≤ w.heap.size + 1; omega) _).setCell (by show B ≤ w.heap.size + 1; omega) _)
  have nF : ∀ q, q ≠ w.heap.size + 1 → ((((((v1.setCell ⟨w.heap.size + 1, 0, none⟩ (.slice hu.h.A0 (vbegS L).st.f0.length hu.h.c0)).setCell ⟨w.heap.size + 1, 1, none⟩ (.slice hu.h.A1 (vbegS L).st.f1.length hu.h.c1)).setCell ⟨w.heap.size + 1, 2, none⟩ (.slice hu.h.A2 (vbegS L).st.f2.length hu.h.c2)).setCell ⟨w.heap.size + 1, 3, none⟩ (.slice hu.h.A3 (vbegS L).st.f3.length hu.h.c3)).setCell ⟨w.heap.size + 1, 4, none⟩ (.slice hu.h.A4 (vbegS L).st.f4.length hu.h.c4)).setCell ⟨w.heap.size + 1, 5, none⟩ (.slice hu.k.A (vbegS L).bs.length hu.k.c)).heap[q]? = v1.heap[q]? := fun q hq => (Below.heap_setCell _ _ _ q (by show q ≠ w.heap.size + 1; omega)).trans ((Below.heap_setCell _ _ _ q (by show q ≠ w.heap.size + 1; omega)).trans ((Below.heap_setCell _ _ _ q (by show q ≠ w.heap.size + 1; omega)).trans ((Below.heap_setCell _ _ _ q (by show q ≠ w.heap.size + 1; omega)).trans ((Below.heap_setCell _ _ _ q (by show q ≠ w.heap.size + 1; omega)).trans (Below.heap_setCell _ _ _ q (by show q ≠ w.heap.size + 1; omega))))))
  have sF : ((((((v1.setCell ⟨w.heap.size + 1, 0, none⟩ (.slice hu.h.A0 (vbegS L).st.f0.length hu.h.c0)).setCell ⟨w.heap.size + 1, 1, none⟩ (.slice hu.h.A1 (vbegS L).st.f1.length hu.h.c1)).setCell ⟨w.heap.size + 1, 2, none⟩ (.slice hu.h.A2 (vbegS L).st.f2.length hu.h.c2)).setCell ⟨w.heap.size + 1, 3, none⟩ (.slice hu.h.A3 (vbegS L).st.f3.length hu.h.c3)).setCell ⟨w.heap.size + 1, 4, none⟩ (.slice hu.h.A4 (vbegS L).st.f4.length hu.h.c4)).setCell ⟨w.heap.size + 1, 5, none⟩ (.slice hu.k.A (vbegS L).bs.length hu.k.c)).heap.size = v1.heap.size := by simp
  have KF := Lib.hid kF
  have BF := Lib.hid bF
  have NF := Lib.hid nF
  obtain ⟨F, hF⟩ : ∃ F, F = ((((((v1.setCell ⟨w.heap.size + 1, 0, none⟩ (.slice hu.h.A0 (vbegS L).st.f0.length hu.h.c0)).setCell ⟨w.heap.size + 1, 1, none⟩ (.slice hu.h.A1 (vbegS L).st.f1.length hu.h.c1)).setCell ⟨w.heap.size + 1, 2, none⟩ (.slice hu.h.A2 (vbegS L).st.f2.length hu.h.c2)).setCell ⟨w.heap.size + 1, 3, none⟩ (.slice hu.h.A3 (vbegS L).st.f3.length hu.h.c3)).setCell ⟨w.heap.size + 1, 4, none⟩ (.slice hu.h.A4 (vbegS L).st.f4.length hu.h.c4)).setCell ⟨w.heap.size + 1, 5, none⟩ (.slice hu.k.A (vbegS L).bs.length hu.k.c)) := ⟨_, rfl⟩
  rw [← hF] at KF BF NF sF
  rw [← hF]
  clear kF bF nF hF
  have sFa := Nat.le_of_eq sF
  have sFb := Nat.le_of_eq sF.symm
  clear sF
  have cF0 := KF.out.cell 0
  have cF1 := KF.out.cell 1
  have cF2 := KF.out.cell 2
  have cF3 := KF.out.cell 3
  have cF4 := KF.out.cell 4
  have cF5 := KF.out.cell 5
  simp only [List.getElem?_toArray, List.getElem?_cons_zero, List.getElem?_cons_succ] at cF0 cF1 cF2 cF3 cF4 cF5
  go_wp2
  refine bodyPost_ret (v := .tuple #[.agg #[.slice hu.h.A0 (vbegS L).st.f0.length hu.h.c0, .slice hu.h.A1 (vbegS L).st.f1.length hu.h.c1, .slice hu.h.A2 (vbegS L).st.f2.length hu.h.c2, .slice hu.h.A3 (vbegS L).st.f3.length hu.h.c3, .slice hu.h.A4 (vbegS L).st.f4.length hu.h.c4, .slice hu.k.A (vbegS L).bs.length hu.k.c], .bool true]) (by simp [results, Try.results16, cF0, cF1, cF2, cF3, cF4, cF5, go_sem]) rfl ?_
  exact ⟨hu, rfl, (B1.out.trans (hBv1.mono (by omega))).trans (BF.out _ (by omega)), by omega, Ov.out.keep (by omega) sFb fun q h1 h2 => NF.out q (by omega)⟩
end Go.Proofs.Ytnadihepgmbhaaa
