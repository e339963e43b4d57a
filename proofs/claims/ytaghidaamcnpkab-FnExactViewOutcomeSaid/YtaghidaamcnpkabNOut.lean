/-
  What ViewOutcome comes to, as a plain outcome, and the program's ViewOutcome.
-/
import Derived.Test.YtaghidaamcnpkabNBeg
import Derived.Test.YtaghidaamcnpkabNPkP
import Derived.Test.YtaghidaamcnpkabICan
import Derived.Test.YtaghidaamcnpkabOutU
namespace Go.Proofs.Ytaghidaamcnpkab
open Go.RowKit Pl Go.BigFrame
set_option maxHeartbeats 8000000
set_option maxRecDepth 100000
set_option linter.unusedVariables false

def vwoE (L : Pg) (o : Vwd) : Oc := if vwB L o then ocF L (lwF (sgF L o) 3) else OcE
theorem lw_good {L : Pg} {o : Vwd} (h : VwP L o) : Good L (lwF (sgF L o) 3) := by
  refine ⟨lwF_ok (wdF_good h.st).ok (sgF_ok h).S (fun p hp => ?_) 3 (Nat.le_refl _), fun t xs hx => ?_⟩
  · show 1 ≤ ((o.n.getD p []).map ntF).length
    rw [List.length_map]
    have hl : p < o.n.length := by rw [h.ns.n3]; exact hp
    have hm : o.n.getD p [] ∈ o.n := by
      have e : o.n.getD p [] = o.n[p] := by simp [List.getD, hl]
      rw [e]; exact List.getElem_mem hl
    exact (h.np.l _ hm).1
  · have ht : t < 3 := Nat.lt_of_lt_of_le (List.getElem?_eq_some_iff.1 hx).1 h.st.n3
    unfold lwF
    rw [if_neg (by omega)]
    exact (wdF_good h.st).at_ t xs hx
theorem inviewout_any (h : PgH) (L : Pg) (k : VwdH) (o : Vwd) (w : World) (B : Nat) (hP : PgR w B h L) (hS : VwdR w B k o) (hB : B ≤ w.heap.size) (SP : PgS L) (LS : VwdS o) :
    Calls Try.prog 26 #[PgV h L, VwdV k o] w (AnsOc w (vwoE L o) (vwB L o)) := by
  obtain ⟨W, hW⟩ : ∃ W, W = ((w.alloc (.cells #[.slice h.A L.length h.c] 32)).alloc (.cells #[.slice k.h.A0 o.st.f0.length k.h.c0, .slice k.h.A1 o.st.f1.length k.h.c1, .slice k.h.A2 o.st.f2.length k.h.c2, .slice k.h.A3 o.st.f3.length k.h.c3, .slice k.h.A4 o.st.f4.length k.h.c4, .slice k.n.A o.n.length k.n.c, .slice k.v.A o.v.length k.v.c, .slice k.l.A o.l.length k.l.c, .slice k.k.A o.k.length k.k.c, .slice k.f.A o.f.length k.f.c] 53)).alloc (.cells #[.slice none 0 0, .slice none 0 0, .slice none 0 0] 60) := ⟨_, rfl⟩
  have bW : Below w.heap.size w W := by rw [hW]; go_grown
  have sW : W.heap.size = w.heap.size + 1 + 1 + 1 := by rw [hW]; simp
  have k0 : Bk W w.heap.size 32 #[.slice h.A L.length h.c] := by rw [hW]; exact ((Bk.new w _ _).alloc _).alloc _
  have k1 : Bk W (w.heap.size + 1) 53 #[.slice k.h.A0 o.st.f0.length k.h.c0, .slice k.h.A1 o.st.f1.length k.h.c1, .slice k.h.A2 o.st.f2.length k.h.c2, .slice k.h.A3 o.st.f3.length k.h.c3, .slice k.h.A4 o.st.f4.length k.h.c4, .slice k.n.A o.n.length k.n.c, .slice k.v.A o.v.length k.v.c, .slice k.l.A o.l.length k.l.c, .slice k.k.A o.k.length k.k.c, .slice k.f.A o.f.length k.f.c] := by
    rw [hW]; have := (Bk.new (w.alloc (.cells #[.slice h.A L.length h.c] 32)) #[.slice k.h.A0 o.st.f0.length k.h.c0, .slice k.h.A1 o.st.f1.length k.h.c1, .slice k.h.A2 o.st.f2.length k.h.c2, .slice k.h.A3 o.st.f3.length k.h.c3, .slice k.h.A4 o.st.f4.length k.h.c4, .slice k.n.A o.n.length k.n.c, .slice k.v.A o.v.length k.v.c, .slice k.l.A o.l.length k.l.c, .slice k.k.A o.k.length k.k.c, .slice k.f.A o.f.length k.f.c] 53).alloc (.cells #[.slice none 0 0, .slice none 0 0, .slice none 0 0] 60)
    rwa [World.size_alloc] at this
  have k2 : Bk W (w.heap.size + 1 + 1) 60 #[.slice none 0 0, .slice none 0 0, .slice none 0 0] := by
    rw [hW]; have := Bk.new ((w.alloc (.cells #[.slice h.A L.length h.c] 32)).alloc (.cells #[.slice k.h.A0 o.st.f0.length k.h.c0, .slice k.h.A1 o.st.f1.length k.h.c1, .slice k.h.A2 o.st.f2.length k.h.c2, .slice k.h.A3 o.st.f3.length k.h.c3, .slice k.h.A4 o.st.f4.length k.h.c4, .slice k.n.A o.n.length k.n.c, .slice k.v.A o.v.length k.v.c, .slice k.l.A o.l.length k.l.c, .slice k.k.A o.k.length k.k.c, .slice k.f.A o.f.length k.f.c] 53)) #[.slice none 0 0, .slice none 0 0, .slice none 0 0] 60
    rwa [World.size_alloc, World.size_alloc] at this
  have P0 := Lib.hid (hP.below bW hB)
  have Q0 := Lib.hid (hS.below bW hB)
  have K0 := Lib.hid k0
  have K1 := Lib.hid k1
  have K2 := Lib.hid k2
  have BW := Lib.hid bW
  have sWa := Nat.le_of_eq sW
  have sWb := Nat.le_of_eq sW.symm
  have HW := Lib.hid hW
  clear k0 k1 k2 bW sW hW hP hS
  rcases Bool.eq_false_or_eq_true (vwB L o) with hc | hc
  rotate_left
  · have hE : vwoE L o = OcE := by unfold vwoE; rw [hc]; rfl
    rw [hE, hc]
    have HC := Lib.hid hc
    clear hE hc
    go_enter Try.func26, Try.ntmps26
    go_wp2_with fail
    rw [← HW.out]
    refine (iviewok_any h L k o W B P0.out Q0.out (by omega) SP LS false HC).mono ?_
    rintro e w1 ⟨rfl, hb1⟩
    have B1 := Lib.hid (below_on BW.out hb1)
    have z1 := hb1.size
    have K01 := Lib.hid (K0.out.below hb1 K0.out.lt)
    have K11 := Lib.hid (K1.out.below hb1 K1.out.lt)
    have K21 := Lib.hid (K2.out.below hb1 K2.out.lt)
    have P1 := Lib.hid (P0.out.below hb1 (by omega))
    have Q1 := Lib.hid (Q0.out.below hb1 (by omega))
    clear hb1
    have cr0 : w1.cell? ⟨w.heap.size + 1 + 1, 0, none⟩ = some (.slice none 0 0) := K21.out.cell 0
    have fr0 : w1.frozen? ⟨w.heap.size + 1 + 1, 0, none⟩ = false := K21.out.free 0
    have cr1 : w1.cell? ⟨w.heap.size + 1 + 1, 1, none⟩ = some (.slice none 0 0) := K21.out.cell 1
    have fr1 : w1.frozen? ⟨w.heap.size + 1 + 1, 1, none⟩ = false := K21.out.free 1
    have cr2 : w1.cell? ⟨w.heap.size + 1 + 1, 2, none⟩ = some (.slice none 0 0) := K21.out.cell 2
    have fr2 : w1.frozen? ⟨w.heap.size + 1 + 1, 2, none⟩ = false := K21.out.free 2
    go_wp2
    clear cr0 fr0 cr1 fr1 cr2 fr2
    have kF : Bk (((w1.setCell ⟨w.heap.size + 1 + 1, 0, none⟩ (.slice none 0 0)).setCell ⟨w.heap.size + 1 + 1, 1, none⟩ (.slice none 0 0)).setCell ⟨w.heap.size + 1 + 1, 2, none⟩ (.slice none 0 0)) (w.heap.size + 1 + 1) 60 #[.slice none 0 0, .slice none 0 0, .slice none 0 0] := by
      have a0 := K21.out
      have a1 := a0.set 0 (.slice none 0 0)
      have a2 := a1.set 1 (.slice none 0 0)
      have a3 := a2.set 2 (.slice none 0 0)
      simpa using a3
    have bF : Below w.heap.size w (((w1.setCell ⟨w.heap.size + 1 + 1, 0, none⟩ (.slice none 0 0)).setCell ⟨w.heap.size + 1 + 1, 1, none⟩ (.slice none 0 0)).setCell ⟨w.heap.size + 1 + 1, 2, none⟩ (.slice none 0 0)) := (((B1.out.setCell (p := ⟨w.heap.size + 1 + 1, 0, none⟩) (show w.heap.size ≤ w.heap.size + 1 + 1 by omega) _).setCell (p := ⟨w.heap.size + 1 + 1, 1, none⟩) (show w.heap.size ≤ w.heap.size + 1 + 1 by omega) _).setCell (p := ⟨w.heap.size + 1 + 1, 2, none⟩) (show w.heap.size ≤ w.heap.size + 1 + 1 by omega) _)
    have nF : ∀ q, w.heap.size + 1 + 1 < q → (((w1.setCell ⟨w.heap.size + 1 + 1, 0, none⟩ (.slice none 0 0)).setCell ⟨w.heap.size + 1 + 1, 1, none⟩ (.slice none 0 0)).setCell ⟨w.heap.size + 1 + 1, 2, none⟩ (.slice none 0 0)).heap[q]? = w1.heap[q]? := fun q hq => (Below.heap_setCell _ _ _ q (by show q ≠ w.heap.size + 1 + 1; omega)).trans ((Below.heap_setCell _ _ _ q (by show q ≠ w.heap.size + 1 + 1; omega)).trans (Below.heap_setCell _ _ _ q (by show q ≠ w.heap.size + 1 + 1; omega)))
    have zF : w1.heap.size ≤ (((w1.setCell ⟨w.heap.size + 1 + 1, 0, none⟩ (.slice none 0 0)).setCell ⟨w.heap.size + 1 + 1, 1, none⟩ (.slice none 0 0)).setCell ⟨w.heap.size + 1 + 1, 2, none⟩ (.slice none 0 0)).heap.size := by simp
    have HF := Lib.hid kF
    have BF := Lib.hid bF
    have NF := Lib.hid nF
    obtain ⟨F, hF⟩ : ∃ F, F = (((w1.setCell ⟨w.heap.size + 1 + 1, 0, none⟩ (.slice none 0 0)).setCell ⟨w.heap.size + 1 + 1, 1, none⟩ (.slice none 0 0)).setCell ⟨w.heap.size + 1 + 1, 2, none⟩ (.slice none 0 0)) := ⟨_, rfl⟩
    rw [← hF] at HF BF NF zF
    rw [← hF]
    clear kF bF nF hF
    have c0 := HF.out.cell 0
    have c1 := HF.out.cell 1
    have c2 := HF.out.cell 2
    simp only [List.getElem?_toArray, List.getElem?_cons_zero, List.getElem?_cons_succ] at c0 c1 c2
    refine bodyPost_ret (v := .tuple #[.agg #[.slice none 0 0, .slice none 0 0, .slice none 0 0], .bool false]) (by simp [results, Try.results26, c0, c1, c2, go_sem]) rfl ?_
    exact ⟨OcN, rfl, BF.out, by omega, OcO.none_ _ _ _ _⟩
  have hE : vwoE L o = ocF L (lwF (sgF L o) 3) := by unfold vwoE; rw [hc]; rfl
  have H := vwB_parts hc
  have P := H.st
  have p31 := P.n1
  have h32 := P.n3
  rw [hE, hc, ← ocG_out L (lwF (sgF L o) 3) h32]
  have HC := Lib.hid hc
  have HH := Lib.hid H
  have HP := Lib.hid P
  have HGD := Lib.hid (lw_good H)
  have HO := Lib.hid (outF_ok (lw_good H).ok h32 L.length h32)
  have HNE := Lib.hid (show ∀ p, p < 3 → 1 ≤ ((sgF L o).S p).length from fun p hp => by
    show 1 ≤ ((o.n.getD p []).map ntF).length
    rw [List.length_map]
    have hl : p < o.n.length := by rw [H.ns.n3]; exact hp
    have hm : o.n.getD p [] ∈ o.n := by
      have e : o.n.getD p [] = o.n[p] := by simp [List.getD, hl]
      rw [e]; exact List.getElem_mem hl
    exact (H.np.l _ hm).1)
  clear hE hc P H
  go_enter Try.func26, Try.ntmps26
  go_wp2_with fail
  rw [← HW.out]
  refine (iviewok_any h L k o W B P0.out Q0.out (by omega) SP LS true HC).mono ?_
  rintro e w1 ⟨rfl, hb1⟩
  have B1 := Lib.hid (below_on BW.out hb1)
  have z1 := hb1.size
  have K01 := Lib.hid (K0.out.below hb1 K0.out.lt)
  have K11 := Lib.hid (K1.out.below hb1 K1.out.lt)
  have K21 := Lib.hid (K2.out.below hb1 K2.out.lt)
  have P1 := Lib.hid (P0.out.below hb1 (by omega))
  have Q1 := Lib.hid (Q0.out.below hb1 (by omega))
  clear hb1
  have allS : ∀ w', Below w1.heap.size w1 w' → (w'.cell? ⟨w.heap.size, 0, none⟩ = some (.slice h.A L.length h.c) ∧ w'.cell? ⟨w.heap.size + 1, 0, none⟩ = some (.slice k.h.A0 o.st.f0.length k.h.c0) ∧ w'.cell? ⟨w.heap.size + 1, 1, none⟩ = some (.slice k.h.A1 o.st.f1.length k.h.c1) ∧ w'.cell? ⟨w.heap.size + 1, 2, none⟩ = some (.slice k.h.A2 o.st.f2.length k.h.c2) ∧ w'.cell? ⟨w.heap.size + 1, 3, none⟩ = some (.slice k.h.A3 o.st.f3.length k.h.c3) ∧ w'.cell? ⟨w.heap.size + 1, 4, none⟩ = some (.slice k.h.A4 o.st.f4.length k.h.c4) ∧ w'.cell? ⟨w.heap.size + 1, 5, none⟩ = some (.slice k.n.A o.n.length k.n.c) ∧ w'.cell? ⟨w.heap.size + 1, 6, none⟩ = some (.slice k.v.A o.v.length k.v.c) ∧ w'.cell? ⟨w.heap.size + 1, 7, none⟩ = some (.slice k.l.A o.l.length k.l.c) ∧ w'.cell? ⟨w.heap.size + 1, 8, none⟩ = some (.slice k.k.A o.k.length k.k.c) ∧ w'.cell? ⟨w.heap.size + 1, 9, none⟩ = some (.slice k.f.A o.f.length k.f.c)) := fun w' hb => ⟨box_at (K01.out.below hb K01.out.lt), (K11.out.below hb K11.out.lt).cell 0, (K11.out.below hb K11.out.lt).cell 1, (K11.out.below hb K11.out.lt).cell 2, (K11.out.below hb K11.out.lt).cell 3, (K11.out.below hb K11.out.lt).cell 4, (K11.out.below hb K11.out.lt).cell 5, (K11.out.below hb K11.out.lt).cell 6, (K11.out.below hb K11.out.lt).cell 7, (K11.out.below hb K11.out.lt).cell 8, (K11.out.below hb K11.out.lt).cell 9⟩
  have AllS := Lib.hid allS
  clear allS
  go_wp2_with fail
  go_region_held3 (fun w' => w'.cell? ⟨w.heap.size, 0, none⟩ = some (.slice h.A L.length h.c) ∧ w'.cell? ⟨w.heap.size + 1, 0, none⟩ = some (.slice k.h.A0 o.st.f0.length k.h.c0) ∧ w'.cell? ⟨w.heap.size + 1, 1, none⟩ = some (.slice k.h.A1 o.st.f1.length k.h.c1) ∧ w'.cell? ⟨w.heap.size + 1, 2, none⟩ = some (.slice k.h.A2 o.st.f2.length k.h.c2) ∧ w'.cell? ⟨w.heap.size + 1, 3, none⟩ = some (.slice k.h.A3 o.st.f3.length k.h.c3) ∧ w'.cell? ⟨w.heap.size + 1, 4, none⟩ = some (.slice k.h.A4 o.st.f4.length k.h.c4) ∧ w'.cell? ⟨w.heap.size + 1, 5, none⟩ = some (.slice k.n.A o.n.length k.n.c) ∧ w'.cell? ⟨w.heap.size + 1, 6, none⟩ = some (.slice k.v.A o.v.length k.v.c) ∧ w'.cell? ⟨w.heap.size + 1, 7, none⟩ = some (.slice k.l.A o.l.length k.l.c) ∧ w'.cell? ⟨w.heap.size + 1, 8, none⟩ = some (.slice k.k.A o.k.length k.k.c) ∧ w'.cell? ⟨w.heap.size + 1, 9, none⟩ = some (.slice k.f.A o.f.length k.f.c)) (first | (with_reducible exact Fin.out) | (go_split_ands; refine AllS.out _ ?_; go_grown; done) | (refine AllS.out _ ?_; go_grown; done)) (first | (go_at_call 54; go_split_ands; refine (packv_any h L k o _ B (P1.out.below (show Below w1.heap.size w1 _ from by go_grown) (by omega)) (Q1.out.below (show Below w1.heap.size w1 _ from by go_grown) (by omega)) (Nat.le_trans (show B ≤ w1.heap.size by omega) (show Below w1.heap.size w1 _ from by go_grown).size) HP.out HH.out.np).mono ?_; rintro e v0 ⟨hg, rfl, hv, hs⟩; have S0 := Lib.hid hs; have hBv0 : Below w1.heap.size w1 v0 := below_on (by go_grown) hv; clear hv hs) | (go_at_call 64; go_split_ands; refine (lastword_any hg (sgF L o) _ v0.heap.size (S0.out.below (show Below v0.heap.size v0 _ from by go_grown) (Nat.le_refl _)) (show Below v0.heap.size v0 _ from by go_grown).size (sgF_ok HH.out) HNE.out).mono ?_; rintro e v9 ⟨rfl, hv⟩; have hBv9 : Below w1.heap.size w1 v9 := below_on (by go_grown) hv; clear hv) | (go_at_call 63; go_split_ands; refine (outword_any h L (lwF (sgF L o) 3) _ B (P1.out.below (show Below w1.heap.size w1 _ from by go_grown) (by omega)) (Nat.le_trans (show B ≤ w1.heap.size by omega) (show Below w1.heap.size w1 _ from by go_grown).size) HP.out.prog HGD.out).mono ?_; rintro e v1 ⟨rfl, hv⟩; have hBv1 : Below w1.heap.size w1 v1 := below_on (by go_grown) hv; clear hv) | (go_at_call 62; go_split_ands; refine (unpout_any h L _ _ h32 HO.out).mono ?_; rintro e v2 ⟨hu, rfl, hv, hlt, ov⟩; have Ov := Lib.hid ov; have hBv2 : Below w1.heap.size w1 v2 := below_on (by go_grown) hv; have hz2 := hv.size; have hz1v := hBv1.size; have cr0 : v2.cell? ⟨w.heap.size + 1 + 1, 0, none⟩ = some (.slice none 0 0) := (K21.out.below hBv2 K21.out.lt).cell 0; have fr0 : v2.frozen? ⟨w.heap.size + 1 + 1, 0, none⟩ = false := (K21.out.below hBv2 K21.out.lt).free 0; have cr1 : v2.cell? ⟨w.heap.size + 1 + 1, 1, none⟩ = some (.slice none 0 0) := (K21.out.below hBv2 K21.out.lt).cell 1; have fr1 : v2.frozen? ⟨w.heap.size + 1 + 1, 1, none⟩ = false := (K21.out.below hBv2 K21.out.lt).free 1; have cr2 : v2.cell? ⟨w.heap.size + 1 + 1, 2, none⟩ = some (.slice none 0 0) := (K21.out.below hBv2 K21.out.lt).cell 2; have fr2 : v2.frozen? ⟨w.heap.size + 1 + 1, 2, none⟩ = false := (K21.out.below hBv2 K21.out.lt).free 2; have fin : (((v2.setCell ⟨w.heap.size + 1 + 1, 0, none⟩ (.slice hu.A0 (ocG L (outF L (lwF (sgF L o) 3) L.length)).f0.length hu.c0)).setCell ⟨w.heap.size + 1 + 1, 1, none⟩ (.slice hu.A1 (ocG L (outF L (lwF (sgF L o) 3) L.length)).f1.length hu.c1)).setCell ⟨w.heap.size + 1 + 1, 2, none⟩ (.slice hu.A2 (ocG L (outF L (lwF (sgF L o) 3) L.length)).f2.length hu.c2)).cell? ⟨w.heap.size, 0, none⟩ = some (.slice h.A L.length h.c) ∧ (((v2.setCell ⟨w.heap.size + 1 + 1, 0, none⟩ (.slice hu.A0 (ocG L (outF L (lwF (sgF L o) 3) L.length)).f0.length hu.c0)).setCell ⟨w.heap.size + 1 + 1, 1, none⟩ (.slice hu.A1 (ocG L (outF L (lwF (sgF L o) 3) L.length)).f1.length hu.c1)).setCell ⟨w.heap.size + 1 + 1, 2, none⟩ (.slice hu.A2 (ocG L (outF L (lwF (sgF L o) 3) L.length)).f2.length hu.c2)).cell? ⟨w.heap.size + 1, 0, none⟩ = some (.slice k.h.A0 o.st.f0.length k.h.c0) ∧ (((v2.setCell ⟨w.heap.size + 1 + 1, 0, none⟩ (.slice hu.A0 (ocG L (outF L (lwF (sgF L o) 3) L.length)).f0.length hu.c0)).setCell ⟨w.heap.size + 1 + 1, 1, none⟩ (.slice hu.A1 (ocG L (outF L (lwF (sgF L o) 3) L.length)).f1.length hu.c1)).setCell ⟨w.heap.size + 1 + 1, 2, none⟩ (.slice hu.A2 (ocG L (outF L (lwF (sgF L o) 3) L.length)).f2.length hu.c2)).cell? ⟨w.heap.size + 1, 1, none⟩ = some (.slice k.h.A1 o.st.f1.length k.h.c1) ∧ (((v2.setCell ⟨w.heap.size + 1 + 1, 0, none⟩ (.slice hu.A0 (ocG L (outF L (lwF (sgF L o) 3) L.length)).f0.length hu.c0)).setCell ⟨w.heap.size + 1 + 1, 1, none⟩ (.slice hu.A1 (ocG L (outF L (lwF (sgF L o) 3) L.length)).f1.length hu.c1)).setCell ⟨w.heap.size + 1 + 1, 2, none⟩ (.slice hu.A2 (ocG L (outF L (lwF (sgF L o) 3) L.length)).f2.length hu.c2)).cell? ⟨w.heap.size + 1, 2, none⟩ = some (.slice k.h.A2 o.st.f2.length k.h.c2) ∧ (((v2.setCell ⟨w.heap.size + 1 + 1, 0, none⟩ (.slice hu.A0 (ocG L (outF L (lwF (sgF L o) 3) L.length)).f0.length hu.c0)).setCell ⟨w.heap.size + 1 + 1, 1, none⟩ (.slice hu.A1 (ocG L (outF L (lwF (sgF L o) 3) L.length)).f1.length hu.c1)).setCell ⟨w.heap.size + 1 + 1, 2, none⟩ (.slice hu.A2 (ocG L (outF L (lwF (sgF L o) 3) L.length)).f2.length hu.c2)).cell? ⟨w.heap.size + 1, 3, none⟩ = some (.slice k.h.A3 o.st.f3.length k.h.c3) ∧ (((v2.setCell ⟨w.heap.size + 1 + 1, 0, none⟩ (.slice hu.A0 (ocG L (outF L (lwF (sgF L o) 3) L.length)).f0.length hu.c0)).setCell ⟨w.heap.size + 1 + 1, 1, none⟩ (.slice hu.A1 (ocG L (outF L (lwF (sgF L o) 3) L.length)).f1.length hu.c1)).setCell ⟨w.heap.size + 1 + 1, 2, none⟩ (.slice hu.A2 (ocG L (outF L (lwF (sgF L o) 3) L.length)).f2.length hu.c2)).cell? ⟨w.heap.size + 1, 4, none⟩ = some (.slice k.h.A4 o.st.f4.length k.h.c4) ∧ (((v2.setCell ⟨w.heap.size + 1 + 1, 0, none⟩ (.slice hu.A0 (ocG L (outF L (lwF (sgF L o) 3) L.length)).f0.length hu.c0)).setCell ⟨w.heap.size + 1 + 1, 1, none⟩ (.slice hu.A1 (ocG L (outF L (lwF (sgF L o) 3) L.length)).f1.length hu.c1)).setCell ⟨w.heap.size + 1 + 1, 2, none⟩ (.slice hu.A2 (ocG L (outF L (lwF (sgF L o) 3) L.length)).f2.length hu.c2)).cell? ⟨w.heap.size + 1, 5, none⟩ = some (.slice k.n.A o.n.length k.n.c) ∧ (((v2.setCell ⟨w.heap.size + 1 + 1, 0, none⟩ (.slice hu.A0 (ocG L (outF L (lwF (sgF L o) 3) L.length)).f0.length hu.c0)).setCell ⟨w.heap.size + 1 + 1, 1, none⟩ (.slice hu.A1 (ocG L (outF L (lwF (sgF L o) 3) L.length)).f1.length hu.c1)).setCell ⟨w.heap.size + 1 + 1, 2, none⟩ (.slice hu.A2 (ocG L (outF L (lwF (sgF L o) 3) L.length)).f2.length hu.c2)).cell? ⟨w.heap.size + 1, 6, none⟩ = some (.slice k.v.A o.v.length k.v.c) ∧ (((v2.setCell ⟨w.heap.size + 1 + 1, 0, none⟩ (.slice hu.A0 (ocG L (outF L (lwF (sgF L o) 3) L.length)).f0.length hu.c0)).setCell ⟨w.heap.size + 1 + 1, 1, none⟩ (.slice hu.A1 (ocG L (outF L (lwF (sgF L o) 3) L.length)).f1.length hu.c1)).setCell ⟨w.heap.size + 1 + 1, 2, none⟩ (.slice hu.A2 (ocG L (outF L (lwF (sgF L o) 3) L.length)).f2.length hu.c2)).cell? ⟨w.heap.size + 1, 7, none⟩ = some (.slice k.l.A o.l.length k.l.c) ∧ (((v2.setCell ⟨w.heap.size + 1 + 1, 0, none⟩ (.slice hu.A0 (ocG L (outF L (lwF (sgF L o) 3) L.length)).f0.length hu.c0)).setCell ⟨w.heap.size + 1 + 1, 1, none⟩ (.slice hu.A1 (ocG L (outF L (lwF (sgF L o) 3) L.length)).f1.length hu.c1)).setCell ⟨w.heap.size + 1 + 1, 2, none⟩ (.slice hu.A2 (ocG L (outF L (lwF (sgF L o) 3) L.length)).f2.length hu.c2)).cell? ⟨w.heap.size + 1, 8, none⟩ = some (.slice k.k.A o.k.length k.k.c) ∧ (((v2.setCell ⟨w.heap.size + 1 + 1, 0, none⟩ (.slice hu.A0 (ocG L (outF L (lwF (sgF L o) 3) L.length)).f0.length hu.c0)).setCell ⟨w.heap.size + 1 + 1, 1, none⟩ (.slice hu.A1 (ocG L (outF L (lwF (sgF L o) 3) L.length)).f1.length hu.c1)).setCell ⟨w.heap.size + 1 + 1, 2, none⟩ (.slice hu.A2 (ocG L (outF L (lwF (sgF L o) 3) L.length)).f2.length hu.c2)).cell? ⟨w.heap.size + 1, 9, none⟩ = some (.slice k.f.A o.f.length k.f.c) := ⟨((((K01.out.below hBv2 K01.out.lt).far (p := ⟨w.heap.size + 1 + 1, 0, none⟩) (show w.heap.size ≠ w.heap.size + 1 + 1 by omega) _).far (p := ⟨w.heap.size + 1 + 1, 1, none⟩) (show w.heap.size ≠ w.heap.size + 1 + 1 by omega) _).far (p := ⟨w.heap.size + 1 + 1, 2, none⟩) (show w.heap.size ≠ w.heap.size + 1 + 1 by omega) _).cell 0, ((((K11.out.below hBv2 K11.out.lt).far (p := ⟨w.heap.size + 1 + 1, 0, none⟩) (show w.heap.size + 1 ≠ w.heap.size + 1 + 1 by omega) _).far (p := ⟨w.heap.size + 1 + 1, 1, none⟩) (show w.heap.size + 1 ≠ w.heap.size + 1 + 1 by omega) _).far (p := ⟨w.heap.size + 1 + 1, 2, none⟩) (show w.heap.size + 1 ≠ w.heap.size + 1 + 1 by omega) _).cell 0, ((((K11.out.below hBv2 K11.out.lt).far (p := ⟨w.heap.size + 1 + 1, 0, none⟩) (show w.heap.size + 1 ≠ w.heap.size + 1 + 1 by omega) _).far (p := ⟨w.heap.size + 1 + 1, 1, none⟩) (show w.heap.size + 1 ≠ w.heap.size + 1 + 1 by omega) _).far (p := ⟨w.heap.size + 1 + 1, 2, none⟩) (show w.heap.size + 1 ≠ w.heap.size + 1 + 1 by omega) _).cell 1, ((((K11.out.below hBv2 K11.out.lt).far (p := ⟨w.heap.size + 1 + 1, 0, none⟩) (show w.heap.size + 1 ≠ w.heap.size + 1 + 1 by omega) _).far (p := ⟨w.heap.size + 1 + 1, 1, none⟩) (show w.heap.size + 1 ≠ w.heap.size + 1 + 1 by omega) _).far (p := ⟨w.heap.size + 1 + 1, 2, none⟩) (show w.heap.size + 1 ≠ w.heap.size + 1 + 1 by omega) _).cell 2, ((((K11.out.below hBv2 K11.out.lt).far (p := ⟨w.heap.size + 1 + 1, 0, none⟩) (show w.heap.size + 1 ≠ w.heap.size + 1 + 1 by omega) _).far (p := ⟨w.heap.size + 1 + 1, 1, none⟩) (show w.heap.size + 1 ≠ w.heap.size + 1 + 1 by omega) _).far (p := ⟨w.heap.size + 1 + 1, 2, none⟩) (show w.heap.size + 1 ≠ w.heap.size + 1 + 1 by omega) _).cell 3, ((((K11.out.below hBv2 K11.out.lt).far (p := ⟨w.heap.size + 1 + 1, 0, none⟩) (show w.heap.size + 1 ≠ w.heap.size + 1 + 1 by omega) _).far (p := ⟨w.heap.size + 1 + 1, 1, none⟩) (show w.heap.size + 1 ≠ w.heap.size + 1 + 1 by omega) _).far (p := ⟨w.heap.size + 1 + 1, 2, none⟩) (show w.heap.size + 1 ≠ w.heap.size + 1 + 1 by omega) _).cell 4, ((((K11.out.below hBv2 K11.out.lt).far (p := ⟨w.heap.size + 1 + 1, 0, none⟩) (show w.heap.size + 1 ≠ w.heap.size + 1 + 1 by omega) _).far (p := ⟨w.heap.size + 1 + 1, 1, none⟩) (show w.heap.size + 1 ≠ w.heap.size + 1 + 1 by omega) _).far (p := ⟨w.heap.size + 1 + 1, 2, none⟩) (show w.heap.size + 1 ≠ w.heap.size + 1 + 1 by omega) _).cell 5, ((((K11.out.below hBv2 K11.out.lt).far (p := ⟨w.heap.size + 1 + 1, 0, none⟩) (show w.heap.size + 1 ≠ w.heap.size + 1 + 1 by omega) _).far (p := ⟨w.heap.size + 1 + 1, 1, none⟩) (show w.heap.size + 1 ≠ w.heap.size + 1 + 1 by omega) _).far (p := ⟨w.heap.size + 1 + 1, 2, none⟩) (show w.heap.size + 1 ≠ w.heap.size + 1 + 1 by omega) _).cell 6, ((((K11.out.below hBv2 K11.out.lt).far (p := ⟨w.heap.size + 1 + 1, 0, none⟩) (show w.heap.size + 1 ≠ w.heap.size + 1 + 1 by omega) _).far (p := ⟨w.heap.size + 1 + 1, 1, none⟩) (show w.heap.size + 1 ≠ w.heap.size + 1 + 1 by omega) _).far (p := ⟨w.heap.size + 1 + 1, 2, none⟩) (show w.heap.size + 1 ≠ w.heap.size + 1 + 1 by omega) _).cell 7, ((((K11.out.below hBv2 K11.out.lt).far (p := ⟨w.heap.size + 1 + 1, 0, none⟩) (show w.heap.size + 1 ≠ w.heap.size + 1 + 1 by omega) _).far (p := ⟨w.heap.size + 1 + 1, 1, none⟩) (show w.heap.size + 1 ≠ w.heap.size + 1 + 1 by omega) _).far (p := ⟨w.heap.size + 1 + 1, 2, none⟩) (show w.heap.size + 1 ≠ w.heap.size + 1 + 1 by omega) _).cell 8, ((((K11.out.below hBv2 K11.out.lt).far (p := ⟨w.heap.size + 1 + 1, 0, none⟩) (show w.heap.size + 1 ≠ w.heap.size + 1 + 1 by omega) _).far (p := ⟨w.heap.size + 1 + 1, 1, none⟩) (show w.heap.size + 1 ≠ w.heap.size + 1 + 1 by omega) _).far (p := ⟨w.heap.size + 1 + 1, 2, none⟩) (show w.heap.size + 1 ≠ w.heap.size + 1 + 1 by omega) _).cell 9⟩; have Fin := Lib.hid fin; clear fin; clear hv hlt ov))
  clear Fin AllS
  clear cr0 fr0 cr1 fr1 cr2 fr2
  have kF : Bk (((v2.setCell ⟨w.heap.size + 1 + 1, 0, none⟩ (.slice hu.A0 (ocG L (outF L (lwF (sgF L o) 3) L.length)).f0.length hu.c0)).setCell ⟨w.heap.size + 1 + 1, 1, none⟩ (.slice hu.A1 (ocG L (outF L (lwF (sgF L o) 3) L.length)).f1.length hu.c1)).setCell ⟨w.heap.size + 1 + 1, 2, none⟩ (.slice hu.A2 (ocG L (outF L (lwF (sgF L o) 3) L.length)).f2.length hu.c2)) (w.heap.size + 1 + 1) 60 #[.slice hu.A0 (ocG L (outF L (lwF (sgF L o) 3) L.length)).f0.length hu.c0, .slice hu.A1 (ocG L (outF L (lwF (sgF L o) 3) L.length)).f1.length hu.c1, .slice hu.A2 (ocG L (outF L (lwF (sgF L o) 3) L.length)).f2.length hu.c2] := by
    have a0 := (K21.out.below hBv2 K21.out.lt)
    have a1 := a0.set 0 (.slice hu.A0 (ocG L (outF L (lwF (sgF L o) 3) L.length)).f0.length hu.c0)
    have a2 := a1.set 1 (.slice hu.A1 (ocG L (outF L (lwF (sgF L o) 3) L.length)).f1.length hu.c1)
    have a3 := a2.set 2 (.slice hu.A2 (ocG L (outF L (lwF (sgF L o) 3) L.length)).f2.length hu.c2)
    simpa using a3
  have bF : Below w.heap.size w (((v2.setCell ⟨w.heap.size + 1 + 1, 0, none⟩ (.slice hu.A0 (ocG L (outF L (lwF (sgF L o) 3) L.length)).f0.length hu.c0)).setCell ⟨w.heap.size + 1 + 1, 1, none⟩ (.slice hu.A1 (ocG L (outF L (lwF (sgF L o) 3) L.length)).f1.length hu.c1)).setCell ⟨w.heap.size + 1 + 1, 2, none⟩ (.slice hu.A2 (ocG L (outF L (lwF (sgF L o) 3) L.length)).f2.length hu.c2)) := ((((B1.out.trans (hBv2.mono (by omega))).setCell (p := ⟨w.heap.size + 1 + 1, 0, none⟩) (show w.heap.size ≤ w.heap.size + 1 + 1 by omega) _).setCell (p := ⟨w.heap.size + 1 + 1, 1, none⟩) (show w.heap.size ≤ w.heap.size + 1 + 1 by omega) _).setCell (p := ⟨w.heap.size + 1 + 1, 2, none⟩) (show w.heap.size ≤ w.heap.size + 1 + 1 by omega) _)
  have nF : ∀ q, w.heap.size + 1 + 1 < q → (((v2.setCell ⟨w.heap.size + 1 + 1, 0, none⟩ (.slice hu.A0 (ocG L (outF L (lwF (sgF L o) 3) L.length)).f0.length hu.c0)).setCell ⟨w.heap.size + 1 + 1, 1, none⟩ (.slice hu.A1 (ocG L (outF L (lwF (sgF L o) 3) L.length)).f1.length hu.c1)).setCell ⟨w.heap.size + 1 + 1, 2, none⟩ (.slice hu.A2 (ocG L (outF L (lwF (sgF L o) 3) L.length)).f2.length hu.c2)).heap[q]? = v2.heap[q]? := fun q hq => (Below.heap_setCell _ _ _ q (by show q ≠ w.heap.size + 1 + 1; omega)).trans ((Below.heap_setCell _ _ _ q (by show q ≠ w.heap.size + 1 + 1; omega)).trans (Below.heap_setCell _ _ _ q (by show q ≠ w.heap.size + 1 + 1; omega)))
  have zF : v2.heap.size ≤ (((v2.setCell ⟨w.heap.size + 1 + 1, 0, none⟩ (.slice hu.A0 (ocG L (outF L (lwF (sgF L o) 3) L.length)).f0.length hu.c0)).setCell ⟨w.heap.size + 1 + 1, 1, none⟩ (.slice hu.A1 (ocG L (outF L (lwF (sgF L o) 3) L.length)).f1.length hu.c1)).setCell ⟨w.heap.size + 1 + 1, 2, none⟩ (.slice hu.A2 (ocG L (outF L (lwF (sgF L o) 3) L.length)).f2.length hu.c2)).heap.size := by simp
  have HF := Lib.hid kF
  have BF := Lib.hid bF
  have NF := Lib.hid nF
  obtain ⟨F, hF⟩ : ∃ F, F = (((v2.setCell ⟨w.heap.size + 1 + 1, 0, none⟩ (.slice hu.A0 (ocG L (outF L (lwF (sgF L o) 3) L.length)).f0.length hu.c0)).setCell ⟨w.heap.size + 1 + 1, 1, none⟩ (.slice hu.A1 (ocG L (outF L (lwF (sgF L o) 3) L.length)).f1.length hu.c1)).setCell ⟨w.heap.size + 1 + 1, 2, none⟩ (.slice hu.A2 (ocG L (outF L (lwF (sgF L o) 3) L.length)).f2.length hu.c2)) := ⟨_, rfl⟩
  rw [← hF] at HF BF NF zF
  rw [← hF]
  clear kF bF nF hF
  have c0 := HF.out.cell 0
  have c1 := HF.out.cell 1
  have c2 := HF.out.cell 2
  simp only [List.getElem?_toArray, List.getElem?_cons_zero, List.getElem?_cons_succ] at c0 c1 c2
  go_wp2
  refine bodyPost_ret (v := .tuple #[.agg #[.slice hu.A0 (ocG L (outF L (lwF (sgF L o) 3) L.length)).f0.length hu.c0, .slice hu.A1 (ocG L (outF L (lwF (sgF L o) 3) L.length)).f1.length hu.c1, .slice hu.A2 (ocG L (outF L (lwF (sgF L o) 3) L.length)).f2.length hu.c2], .bool true]) (by simp [results, Try.results26, c0, c1, c2, go_sem]) rfl ?_
  exact ⟨hu, rfl, BF.out, by omega, Ov.out.keep (by omega) zF fun q h1 h2 => NF.out q (by omega)⟩
end Go.Proofs.Ytaghidaamcnpkab
