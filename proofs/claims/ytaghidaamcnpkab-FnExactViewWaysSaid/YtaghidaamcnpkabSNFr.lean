/-
  The reference's l9Free: whether nothing at a place stands glued at an index.
-/
import Derived.Test.YtaghidaamcnpkabNWay
import Derived.Test.YtaghidaamcnpkabNPkP
import Derived.Test.YtaghidaamcnpkabICan
import Derived.Test.YtaghidaamcnpkabSCan
import Derived.Test.YtaghidaamcnpkabVwd
import Derived.Deep.RegionHeld3
namespace Go.Proofs.Ytaghidaamcnpkab
open Go.RowKit Pl Go.BigFrame
set_option maxHeartbeats 4000000
set_option maxRecDepth 100000
set_option linter.unusedVariables false

/-- The next statement of a thread, and the row of the notes at a place, as words. -/
def nxS (L : Pg) (o : Vwd) (t : Nat) : Sm := smAt L t (o.st.f0.getD t 0).toNat
def wayR (o : Vwd) (p : Nat) : List (Nat → Nat) := (o.n.getD p []).map ntF
def wayP (o : Vwd) (c : Bool) (t p : Nat) : List Int := way9 (wayR o p) c ((o.v.getD t []).getD p 0).toNat ((wayR o p).length - ((o.v.getD t []).getD p 0).toNat)
def wayT (L : Pg) (o : Vwd) (t : Nat) : List Int :=
  if placeZ (nxS L o t).k (nxS L o t).a (nxS L o t).b (nxS L o t).c (nxS L o t).s = -1 then [0]
  else wayP o (writesB (nxS L o t).k (nxS L o t).a (nxS L o t).b (nxS L o t).c (nxS L o t).s) t (placeZ (nxS L o t).k (nxS L o t).a (nxS L o t).b (nxS L o t).c (nxS L o t).s).toNat
def wayE (L : Pg) (o : Vwd) (th : Int) : List Int :=
  if vwB L o && (inB th 0 ((L.length : Int) - 1) && nxZ L o.st th.toNat) then wayT L o th.toNat else []
theorem getD_in {α : Type} {xs : List α} {i : Nat} (d : α) (h : i < xs.length) : xs.getD i d = xs[i] := by simp [List.getD, h]
theorem getD_out {α : Type} {xs : List α} {i : Nat} (d : α) (h : xs.length ≤ i) : xs.getD i d = d := by simp [List.getD, h]
theorem at_getD {α : Type} {xs : List α} {i : Nat} (d : α) (h : i < xs.length) : xs[i]? = some (xs.getD i d) := by rw [getD_in d h]; exact List.getElem?_eq_getElem h
theorem mem_getD {α : Type} {xs : List α} {i : Nat} (d : α) (h : i < xs.length) : xs.getD i d ∈ xs := by rw [getD_in d h]; exact List.getElem_mem h
theorem place_in (k a b c : Int) (s : Bool) : placeZ k a b c s = -1 ∨ ∃ p : Nat, p < 3 ∧ placeZ k a b c s = (p : Int) := by
  obtain ⟨q, hq, -, -, -⟩ := way k a b c s
  rw [hq]
  by_cases h : q.val < 6
  · exact Or.inr ⟨q.val % 3, Nat.mod_lt _ (by decide), by unfold qP; rw [if_pos h]⟩
  · exact Or.inl (by unfold qP; rw [if_neg h])
theorem sgF_V {L : Pg} {o : Vwd} {t : Nat} (hl : o.v.length = L.length) (ht : t < L.length) (h3 : L.length ≤ 3) : (sgF L o).V t = vwF (o.v.getD t []) := by
  unfold sgF wvS
  simp only [Nat.zero_le, true_and, Nat.zero_add, Nat.sub_zero]
  rw [if_neg (by omega), if_neg (by omega), if_neg (by omega), if_pos (by omega)]
theorem wayE_len (L : Pg) (o : Vwd) (th : Int) : (wayE L o th).length ≤ 16 := by
  unfold wayE
  split
  · rename_i hc
    rw [Bool.and_eq_true] at hc
    have N := (vwB_parts hc.1).np
    unfold wayT
    split
    · simp
    · unfold wayP
      refine Nat.le_trans (way9_len _ _ _ _) (Nat.le_trans (Nat.sub_le _ _) ?_)
      unfold wayR
      rw [List.length_map]
      rcases Nat.lt_or_ge (placeZ (nxS L o th.toNat).k (nxS L o th.toNat).a (nxS L o th.toNat).b (nxS L o th.toNat).c (nxS L o th.toNat).s).toNat o.n.length with h | h
      · exact (N.l _ (mem_getD [] h)).2
      · rw [getD_out _ h]; simp
  · simp
theorem wayE_small {L : Pg} {o : Vwd} {th : Int} (_ : PgS L) (_ : VwdS o) : IlS (wayE L o th) := ⟨by have := wayE_len L o th; omega⟩
theorem iviewways_any (h : PgH) (L : Pg) (k : VwdH) (o : Vwd) (th : Int) (w : World) (B : Nat) (hP : PgR w B h L) (hS : VwdR w B k o) (hB : B ≤ w.heap.size) (SP : PgS L) (LS : VwdS o) :
    Calls Try.prog 21 #[PgV h L, VwdV k o, .int .i64 th] w (AnsIlW w (wayE L o th)) := by
  obtain ⟨W, hW⟩ : ∃ W, W = (w.alloc (.cells #[.slice h.A L.length h.c] 32)).alloc (.cells #[.slice k.h.A0 o.st.f0.length k.h.c0, .slice k.h.A1 o.st.f1.length k.h.c1, .slice k.h.A2 o.st.f2.length k.h.c2, .slice k.h.A3 o.st.f3.length k.h.c3, .slice k.h.A4 o.st.f4.length k.h.c4, .slice k.n.A o.n.length k.n.c, .slice k.v.A o.v.length k.v.c, .slice k.l.A o.l.length k.l.c, .slice k.k.A o.k.length k.k.c, .slice k.f.A o.f.length k.f.c] 53) := ⟨_, rfl⟩
  have bW : Below w.heap.size w W := by rw [hW]; go_grown
  have k0 : Bk W w.heap.size 32 #[.slice h.A L.length h.c] := by rw [hW]; exact (Bk.new w _ _).alloc _
  have k1 : Bk W (w.heap.size + 1) 53 #[.slice k.h.A0 o.st.f0.length k.h.c0, .slice k.h.A1 o.st.f1.length k.h.c1, .slice k.h.A2 o.st.f2.length k.h.c2, .slice k.h.A3 o.st.f3.length k.h.c3, .slice k.h.A4 o.st.f4.length k.h.c4, .slice k.n.A o.n.length k.n.c, .slice k.v.A o.v.length k.v.c, .slice k.l.A o.l.length k.l.c, .slice k.k.A o.k.length k.k.c, .slice k.f.A o.f.length k.f.c] := by
    rw [hW]; have := Bk.new (w.alloc (.cells #[.slice h.A L.length h.c] 32)) #[.slice k.h.A0 o.st.f0.length k.h.c0, .slice k.h.A1 o.st.f1.length k.h.c1, .slice k.h.A2 o.st.f2.length k.h.c2, .slice k.h.A3 o.st.f3.length k.h.c3, .slice k.h.A4 o.st.f4.length k.h.c4, .slice k.n.A o.n.length k.n.c, .slice k.v.A o.v.length k.v.c, .slice k.l.A o.l.length k.l.c, .slice k.k.A o.k.length k.k.c, .slice k.f.A o.f.length k.f.c] 53
    rwa [World.size_alloc] at this
  have P0 := Lib.hid (hP.below bW hB)
  have Q0 := Lib.hid (hS.below bW hB)
  have K0 := Lib.hid k0
  have J0 := Lib.hid k1
  have B0 := Lib.hid bW
  have z0 := bW.size
  have HW := Lib.hid hW
  obtain ⟨E, hE⟩ : ∃ E, wayE L o th = E := ⟨_, rfl⟩
  rw [hE]
  have HE := Lib.hid hE
  clear hW bW k0 k1 hP hS hE
  have hc0 : W.cell? ⟨w.heap.size, 0, none⟩ = some (.slice h.A L.length h.c) := K0.out.cell 0
  have hk0 := K0.out.lt
  have hk1 := J0.out.lt
  rcases Bool.eq_false_or_eq_true (vwB L o) with hv | hv
  rotate_left
  · have eE : Hid (E = []) := Lib.hid (by rw [← HE.out, wayE, hv]; rfl)
    have HV := Lib.hid hv
    clear hv HE
    go_enter Try.func21, Try.ntmps21
    go_wp2_with fail
    rw [← HW.out]
    refine (iviewok_any h L k o W B P0.out Q0.out (by omega) SP LS false HV).mono ?_
    rintro e w1 ⟨rfl, hb⟩
    have B1 := Lib.hid (below_on B0.out hb)
    clear hb hc0
    go_wp2
    go_ret
    rw [eE.out]
    exact ⟨⟨none, 0⟩, rfl, B1.out, B1.out.size, ⟨OwnVs.nil _ _ _ _ _⟩⟩
  have H := vwB_parts hv
  have P := H.st
  have p31 := P.n1
  have p32 := P.n3
  have HV := Lib.hid hv
  have HH := Lib.hid H
  have HWY := Lib.hid (show ∀ (g : SgH) (V : World) (C : Nat), PgR V C h L → SgR V C g (sgF L o) → C ≤ V.heap.size → Calls Try.prog 53 #[PgV h L, SgV g (sgF L o), .int .i64 th] V (AnsIlW V E) by
    intro g V C hPV hSV hCV
    rcases Bool.eq_false_or_eq_true (inB th 0 ((L.length : Int) - 1) && nxZ L o.st th.toNat) with hb | hb
    rotate_left
    · have eE : E = [] := by rw [← HE.out, wayE, hb, Bool.and_false]; rfl
      rw [eE]
      refine iways_no h L g (sgF L o) th V (sgF_ok H) p31 p32 (Lib.hid ?_)
      show (inB th 0 ((L.length : Int) - 1) && (wdF L o.st (0 + th.toNat) == 1)) = false
      rcases Bool.eq_false_or_eq_true (inB th 0 ((L.length : Int) - 1)) with h1 | h1
      · rw [h1, Bool.true_and] at hb
        rw [h1, Bool.true_and, wdF_can (by simp [inB] at h1; omega), can_nx P (by simp [inB] at h1; omega), hb]; rfl
      · rw [h1]; rfl
    · have eE : E = wayT L o th.toNat := by rw [← HE.out, wayE, hv, hb]; rfl
      rw [Bool.and_eq_true] at hb
      obtain ⟨hb1, hb2⟩ := hb
      obtain ⟨t, rfl⟩ : ∃ t : Nat, th = (t : Int) := ⟨th.toNat, by simp [inB] at hb1; omega⟩
      rw [Int.toNat_natCast] at hb2 eE
      have ht : t < L.length := by simp [inB] at hb1; omega
      have hcn : (sgF L o).f (0 + t) = 1 := by
        show wdF L o.st (0 + t) = 1
        rw [wdF_can ht, can_nx P ht, hb2]; rfl
      have hat : (sgF L o).f (3 + t) = (o.st.f0.getD t 0).toNat := by
        show wdF L o.st (3 + t) = _
        rw [wdF_hi P (by omega), pk_at P ht]
      have hml : (sgF L o).f (3 + t) < (L.getD t []).length := by
        rw [hat]
        unfold nxZ at hb2
        simp only [Bool.and_eq_true, decide_eq_true_eq] at hb2
        have h0 := (P.v0 t (o.st.f0.getD t 0) (at_getD 0 (by rw [P.m0]; exact ht))).1
        omega
      have hx : smAt L t ((sgF L o).f (3 + t)) = nxS L o t := by rw [hat]; rfl
      have hgd : Good L (sgF L o).f := wdF_good P
      rcases place_in (nxS L o t).k (nxS L o t).a (nxS L o t).b (nxS L o t).c (nxS L o t).s with hp | ⟨p, hp3, hp⟩
      · have e2 : E = [0] := by rw [eE, wayT, if_pos hp]
        rw [e2]
        exact iways_none h L g (sgF L o) t V C hPV hSV hCV P.prog hgd (sgF_ok H) ht hcn hml (nxS L o t) hx hp
      · obtain ⟨hv1, hv2⟩ := views_small (c := L.length) H.ns H.v
        have hvv : viewB o.n (o.v.getD t []) = true := by
          have := H.v
          unfold viewsB at this
          rw [Bool.and_eq_true] at this
          exact List.all_eq_true.1 this.2 _ (mem_getD [] (show t < o.v.length by omega))
        have e2 : E = way9 ((sgF L o).S p) (writesB (nxS L o t).k (nxS L o t).a (nxS L o t).b (nxS L o t).c (nxS L o t).s) ((o.v.getD t []).getD p 0).toNat (((sgF L o).S p).length - ((o.v.getD t []).getD p 0).toNat) := by
          rw [eE, wayT, if_neg (by rw [hp]; omega), hp, Int.toNat_natCast]; rfl
        rw [e2]
        refine iways_at h L g (sgF L o) t V C hPV hSV hCV P.prog hgd (sgF_ok H) ht hcn hml (nxS L o t) hx p hp hp3 _ rfl _ ?_
        rw [sgF_V hv1 ht p32]
        exact idx_view H hvv hp3)
  clear hv P H HE
  go_enter Try.func21, Try.ntmps21
  go_wp2_with fail
  rw [← HW.out]
  refine (iviewok_any h L k o W B P0.out Q0.out (by omega) SP LS true HV).mono ?_
  rintro e w1 ⟨rfl, hb⟩
  have B1 := Lib.hid (below_on B0.out hb)
  have z1 := hb.size
  have P1 := Lib.hid (P0.out.below hb (by omega))
  have Q1 := Lib.hid (Q0.out.below hb (by omega))
  have K1 := Lib.hid (K0.out.below hb K0.out.lt)
  have J1 := Lib.hid (J0.out.below hb J0.out.lt)
  clear hb hc0 hk0 hk1
  have c0 : w1.cell? ⟨w.heap.size, 0, none⟩ = some (.slice h.A L.length h.c) := K1.out.cell 0
  have y0 : w1.cell? ⟨w.heap.size + 1, 0, none⟩ = some (.slice k.h.A0 o.st.f0.length k.h.c0) := J1.out.cell 0
  have y1 : w1.cell? ⟨w.heap.size + 1, 1, none⟩ = some (.slice k.h.A1 o.st.f1.length k.h.c1) := J1.out.cell 1
  have y2 : w1.cell? ⟨w.heap.size + 1, 2, none⟩ = some (.slice k.h.A2 o.st.f2.length k.h.c2) := J1.out.cell 2
  have y3 : w1.cell? ⟨w.heap.size + 1, 3, none⟩ = some (.slice k.h.A3 o.st.f3.length k.h.c3) := J1.out.cell 3
  have y4 : w1.cell? ⟨w.heap.size + 1, 4, none⟩ = some (.slice k.h.A4 o.st.f4.length k.h.c4) := J1.out.cell 4
  have y5 : w1.cell? ⟨w.heap.size + 1, 5, none⟩ = some (.slice k.n.A o.n.length k.n.c) := J1.out.cell 5
  have y6 : w1.cell? ⟨w.heap.size + 1, 6, none⟩ = some (.slice k.v.A o.v.length k.v.c) := J1.out.cell 6
  have y7 : w1.cell? ⟨w.heap.size + 1, 7, none⟩ = some (.slice k.l.A o.l.length k.l.c) := J1.out.cell 7
  have y8 : w1.cell? ⟨w.heap.size + 1, 8, none⟩ = some (.slice k.k.A o.k.length k.k.c) := J1.out.cell 8
  have y9 : w1.cell? ⟨w.heap.size + 1, 9, none⟩ = some (.slice k.f.A o.f.length k.f.c) := J1.out.cell 9
  have l0 := K1.out.lt
  have l1 := J1.out.lt
  have AllS := Lib.hid (show ∀ w', Below w1.heap.size w1 w' → (Below w1.heap.size w1 w' ∧ w'.cell? ⟨w.heap.size, 0, none⟩ = some (.slice h.A L.length h.c) ∧ w'.cell? ⟨w.heap.size + 1, 0, none⟩ = some (.slice k.h.A0 o.st.f0.length k.h.c0) ∧ w'.cell? ⟨w.heap.size + 1, 1, none⟩ = some (.slice k.h.A1 o.st.f1.length k.h.c1) ∧ w'.cell? ⟨w.heap.size + 1, 2, none⟩ = some (.slice k.h.A2 o.st.f2.length k.h.c2) ∧ w'.cell? ⟨w.heap.size + 1, 3, none⟩ = some (.slice k.h.A3 o.st.f3.length k.h.c3) ∧ w'.cell? ⟨w.heap.size + 1, 4, none⟩ = some (.slice k.h.A4 o.st.f4.length k.h.c4) ∧ w'.cell? ⟨w.heap.size + 1, 5, none⟩ = some (.slice k.n.A o.n.length k.n.c) ∧ w'.cell? ⟨w.heap.size + 1, 6, none⟩ = some (.slice k.v.A o.v.length k.v.c) ∧ w'.cell? ⟨w.heap.size + 1, 7, none⟩ = some (.slice k.l.A o.l.length k.l.c) ∧ w'.cell? ⟨w.heap.size + 1, 8, none⟩ = some (.slice k.k.A o.k.length k.k.c) ∧ w'.cell? ⟨w.heap.size + 1, 9, none⟩ = some (.slice k.f.A o.f.length k.f.c)) from fun w' hb => ⟨hb, (K1.out.below hb l0).cell 0, (J1.out.below hb l1).cell 0, (J1.out.below hb l1).cell 1, (J1.out.below hb l1).cell 2, (J1.out.below hb l1).cell 3, (J1.out.below hb l1).cell 4, (J1.out.below hb l1).cell 5, (J1.out.below hb l1).cell 6, (J1.out.below hb l1).cell 7, (J1.out.below hb l1).cell 8, (J1.out.below hb l1).cell 9⟩)
  go_wp2_with fail
  clear c0 y0 y1 y2 y3 y4 y5 y6 y7 y8 y9 l0 l1
  go_region_held3 (fun w' => Below w1.heap.size w1 w' ∧ w'.cell? ⟨w.heap.size, 0, none⟩ = some (.slice h.A L.length h.c) ∧ w'.cell? ⟨w.heap.size + 1, 0, none⟩ = some (.slice k.h.A0 o.st.f0.length k.h.c0) ∧ w'.cell? ⟨w.heap.size + 1, 1, none⟩ = some (.slice k.h.A1 o.st.f1.length k.h.c1) ∧ w'.cell? ⟨w.heap.size + 1, 2, none⟩ = some (.slice k.h.A2 o.st.f2.length k.h.c2) ∧ w'.cell? ⟨w.heap.size + 1, 3, none⟩ = some (.slice k.h.A3 o.st.f3.length k.h.c3) ∧ w'.cell? ⟨w.heap.size + 1, 4, none⟩ = some (.slice k.h.A4 o.st.f4.length k.h.c4) ∧ w'.cell? ⟨w.heap.size + 1, 5, none⟩ = some (.slice k.n.A o.n.length k.n.c) ∧ w'.cell? ⟨w.heap.size + 1, 6, none⟩ = some (.slice k.v.A o.v.length k.v.c) ∧ w'.cell? ⟨w.heap.size + 1, 7, none⟩ = some (.slice k.l.A o.l.length k.l.c) ∧ w'.cell? ⟨w.heap.size + 1, 8, none⟩ = some (.slice k.k.A o.k.length k.k.c) ∧ w'.cell? ⟨w.heap.size + 1, 9, none⟩ = some (.slice k.f.A o.f.length k.f.c)) (first | (go_split_ands; exact AllS.out _ (by go_grown)) | (exact AllS.out _ (by go_grown))) (first | (go_at_call 54; go_split_ands; refine (packv_any h L k o _ B (P1.out.below (show Below w1.heap.size w1 _ from by go_grown) (by omega)) (Q1.out.below (show Below w1.heap.size w1 _ from by go_grown) (by omega)) (Nat.le_trans (by omega) (show Below w1.heap.size w1 _ from by go_grown).size) HH.out.st HH.out.np).mono ?_; rintro e v2 ⟨g, rfl, hv, hs⟩; have S2 := Lib.hid hs; have hBv : Below w1.heap.size w1 v2 := below_on (by go_grown) hv; clear hs hv) | (go_at_call 53; go_split_ands; refine (HWY.out g _ v2.heap.size (P1.out.up (show Below w1.heap.size w1 _ from by go_grown) (by omega) (Nat.le_trans (by omega) hBv.size)) (S2.out.below (show Below v2.heap.size v2 _ from by go_grown) (Nat.le_refl _)) (show Below v2.heap.size v2 _ from by go_grown).size).mono ?_; rintro e vs ⟨q, rfl, hvs, hzv, ivs⟩; have hBvs : Below w1.heap.size w1 vs := below_on (by go_grown) hvs; obtain ⟨lo, hlo, hlob, iv1⟩ : ∃ lo, w1.heap.size ≤ lo ∧ lo ≤ vs.heap.size ∧ IlO vs lo vs.heap.size q E := ⟨_, (show Below w1.heap.size w1 _ from by go_grown).size, hzv, ivs⟩; have Iv := Lib.hid iv1; clear hvs hzv ivs iv1))
  clear AllS HWY
  try clear hHeld
  have B3 := Lib.hid (below_on B1.out hBvs)
  have z3 := hBvs.size
  clear hBvs
  go_wp2
  go_ret
  exact ⟨q, rfl, B3.out, B3.out.size, Iv.out.keep (by omega) (Nat.le_refl _) fun i _ _ => rfl⟩
end Go.Proofs.Ytaghidaamcnpkab
namespace Go.Proofs.Ytaghidaamcnpkab
open Go.RowKit Pl Go.BigFrame
set_option maxHeartbeats 4000000
set_option maxRecDepth 100000
set_option linter.unusedVariables false

/-- Whether nothing in a row of notes stands glued at an index. -/
def freeB (r : Nts) (i : Nat) : Bool := match r[i]? with
  | none => true
  | some x => !x.g
theorem sfree_any (k : VwdH) (o : Vwd) (p i : Nat) (r : Nts) (w : World) (B : Nat) (hR : VwdR w B k o) (hB : B ≤ w.heap.size) (hr : o.n[p]? = some r) (hi : i ≤ r.length) (hm : o.n.length ≤ 3) (b : Bool) (hb : Hid (freeB r i = b)) :
    Calls Try.prog 86 #[VwdV k o, .int .i64 p, .int .i64 i] w fun e w' => e = .returned (.bool b) ∧ Below w.heap.size w w' := by
  obtain ⟨W, hW⟩ : ∃ W, W = w.alloc (.cells #[.slice k.h.A0 o.st.f0.length k.h.c0, .slice k.h.A1 o.st.f1.length k.h.c1, .slice k.h.A2 o.st.f2.length k.h.c2, .slice k.h.A3 o.st.f3.length k.h.c3, .slice k.h.A4 o.st.f4.length k.h.c4, .slice k.n.A o.n.length k.n.c, .slice k.v.A o.v.length k.v.c, .slice k.l.A o.l.length k.l.c, .slice k.k.A o.k.length k.k.c, .slice k.f.A o.f.length k.f.c] 53) := ⟨_, rfl⟩
  have bW : Below w.heap.size w W := by rw [hW]; go_grown
  have KW : Bk W w.heap.size 53 #[.slice k.h.A0 o.st.f0.length k.h.c0, .slice k.h.A1 o.st.f1.length k.h.c1, .slice k.h.A2 o.st.f2.length k.h.c2, .slice k.h.A3 o.st.f3.length k.h.c3, .slice k.h.A4 o.st.f4.length k.h.c4, .slice k.n.A o.n.length k.n.c, .slice k.v.A o.v.length k.v.c, .slice k.l.A o.l.length k.l.c, .slice k.k.A o.k.length k.k.c, .slice k.f.A o.f.length k.f.c] := by rw [hW]; exact Bk.new _ _ _
  have hpl := (List.getElem?_eq_some_iff.1 hr).1
  obtain ⟨bb, off, r2, q, hA, hbb, hr2, -, hc, hrr⟩ := (hR.n.below bW hB).at_ hpl
  have er : r2 = r := by rw [hr] at hr2; injection hr2 with e; exact e.symm
  subst er
  have BW := Lib.hid bW
  have HW := Lib.hid hW
  have c5 : W.cell? ⟨w.heap.size, 5, none⟩ = some (.slice k.n.A o.n.length k.n.c) := KW.cell 5
  have l0 := KW.lt
  have hpi : (p : Int) < (o.n.length : Int) := by omega
  have hz := bW.size
  have hbw : bb < W.heap.size := by omega
  rw [hA] at c5
  by_cases hlt : i < r2.length
  · obtain ⟨b2, o2, x, q2, hA2, hb2, hx, -, hnt, -⟩ := hrr.at_ hlt
    obtain ⟨-, -, t2⟩ := hnt
    have hb2w : b2 < W.heap.size := by omega
    have hne : ¬ (i : Int) = (r2.length : Int) := by omega
    have hii : (i : Int) < (r2.length : Int) := by omega
    have h2 := hb.out
    unfold freeB at h2
    rw [hx] at h2
    have HX := Lib.hid (show (!x.g) = b from h2)
    rw [hA2] at hc
    clear h2 hb hx hrr hr hr2 hA2 hA hR hW bW KW
    go_enter Try.func86, Try.ntmps86
    go_wp2_with (rw [← HW.out])
    have e0 : ((i : Int) == (r2.length : Int)) = false := beq_eq_false_iff_ne.2 hne
    go_ret
    refine ⟨?_, BW.out⟩
    rw [← HX.out]
    first | rfl | (show Ending.returned (Value.bool (((i : Int) == (r2.length : Int)) || !x.g)) = _; rw [e0]; rfl)
  · have hil : i = r2.length := by omega
    have h2 := hb.out
    unfold freeB at h2
    rw [List.getElem?_eq_none (by omega)] at h2
    have HX := Lib.hid (show true = b from h2)
    subst hil
    clear h2 hb hrr hr hr2 hA hR hW bW KW
    go_enter Try.func86, Try.ntmps86
    go_wp2_with (rw [← HW.out])
    go_ret
    refine ⟨?_, BW.out⟩
    rw [← HX.out]
    rfl
end Go.Proofs.Ytaghidaamcnpkab
