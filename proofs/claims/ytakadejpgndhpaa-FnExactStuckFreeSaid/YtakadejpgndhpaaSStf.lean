/-
  What the reference model's StuckOrder and StuckFree come to.
-/
import Derived.Test.YtakadejpgndhpaaStfP
import Derived.Test.YtakadejpgndhpaaSWhole
import Derived.Test.YtakadejpgndhpaaSStuck
import Derived.Test.YtakadejpgndhpaaSPlay
import Derived.Deep.RegionHeld3
import Derived.Deep.DeepCutAuto
namespace Go.Proofs.Ytakadejpgndhpaa
open Go.RowKit Pl
set_option maxHeartbeats 8000000
set_option maxRecDepth 100000
set_option linter.unusedVariables false

def stoO (L : Pg) : Option (List Int) := if progB L then (allO L).find? (stuckR L) else none
def stoE (L : Pg) : List Int := (stoO L).getD []
def stoR (L : Pg) : Bool := (stoO L).isSome
theorem sto_bad {L : Pg} (h : progB L = false) : stoE L = [] ∧ stoR L = false := by
  unfold stoE stoR stoO
  rw [h]
  exact ⟨rfl, rfl⟩
theorem sto_none {L : Pg} (hL : progB L = true) (h : ∀ x ∈ allO L, stuckR L x = false) : stoE L = [] ∧ stoR L = false := by
  have e : stoO L = none := by
    unfold stoO
    rw [hL, if_pos rfl, List.find?_eq_none]
    intro x hx hs
    rw [h x hx] at hs
    cases hs
  unfold stoE stoR
  rw [e]
  exact ⟨rfl, rfl⟩
theorem find_first {α : Type} {p : α → Bool} : ∀ {l : List α} {k : Nat} {x : α}, l[k]? = some x → p x = true → (∀ j y, j < k → l[j]? = some y → p y = false) → l.find? p = some x
  | a :: l, 0, x, hx, hp, _ => by
    rw [List.getElem?_cons_zero] at hx
    injection hx with hx
    subst hx
    rw [List.find?_cons, hp]
  | a :: l, k + 1, x, hx, hp, h => by
    rw [List.getElem?_cons_succ] at hx
    have ha := h 0 a (by omega) rfl
    rw [List.find?_cons, ha]
    exact find_first hx hp fun j y hj hy => h (j + 1) y (by omega) (by rw [List.getElem?_cons_succ]; exact hy)
theorem sto_some {L : Pg} (hL : progB L = true) {k : Nat} {x : List Int} (hx : (allO L)[k]? = some x) (hs : stuckR L x = true) (h : ∀ j y, j < k → (allO L)[j]? = some y → stuckR L y = false) : stoE L = x ∧ stoR L = true := by
  have e : stoO L = some x := by
    unfold stoO
    rw [hL, if_pos rfl]
    exact find_first hx hs h
  unfold stoE stoR
  rw [e]
  exact ⟨rfl, rfl⟩
theorem stf_sto (L : Pg) : stfB L = (progB L && !stoR L) := by
  rcases Bool.eq_false_or_eq_true (progB L) with hL | hL
  · unfold stfB stoR stoO
    rw [hL, if_pos rfl, Bool.true_and, Bool.true_and]
    congr 1
    rw [Bool.eq_iff_iff, List.any_eq_true, List.find?_isSome]
  · unfold stfB
    rw [hL]; rfl
theorem play_all {L : Pg} (hL : progB L = true) {x : List Int} (hx : x ∈ allO L) : ∃ g, playE L x = staF L g ∧ playB L x = true ∧ Inv L g ∧ stuckR L x = stuckF L g ∧ x.length ≤ 9 := by
  obtain ⟨g, hg, -⟩ := (allO_iff hL).1 hx
  have hl := ordP_rows 9 (keptF L zeroF L.length) [] x hx
  rw [List.length_nil] at hl
  have e : playO L x = some g := by unfold playO; rw [if_pos hL]; exact hg
  refine ⟨g, by unfold playE; rw [e]; rfl, by unfold playB; rw [e]; rfl, (run_rch .beg hg).inv hL, ?_, by omega⟩
  unfold stuckR
  rw [hg]
theorem sstuckord_any (h : PgH) (L : Pg) (w : World) (B : Nat) (hP : PgR w B h L) (hB : B ≤ w.heap.size) (SP : PgS L) :
    Calls Try.prog 52 #[PgV h L] w (AnsIl w (stoE L) (stoR L)) := by
  obtain ⟨W, hW⟩ : ∃ W, W = w.alloc (.cells #[.slice h.A L.length h.c] 30) := ⟨_, rfl⟩
  have bW : Below w.heap.size w W := by rw [hW]; go_grown
  have KW := Lib.hid (show Bk W w.heap.size 30 #[.slice h.A L.length h.c] by rw [hW]; exact Bk.new _ _ _)
  have BW := Lib.hid bW
  have P0 := Lib.hid (hP.below bW hB)
  have HW := Lib.hid hW
  have hz := bW.size
  have hsl := SP.l
  have c0 : W.cell? ⟨w.heap.size, 0, none⟩ = some (.slice h.A L.length h.c) := KW.out.cell 0
  have l0 := KW.out.lt
  clear hW bW hP
  rcases Bool.eq_false_or_eq_true (progB L) with hL | hL
  rotate_left
  · obtain ⟨e1, e2⟩ := sto_bad hL
    rw [e1, e2]
    have HL := Lib.hid hL
    clear hL e1 e2
    go_enter Try.func52, Try.ntmps52
    go_wp2_with fail
    rw [← HW.out]
    go_wp2_with fail
    refine (sprog_any h.A L h.c W B P0.out (by omega) hsl (Lib.hid SP.e) false HL).mono ?_
    rintro e w1 ⟨rfl, hb⟩
    have B1 := Lib.hid (below_on BW.out hb)
    clear hb c0
    go_wp2
    go_returns
    exact ⟨⟨none, 0⟩, rfl, B1.out, B1.out.size, ⟨OwnVs.nil _ _ _ _ _⟩⟩
  have HL := Lib.hid hL
  have l3 := (prog_len hL).2
  clear hL
  go_enter Try.func52, Try.ntmps52
  go_wp2_with fail
  rw [← HW.out]
  go_wp2_with fail
  refine (sprog_any h.A L h.c W B P0.out (by omega) hsl (Lib.hid SP.e) true HL).mono ?_
  rintro e w1 ⟨rfl, hb⟩
  have B1 := Lib.hid (below_on BW.out hb)
  have K1 := Lib.hid (KW.out.below hb KW.out.lt)
  have P1 := Lib.hid (P0.out.below hb (by omega))
  have z1 := hb.size
  have c1 : w1.cell? ⟨w.heap.size, 0, none⟩ = some (.slice h.A L.length h.c) := K1.out.cell 0
  have l1 := K1.out.lt
  clear hb c0
  go_wp2_with fail
  refine (orders_any h L HL.out w1 B P1.out (by omega)).mono ?_
  rintro e w2 ⟨⟨A, c⟩, he, hb2, hz2, ho⟩
  have hll := ordP_len l3 9 (keptF L zeroF L.length) []
  have e9 : (3 : Nat) ^ 9 = 19683 := by decide
  rw [e9] at hll
  have HAL := Lib.hid (show allO L = ordP L 9 (keptF L zeroF L.length) [] from rfl)
  rw [← HAL.out] at he ho hll
  have he : e = .returned (.slice A (allO L).length c) := he
  subst he
  have B2 := Lib.hid (below_on B1.out hb2)
  have K2 := Lib.hid (K1.out.below hb2 K1.out.lt)
  have P2 := Lib.hid (P1.out.below hb2 (by omega))
  have O2 := Lib.hid (show OwnVss w2 w1.heap.size w2.heap.size 51 3 A (vsIss (allO L)) from ho.o0)
  obtain ⟨als, hals⟩ : ∃ als, allO L = als := ⟨_, rfl⟩
  have HALS := Lib.hid hals
  rw [hals] at O2 hll
  rw [hals]
  have hz12 := hb2.size
  clear hb2 ho c1 hals hz2 HAL
  go_wp2
  go_loopw [5] (fun iv wr => ∃ k : Nat, k ≤ als.length ∧ iv = .int .i64 k ∧ Below w2.heap.size w2 wr ∧ Hid (∀ j y, j < k → als[j]? = some y → stuckR L y = false)) (fun iv _ => als.length - (intOf iv).toNat)
  case atStart => exact ⟨0, Nat.zero_le _, rfl, Below.refl _ _, Lib.hid fun j f hj => absurd hj (by omega)⟩
  case round =>
    obtain ⟨k, hk, rfl, hbel, hno⟩ := hrel
    have hz3 := hbel.size
    have HB := Lib.hid (below_on B2.out hbel)
    by_cases hlt : k < als.length
    · have hi1 : (k : Int) < (als.length : Int) := by omega
      have K3 := Lib.hid (K2.out.below hbel K2.out.lt)
      have PR := Lib.hid (P2.out.below hbel (by omega))
      obtain ⟨x, hx⟩ : ∃ x, als[k]? = some x := ⟨_, List.getElem?_eq_getElem hlt⟩
      have hxm : x ∈ allO L := by rw [HALS.out]; exact List.mem_of_getElem? hx
      obtain ⟨f, eE, eB, hI, hsr, hx9⟩ := play_all HL.out hxm
      obtain ⟨g, cs, D, C, rfl, hg0, hg1, hbk, hrw, -⟩ := O2.out (by rw [vsIss_length]; omega)
      obtain ⟨hcs, hov⟩ := hrw k (ints x) (vsIss_at hx)
      rw [ints_length] at hcs
      obtain ⟨Dk, hDk⟩ : ∃ Dk, D k = Dk := ⟨_, rfl⟩
      obtain ⟨Ck, hCk⟩ : ∃ Ck, C k = Ck := ⟨_, rfl⟩
      rw [hDk, hCk] at hcs
      rw [hDk] at hov
      have OV := Lib.hid (hov.below hbel (Nat.le_refl _))
      have KG := Lib.hid (hbk.below hbel hg1)
      have HCS := Lib.hid hcs
      have HX := Lib.hid hx
      have HI := Lib.hid hI
      have HSR := Lib.hid hsr
      have hct := fun (V' : World) (hV : Below wr.heap.size wr V') => splay_any h L ⟨Dk, Ck⟩ x V' wr.heap.size (PR.out.up hV (by omega) (by omega)) ⟨(OV.out.vs.up hV (by omega) (by omega))⟩ hV.size SP ⟨by omega⟩
      rw [eE, eB] at hct
      have Hct := Lib.hid hct
      have HBel := Lib.hid hbel
      have lb := K3.out.lt
      have lg := KG.out.lt
      have hgl : g < wr.heap.size := by omega
      have AllS := Lib.hid (show ∀ w' : World, Below wr.heap.size wr w' → (Below wr.heap.size wr w' ∧ w'.cell? ⟨w.heap.size, 0, none⟩ = some (.slice h.A L.length h.c) ∧ w'.cell? ⟨g, k, none⟩ = some (.slice Dk x.length Ck)) from fun w' hb => ⟨hb, (K3.out.below hb lb).cell 0, ((KG.out.below hb lg).cell k).trans HCS.out⟩)
      have cb : wr.cell? ⟨w.heap.size, 0, none⟩ = some (.slice h.A L.length h.c) := K3.out.cell 0
      have cg : wr.cell? ⟨g, k, none⟩ = some (.slice Dk x.length Ck) := (KG.out.cell k).trans HCS.out
      clear hx hxm eE eB hI hsr hbk hrw hcs hov hDk hCk hct hbel
      go_upto_region 7 with (fail)
      go_cut [6, 7] (fun sa sb wx => GotISta wr (staF L f) true sa sb wx)
      case first =>
        go_region_held3 (fun w' => Below wr.heap.size wr w' ∧ w'.cell? ⟨w.heap.size, 0, none⟩ = some (.slice h.A L.length h.c) ∧ w'.cell? ⟨g, k, none⟩ = some (.slice Dk x.length Ck)) (first | (go_split_ands; exact AllS.out _ (by go_grown)) | (exact AllS.out _ (by go_grown))) (first | (go_at_call 76; go_split_ands; refine (Hct.out _ (show Below wr.heap.size wr _ from by go_grown)).mono ?_; rintro e vs ⟨hans, rfl, hvs, -, ivs⟩; obtain ⟨hccs, hffs⟩ := bcell hvs; have Iv := Lib.hid ivs; have hBvs : Below wr.heap.size wr vs := below_on (by go_grown) hvs; have hzvs := hvs.size; (try simp at hzvs); have hyvs := hBvs.size; (try (have hsvs : wr.heap.size < vs.heap.size := (by omega))); have kvs := Lib.hid hvs; clear hvs ivs))
        all_goals go_wp2_with fail
        all_goals go_meet
        · exact gotISta_late (show Below wr.heap.size wr _ from by go_grown) kvs.out Iv.out
        · exact gotISta_early (show Below wr.heap.size wr _ from by go_grown) (bk_drew (Bk.new wr #[.slice none 0 0, .slice none 0 0, .slice none 0 0, .slice none 0 0, .slice none 0 0] 56)) (Nat.le_refl _) kvs.out Iv.out
      clear AllS Hct cb cg
      obtain ⟨bx, hs, lo, hi, rfl, rfl, hby, hky, hiy, i1, i2, i3, i4, i5, i6⟩ := hcut
      obtain ⟨z, rfl⟩ : ∃ V, V = wc := ⟨_, rfl⟩
      have zz := hby.size
      have Kz := Lib.hid (K3.out.below hby lb)
      have KGz := Lib.hid (KG.out.below hby lg)
      have Pz := Lib.hid (PR.out.below hby (by omega))
      have OVz := Lib.hid (OV.out.below hby (by omega))
      have HBz := Lib.hid (HBel.out.trans (hby.mono hz3))
      have HBw := Lib.hid (below_on HB.out hby)
      have Iz := Lib.hid hiy
      have KY := Lib.hid hky
      clear hby hky hiy
      have cp : z.cell? ⟨w.heap.size, 0, none⟩ = some (.slice h.A L.length h.c) := Kz.out.cell 0
      have lp := Kz.out.lt
      have cs0 : z.cell? ⟨bx, 0, none⟩ = some (.slice hs.A0 (staF L f).f0.length hs.c0) := KY.out.cell 0
      have cs1 : z.cell? ⟨bx, 1, none⟩ = some (.slice hs.A1 (staF L f).f1.length hs.c1) := KY.out.cell 1
      have cs2 : z.cell? ⟨bx, 2, none⟩ = some (.slice hs.A2 (staF L f).f2.length hs.c2) := KY.out.cell 2
      have cs3 : z.cell? ⟨bx, 3, none⟩ = some (.slice hs.A3 (staF L f).f3.length hs.c3) := KY.out.cell 3
      have cs4 : z.cell? ⟨bx, 4, none⟩ = some (.slice hs.A4 (staF L f).f4.length hs.c4) := KY.out.cell 4
      rcases Bool.eq_false_or_eq_true (stuckF L f) with hst | hst
      · have HS := Lib.hid hst
        obtain ⟨e1, e2⟩ := sto_some HL.out (k := k) (x := x) (by rw [HALS.out]; exact HX.out) (by rw [HSR.out]; exact hst) (by rw [HALS.out]; exact hno.out)
        have HE := Lib.hid e1
        have HR := Lib.hid e2
        clear hst e1 e2 hno
        go_wp2_with fail
        refine (sstuck0_any h L hs f z z.heap.size (Pz.out.up (Below.refl z.heap.size z) (by omega) (by omega)) (Iz.out.rd.up (Below.refl z.heap.size z) i3 i3) (Nat.le_refl _) HL.out HI.out true HS).mono ?_
        rintro e w3 ⟨rfl, hb3⟩
        have H3 := Lib.hid (below_on HBw.out hb3)
        have OV3 := Lib.hid (OVz.out.below hb3 (by omega))
        have cg3 : w3.cell? ⟨g, k, none⟩ = some (.slice Dk x.length Ck) := ((KGz.out.below hb3 KGz.out.lt).cell k).trans HCS.out
        have lg3 : g < w3.heap.size := by have := hb3.size; omega
        have hz4 := hb3.size
        clear hb3 cp cs0 cs1 cs2 cs3 cs4
        go_wp2
        go_returns
        rw [HE.out, HR.out]
        exact ⟨⟨Dk, Ck⟩, rfl, H3.out, H3.out.size, ⟨OV3.out.keep (by omega) (show w2.heap.size ≤ w3.heap.size by omega) fun i _ _ => rfl⟩⟩
      · have HS := Lib.hid hst
        have HN := Lib.hid (show ∀ j y, j < k + 1 → als[j]? = some y → stuckR L y = false from fun j y h1 h2 => by
          by_cases e : j = k
          · subst e; rw [HX.out] at h2; injection h2 with h2; rw [← h2, HSR.out]; exact hst
          · exact hno.out j y (by omega) h2)
        clear hst hno
        go_wp2_with fail
        refine (sstuck0_any h L hs f z z.heap.size (Pz.out.up (Below.refl z.heap.size z) (by omega) (by omega)) (Iz.out.rd.up (Below.refl z.heap.size z) i3 i3) (Nat.le_refl _) HL.out HI.out false HS).mono ?_
        rintro e w3 ⟨rfl, hb3⟩
        have H3 := Lib.hid (below_on HBz.out (show Below z.heap.size z w3 from hb3))
        clear hb3 cp cs0 cs1 cs2 cs3 cs4
        go_wp2
        go_roundw
        case rel => exact ⟨k + 1, by omega, by go_num, H3.out, HN⟩
        case measure => simp [intOf]; omega
    · have hkl : k = als.length := by omega
      obtain ⟨e1, e2⟩ := sto_none HL.out (fun x hx => by
        rw [HALS.out] at hx
        obtain ⟨j, hj⟩ := List.mem_iff_getElem?.1 hx
        have hjl := (List.getElem?_eq_some_iff.1 hj).1
        exact hno.out j x (by omega) hj)
      have HE := Lib.hid e1
      have HR := Lib.hid e2
      clear hno hbel e1 e2
      subst hkl
      go_wp2
      go_returns
      rw [HE.out, HR.out]
      exact ⟨⟨none, 0⟩, rfl, HB.out, HB.out.size, ⟨OwnVs.nil _ _ _ _ _⟩⟩
theorem sstf_any (h : PgH) (L : Pg) (w : World) (B : Nat) (hP : PgR w B h L) (hB : B ≤ w.heap.size) (SP : PgS L) (r : Bool) (hr : Hid (stfB L = r)) :
    Calls Try.prog 54 #[PgV h L] w fun e w' => e = .returned (.bool r) ∧ Below w.heap.size w w' := by
  obtain ⟨W, hW⟩ : ∃ W, W = w.alloc (.cells #[.slice h.A L.length h.c] 30) := ⟨_, rfl⟩
  have bW : Below w.heap.size w W := by rw [hW]; go_grown
  have KW := Lib.hid (show Bk W w.heap.size 30 #[.slice h.A L.length h.c] by rw [hW]; exact Bk.new _ _ _)
  have BW := Lib.hid bW
  have P0 := Lib.hid (hP.below bW hB)
  have HW := Lib.hid hW
  have hz := bW.size
  have hsl := SP.l
  have c0 : W.cell? ⟨w.heap.size, 0, none⟩ = some (.slice h.A L.length h.c) := KW.out.cell 0
  have l0 := KW.out.lt
  obtain ⟨E, hE⟩ : ∃ E, stoE L = E := ⟨_, rfl⟩
  obtain ⟨R, hR⟩ : ∃ R, stoR L = R := ⟨_, rfl⟩
  obtain ⟨p, hp⟩ : ∃ p, progB L = p := ⟨_, rfl⟩
  have HP := Lib.hid hp
  have hfin : Hid (r = (p && !R)) := Lib.hid (by rw [← hr.out, stf_sto, hR, hp])
  have hct := sstuckord_any h L W B P0.out (by omega) SP
  rw [hE, hR] at hct
  have Hct := Lib.hid hct
  clear hW bW hP hE hR hp hct
  go_enter Try.func54, Try.ntmps54
  go_wp2_with fail
  rw [← HW.out]
  go_wp2_with fail
  refine Hct.out.mono ?_
  rintro e w1 ⟨⟨A, c⟩, he, hb, -, -⟩
  have he : e = .returned (.tuple #[.slice A E.length c, .bool R]) := he
  subst he
  have B1 := Lib.hid (below_on BW.out hb)
  have P1 := Lib.hid (P0.out.below hb (by omega))
  have c1 : w1.cell? ⟨w.heap.size, 0, none⟩ = some (.slice h.A L.length h.c) := (hb.cell (p := ⟨w.heap.size, 0, none⟩) l0).trans c0
  have z1 := hb.size
  clear hb c0
  go_wp2_with fail
  refine (sprog_any h.A L h.c w1 B P1.out (by omega) hsl (Lib.hid SP.e) p HP).mono ?_
  rintro e w2 ⟨rfl, hb⟩
  have B2 := Lib.hid (below_on B1.out hb)
  clear hb c1
  cases p <;> cases R
  all_goals
    go_wp2
    go_ret
    exact ⟨by rw [hfin.out]; rfl, B2.out⟩
end Go.Proofs.Ytakadejpgndhpaa
