/-
  What the program's StuckFree comes to.
-/
import Derived.Test.YtakadejpgndhpaaStfP
import Derived.Test.YtakadejpgndhpaaRchd
import Derived.Deep.RegionHeld3
namespace Go.Proofs.Ytakadejpgndhpaa
open Go.RowKit Pl
set_option maxHeartbeats 4000000
set_option maxRecDepth 100000
set_option linter.unusedVariables false

theorem istf_any (h : PgH) (L : Pg) (w : World) (B : Nat) (hP : PgR w B h L) (hB : B ≤ w.heap.size) (SP : PgS L) (r : Bool) (hr : Hid (stfB L = r)) :
    Calls Try.prog 55 #[PgV h L] w fun e w' => e = .returned (.bool r) ∧ Below w.heap.size w w' := by
  have hm := (PgS_L SP).l
  obtain ⟨W, hW⟩ : ∃ W, W = w.alloc (.cells #[.slice h.A L.length h.c] 30) := ⟨_, rfl⟩
  have bW : Below w.heap.size w W := by rw [hW]; go_grown
  have KW := Lib.hid (show Bk W w.heap.size 30 #[.slice h.A L.length h.c] by rw [hW]; exact Bk.new _ _ _)
  have BW := Lib.hid bW
  have P0 := Lib.hid (hP.below bW hB)
  have HW := Lib.hid hW
  have hz := bW.size
  clear hW bW hP
  rcases Bool.eq_false_or_eq_true (progB L) with hL | hL
  rotate_left
  · have hfin : Hid (r = false) := Lib.hid (by rw [← hr.out, stfB, hL]; rfl)
    have HL := Lib.hid hL
    clear hr hL
    go_enter Try.func55, Try.ntmps55
    go_wp2_with fail
    rw [← HW.out]
    refine (iprog_any h.A L h.c W B P0.out (by omega) hm false HL).mono ?_
    rintro e w1 ⟨rfl, hb⟩
    have B1 := Lib.hid (below_on BW.out hb)
    clear hb
    go_wp2
    go_ret
    exact ⟨by rw [hfin.out]; rfl, B1.out⟩
  have HL := Lib.hid hL
  have l3 := (prog_len hL).2
  clear hL
  go_enter Try.func55, Try.ntmps55
  go_wp2_with fail
  rw [← HW.out]
  refine (iprog_any h.A L h.c W B P0.out (by omega) hm true HL).mono ?_
  rintro e w1 ⟨rfl, hb⟩
  have B1 := Lib.hid (below_on BW.out hb)
  have K1 := Lib.hid (KW.out.below hb KW.out.lt)
  have P1 := Lib.hid (P0.out.below hb (by omega))
  have z1 := hb.size
  have c1 : w1.cell? ⟨w.heap.size, 0, none⟩ = some (.slice h.A L.length h.c) := K1.out.cell 0
  clear hb
  go_wp2_with fail
  refine (reached_any h L w1 B P1.out (by omega) HL.out).mono ?_
  rintro e w2 ⟨l, hl, g2, cap2, rfl, hg2, hb2, ho2⟩
  obtain ⟨fs, hfs, hrf⟩ := reach_fs hl
  have B2 := Lib.hid (below_on B1.out hb2)
  have K2 := Lib.hid (K1.out.below hb2 K1.out.lt)
  have P2 := Lib.hid (P1.out.below hb2 (by omega))
  have X2 := Lib.hid (wds_of ho2)
  have HL2 := Lib.hid hl
  have HF := Lib.hid hfs
  have HRF := Lib.hid hrf
  have z2 := hb2.size
  have n2 := hl.len
  clear hb2 ho2 c1 hl hfs hrf
  go_wp2
  go_loopw [11] (fun iv wr => ∃ k : Nat, k ≤ l.length ∧ iv = .int .i64 k ∧ Below w2.heap.size w2 wr ∧ Hid (∀ j f, j < k → fs[j]? = some f → stuckF L f = false)) (fun iv _ => l.length - (intOf iv).toNat)
  case atStart => exact ⟨0, Nat.zero_le _, rfl, Below.refl _ _, Lib.hid fun j f hj => absurd hj (by omega)⟩
  case round =>
    obtain ⟨k, hk, rfl, hbel, hno⟩ := hrel
    have hz3 := hbel.size
    have HB := Lib.hid (below_on B2.out hbel)
    by_cases hlt : k < l.length
    · have hi1 : (k : Int) < (l.length : Int) := by omega
      have K3 := Lib.hid (K2.out.below hbel K2.out.lt)
      have PR := Lib.hid (P2.out.below hbel (by omega))
      obtain ⟨x, hx, -, cx0⟩ := (X2.out.below hbel).at_ hlt
      obtain ⟨f, hf, hxe⟩ : ∃ f, fs[k]? = some f ∧ x = enc WS f := by
        rw [← HF.out, List.getElem?_map, Option.map_eq_some_iff] at hx
        obtain ⟨f, h1, h2⟩ := hx
        exact ⟨f, h1, h2.symm⟩
      have cy := congrArg (fun (n : Nat) => some (Value.int .u64 (n : Int))) hxe
      have cx := cx0.trans cy
      have HR := Lib.hid (HRF.out f (List.mem_of_getElem? hf))
      have HFk := Lib.hid hf
      have cb : wr.cell? ⟨w.heap.size, 0, none⟩ = some (.slice h.A L.length h.c) := K3.out.cell 0
      have lb := K3.out.lt
      have hgl : g2 < wr.heap.size := by have := X2.out.lt; omega
      have HBel := Lib.hid hbel
      clear cy cx0 hx hxe hf hbel
      rcases Bool.eq_false_or_eq_true (stuckF L f) with hs | hs
      · have HS := Lib.hid hs
        have hfin : Hid (r = false) := Lib.hid (by rw [← hr.out]; exact stf_some HL.out HR.out hs)
        clear hs
        go_wp2_with fail
        refine (isstuck_any h L f wr B PR.out (by omega) HL.out (HR.out.inv HL.out) true HS).mono ?_
        rintro e w3 ⟨rfl, hb3⟩
        have H3 := Lib.hid (below_on HB.out hb3)
        clear hb3 cb cx
        go_wp2
        go_ret
        exact ⟨by rw [hfin.out]; rfl, H3.out⟩
      · have HS := Lib.hid hs
        have HN := Lib.hid (show ∀ j f, j < k + 1 → fs[j]? = some f → stuckF L f = false from fun j f' h1 h2 => by
          by_cases e : j = k
          · subst e; rw [HFk.out] at h2; injection h2 with h2; rw [← h2]; exact hs
          · exact hno.out j f' (by omega) h2)
        clear hs hno
        go_wp2_with fail
        refine (isstuck_any h L f wr B PR.out (by omega) HL.out (HR.out.inv HL.out) false HS).mono ?_
        rintro e w3 ⟨rfl, hb3⟩
        have H3 := Lib.hid (below_on HBel.out hb3)
        clear hb3 cb cx
        go_wp2
        go_roundw
        case rel => exact ⟨k + 1, by omega, by go_num, H3.out, HN⟩
        case measure => simp [intOf]; omega
    · have hkl : k = l.length := by omega
      have hfin : Hid (r = true) := Lib.hid (by
        rw [← hr.out]
        refine stf_none HL.out fun f hf => ?_
        have hm2 := (HL2.out.mem (enc WS f)).2 ⟨f, hf, rfl⟩
        rw [← HF.out] at hm2
        obtain ⟨g, hg, e⟩ := List.mem_map.1 hm2
        have e2 : g = f := inv_inj ((HRF.out g hg).inv HL.out) (hf.inv HL.out) e
        obtain ⟨j, hj⟩ := List.mem_iff_getElem?.1 hg
        have hjl := (List.getElem?_eq_some_iff.1 hj).1
        have hll : fs.length = l.length := by rw [← HF.out, List.length_map]
        have := hno.out j g (by omega) hj
        rw [← e2]; exact this)
      clear hno hbel
      subst hkl
      go_wp2
      go_ret
      exact ⟨by rw [hfin.out]; rfl, HB.out⟩
end Go.Proofs.Ytakadejpgndhpaa
