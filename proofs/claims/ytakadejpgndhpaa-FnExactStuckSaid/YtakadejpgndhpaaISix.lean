/-
  What the program's isStuck and ownerOfNext come to, on words.
-/
import Derived.Test.YtakadejpgndhpaaSixP
import Derived.Deep.RegionHeld3
namespace Go.Proofs.Ytakadejpgndhpaa
open Go.RowKit Pl
set_option maxHeartbeats 4000000
set_option maxRecDepth 100000
set_option linter.unusedVariables false

theorem isstuck_any (h : PgH) (L : Pg) (f : Nat → Nat) (w : World) (B : Nat) (hP : PgR w B h L) (hB : B ≤ w.heap.size) (hL : progB L = true) (I : Inv L f) (r : Bool) (hr : Hid (stuckF L f = r)) :
    Calls Try.prog 94 #[PgV h L, .int .u64 (enc WS f : Nat)] w fun e w' => e = .returned (.bool r) ∧ Below w.heap.size w w' := by
  obtain ⟨h31, h32⟩ := prog_len hL
  obtain ⟨W, hW⟩ : ∃ W, W = w.alloc (.cells #[.slice h.A L.length h.c] 30) := ⟨_, rfl⟩
  have bW : Below w.heap.size w W := by rw [hW]; go_grown
  have KW := Lib.hid (show Bk W w.heap.size 30 #[.slice h.A L.length h.c] by rw [hW]; exact Bk.new _ _ _)
  have BW := Lib.hid bW
  have P0 := Lib.hid (hP.below bW hB)
  have HW := Lib.hid hW
  have hz := bW.size
  have lb0 := KW.out.lt
  clear hW bW hP
  have cb0 : W.cell? ⟨w.heap.size, 0, none⟩ = some (.slice h.A L.length h.c) := KW.out.cell 0
  go_enter Try.func94, Try.ntmps94
  go_wp2_with fail
  rw [← HW.out]
  go_wp2_with fail
  clear cb0
  go_loopw [9] (fun i wr => ∃ k : Nat, k ≤ L.length ∧ i = .int .i64 k ∧ Below W.heap.size W wr ∧ Hid (∀ t, t < k → (f (3 + t) == (L.getD t []).length) = true)) (fun i _ => L.length - (intOf i).toNat)
  case atStart => exact ⟨0, Nat.zero_le _, rfl, Below.refl _ _, Lib.hid (fun t ht => absurd ht (by omega))⟩
  case round =>
    obtain ⟨k, hk, rfl, hbel, hno⟩ := hrel
    have hz2 := hbel.size
    have HB := Lib.hid (below_on BW.out hbel)
    by_cases hlt : k < L.length
    · have hi1 : (k : Int) < (L.length : Int) := by omega
      have cb : wr.cell? ⟨w.heap.size, 0, none⟩ = some (.slice h.A L.length h.c) := (KW.out.below hbel KW.out.lt).cell 0
      have lb : w.heap.size < wr.heap.size := by omega
      have PR := Lib.hid (P0.out.below hbel (by omega))
      have HBel := Lib.hid hbel
      clear hbel
      rcases Bool.eq_false_or_eq_true (f (3 + k) == (L.getD k []).length) with hg | hg
      · have HD := Lib.hid hg
        have HN := Lib.hid (show ∀ t, t < k + 1 → (f (3 + t) == (L.getD t []).length) = true from fun t ht => by
          by_cases e : t = k
          · subst e; exact hg
          · exact hno.out t (by omega))
        clear hg hno
        go_wp2_with fail
        refine (isdone_any h L f k wr B PR.out (by omega) hL I.good hlt true HD).mono ?_
        rintro e w3 ⟨rfl, hb3⟩
        have H3 := Lib.hid (below_on HBel.out hb3)
        clear hb3 cb
        go_wp2
        go_roundw
        case rel => exact ⟨k + 1, by omega, by go_num, H3.out, HN⟩
        case measure => simp [intOf]; omega
      · have HD := Lib.hid hg
        have HE : Hid (endB L f = r) := Lib.hid (by rw [← hr.out, stuckF, openF_some hlt hg, Bool.true_and])
        clear hg hno
        go_wp2_with fail
        refine (isdone_any h L f k wr B PR.out (by omega) hL I.good hlt false HD).mono ?_
        rintro e w3 ⟨rfl, hb3⟩
        have H3 := Lib.hid (below_on HBel.out hb3)
        have c3 : w3.cell? ⟨w.heap.size, 0, none⟩ = some (.slice h.A L.length h.c) := (hb3.cell (p := ⟨w.heap.size, 0, none⟩) lb).trans cb
        clear hb3 cb
        go_wp2_with fail
        refine (isend_any h L f w3 hL I r HE).mono ?_
        rintro e w4 ⟨rfl, hb4⟩
        have H4 := Lib.hid (below_on BW.out (below_on H3.out hb4))
        clear hb4 c3
        go_wp2
        go_ret
        exact ⟨rfl, H4.out⟩
    · have hkl : k = L.length := by omega
      subst hkl
      have e0 : r = false := by rw [← hr.out, stuckF, openF_none hno.out, Bool.false_and]
      subst e0
      clear hbel
      go_wp2
      go_ret
      exact ⟨rfl, HB.out⟩
end Go.Proofs.Ytakadejpgndhpaa
