/-
  Small contracts on words: isEnd.
-/
import Derived.Test.YtakadejpgndhpaaRun
namespace Go.Proofs.Ytakadejpgndhpaa
open Go.RowKit Pl
set_option maxHeartbeats 4000000
set_option maxRecDepth 100000
set_option linter.unusedVariables false

/-- No thread can go on. -/
def endB (L : Pg) (f : Nat → Nat) : Bool := (List.range L.length).all fun t => !goB L f (t : Int)
theorem endB_at {L : Pg} {f : Nat → Nat} (h : ∀ t, t < L.length → goB L f (t : Int) = false) : endB L f = true := by
  unfold endB
  rw [List.all_eq_true]
  intro t ht
  rw [h t (List.mem_range.1 ht)]; rfl
theorem endB_not {L : Pg} {f : Nat → Nat} {t : Nat} (ht : t < L.length) (h : goB L f (t : Int) = true) : endB L f = false := by
  rw [Bool.eq_false_iff]
  intro he
  unfold endB at he
  rw [List.all_eq_true] at he
  have := he t (List.mem_range.2 ht)
  rw [h] at this; cases this
theorem isend_any (h : PgH) (L : Pg) (f : Nat → Nat) (w : World) (hL : progB L = true) (I : Inv L f) (r : Bool) (hr : Hid (endB L f = r)) :
    Calls Try.prog 111 #[PgV h L, .int .u64 (enc WS f : Nat)] w fun e w' => e = .returned (.bool r) ∧ Below w.heap.size w w' := by
  obtain ⟨h31, h32⟩ := prog_len hL
  obtain ⟨W, hW⟩ : ∃ W, W = w.alloc (.cells #[.slice h.A L.length h.c] 30) := ⟨_, rfl⟩
  have bW : Below w.heap.size w W := by rw [hW]; go_grown
  have KW := Lib.hid (show Bk W w.heap.size 30 #[.slice h.A L.length h.c] by rw [hW]; exact Bk.new _ _ _)
  have BW := Lib.hid bW
  have HW := Lib.hid hW
  have hz := bW.size
  have cb0 : W.cell? ⟨w.heap.size, 0, none⟩ = some (.slice h.A L.length h.c) := KW.out.cell 0
  have lb0 := KW.out.lt
  clear hW bW
  go_enter Try.func111, Try.ntmps111
  go_wp2_with fail
  rw [← HW.out]
  go_wp2_with fail
  clear cb0
  go_loopw [9] (fun i wr => ∃ k : Nat, k ≤ L.length ∧ i = .int .i64 k ∧ Below W.heap.size W wr ∧ Hid (∀ t, t < k → goB L f (t : Int) = false)) (fun i _ => L.length - (intOf i).toNat)
  case atStart => exact ⟨0, Nat.zero_le _, rfl, Below.refl _ _, Lib.hid (fun t ht => absurd ht (by omega))⟩
  case round =>
    obtain ⟨k, hk, rfl, hbel, hno⟩ := hrel
    have hz2 := hbel.size
    have HB := Lib.hid (below_on BW.out hbel)
    by_cases hlt : k < L.length
    · have hi1 : (k : Int) < (L.length : Int) := by omega
      have cb : wr.cell? ⟨w.heap.size, 0, none⟩ = some (.slice h.A L.length h.c) := (KW.out.below hbel KW.out.lt).cell 0
      have lb : w.heap.size < wr.heap.size := by omega
      have HBel := Lib.hid hbel
      clear hbel
      rcases Bool.eq_false_or_eq_true (goB L f (k : Int)) with hg | hg
      · have HA := Lib.hid ((able_bits I (k : Int)).trans hg)
        have e0 : r = false := by rw [← hr.out]; exact endB_not hlt hg
        subst e0
        clear hg
        go_wp2_with fail
        refine (able_any h L f (k : Int) wr I.good.ok h31 h32 true HA).mono ?_
        rintro e w3 ⟨rfl, hb3⟩
        have H3 := Lib.hid (below_on HB.out hb3)
        clear hb3 cb
        go_wp2
        go_ret
        exact ⟨rfl, H3.out⟩
      · have HA := Lib.hid ((able_bits I (k : Int)).trans hg)
        have HN := Lib.hid (show ∀ t, t < k + 1 → goB L f (t : Int) = false from fun t ht => by
          by_cases e : t = k
          · subst e; exact hg
          · exact hno.out t (by omega))
        clear hg hno
        go_wp2_with fail
        refine (able_any h L f (k : Int) wr I.good.ok h31 h32 false HA).mono ?_
        rintro e w3 ⟨rfl, hb3⟩
        have H3 := Lib.hid (below_on HBel.out hb3)
        clear hb3 cb
        go_wp2
        go_roundw
        case rel => exact ⟨k + 1, by omega, by go_num, H3.out, HN⟩
        case measure => simp [intOf]; omega
    · have hkl : k = L.length := by omega
      subst hkl
      have e0 : r = true := by rw [← hr.out]; exact endB_at hno.out
      subst e0
      clear hbel
      go_wp2
      go_ret
      exact ⟨rfl, HB.out⟩

end Go.Proofs.Ytakadejpgndhpaa
