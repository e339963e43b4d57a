/-
  The reference model's l2Next on states that are told by a word's numbers.
-/
import Derived.Test.YtakadejpgndhpaaRun
import Derived.Test.YtakadejpgndhpaaSCan
namespace Go.Proofs.Ytakadejpgndhpaa
open Go.RowKit Pl
set_option maxHeartbeats 1000000
set_option maxRecDepth 100000
set_option linter.unusedVariables false

theorem snext_sta (h : PgH) (L : Pg) (k : StaH) (f : Nat → Nat) (t : Nat) (w : World) (B : Nat) (hP : PgR w B h L) (hS : StaR w B k (staF L f)) (hB : B ≤ w.heap.size) (hL : progB L = true) (I : Inv L f) (ht : t < L.length) :
    Calls Try.prog 121 #[PgV h L, StaV k (staF L f), .int .i64 t] w fun e w' => ∃ x : Sm, e = .returned (.tuple #[x.val, .bool (canF L f t)]) ∧ (canF L f t = true → x = smAt L t (f (3 + t))) ∧ Below w.heap.size w w' := by
  have P := stB_parts (staF_stB hL I)
  have hc : canF L f t = nxZ L (staF L f) t := (can_pk hL I ht).symm.trans (can_nx P ht)
  have hg : (staF L f).f0.getD t 0 = ((f (3 + t) : Nat) : Int) := by
    have e : fL 0 = 0 := rfl
    rw [show (staF L f).f0.getD t 0 = (f (3 + t) : Int) + fL 0 from getD_some (fldI_at ht), e, Int.add_zero]
  rw [hc]
  unfold nxZ
  rw [hg, Int.toNat_natCast]
  by_cases hd : f (3 + t) < (L.getD t []).length
  · rw [decide_eq_true (by omega), Bool.true_and]
    refine (snext_yes h L k (staF L f) t w B hP hS hB P ht (f (3 + t)) hg hd _ (Lib.hid rfl)).mono ?_
    rintro e w' ⟨rfl, hb⟩
    exact ⟨_, rfl, fun _ => rfl, hb⟩
  · rw [decide_eq_false (by omega), Bool.false_and]
    refine (snext_no h L k (staF L f) t w B hP hS hB P ht (by rw [hg]; omega)).mono ?_
    rintro e w' ⟨rfl, hb⟩
    exact ⟨_, rfl, fun h => (by cases h), hb⟩
end Go.Proofs.Ytakadejpgndhpaa
