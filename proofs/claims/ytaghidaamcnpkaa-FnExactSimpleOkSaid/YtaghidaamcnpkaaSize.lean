/-
  Contracts of the laws' size functions: they come to plain functions of the lists' lengths and turn nothing.
-/
import Derived.Test.YtaghidaamcnpkaaMem
import Derived.LoopTactic
import Derived.Outline
namespace Go.Proofs.Ytaghidaamcnpkaa
open Go.RowKit Pl
set_option maxHeartbeats 400000
set_option linter.unusedVariables false

theorem szS_any (A : Option Addr) (n c : Nat) (left : Int) (w : World) (hn : n ≤ maxLen) (h0 : 0 ≤ left) (h1 : left ≤ 1048576) :
    Calls Try.prog 38 #[.slice A n c, .int .i64 left] w fun e w' => e = .returned (.int .i64 (sz1 left n)) ∧ w = w' := by
  unfold maxLen at hn
  by_cases h : left - n < 0
  all_goals
    have hfin : Hid (sz1 left n = if left - n < 0 then -1 else left - n) := Lib.hid rfl
    go_enter Try.func38, Try.ntmps38
    go_wp2
    go_ret
    refine ⟨?_, rfl⟩
    rw [hfin.out]
    first | (rw [if_pos (by omega)]; rfl) | (rw [if_neg (by omega)]; rfl)

theorem szSS_any (A : Option Addr) (L : List (List Sm)) (c : Nat) (left : Int) (w : World) (B : Nat) (hR : Rows2 w B A L) (hn : L.length ≤ maxLen) (h0 : 0 ≤ left) (h1 : left ≤ 1048576) (r : Int) (hr : Hid (sz2 left L = r)) :
    Calls Try.prog 18 #[.slice A L.length c, .int .i64 left] w fun e w' => e = .returned (.int .i64 r) ∧ w = w' := by
  unfold maxLen at hn
  by_cases h : left - L.length < 0
  · have hfin : Hid (r = -1) := Lib.hid (by rw [← hr.out, sz2, if_pos h])
    go_enter Try.func18, Try.ntmps18
    go_wp2
    go_ret
    exact ⟨by rw [hfin.out]; rfl, rfl⟩
  · have hfin : Hid (szL (left - L.length) L = r) := Lib.hid (by rw [← hr.out, sz2, if_neg h])
    clear hr
    go_enter Try.func18, Try.ntmps18
    go_wp2
    go_loop [1, 5] (fun l i => ∃ (k : Nat) (lf : Int), k ≤ L.length ∧ i = .int .i64 k ∧ l = .int .i64 lf ∧ 0 ≤ lf ∧ lf ≤ 1048576 ∧ Hid (szL lf (L.drop k) = r)) (fun _ i => L.length - (intOf i).toNat)
    case atStart => exact ⟨0, _, Nat.zero_le _, rfl, rfl, by omega, by omega, by simpa using hfin⟩
    case round =>
      obtain ⟨k, lf, hk, rfl, rfl, hl0, hl1, hrest⟩ := hrel
      clear hfin
      by_cases hlt : k < L.length
      · obtain ⟨b, off, xs, Ai, ci, rfl, hb, hx, hd, hc, hlen, hm, hrow⟩ := hR.at_ hlt
        have Hd := Lib.hid hd
        clear hd hx
        unfold maxLen at hm
        by_cases h2 : sz1 lf xs.length < 0
        · have hlast : Hid (r = -1) := Lib.hid (by rw [← hrest.out]; exact szL_stop Hd.out h2)
          go_wp2_with (go_at_call 38; refine (szS_any _ _ _ _ _ (by unfold maxLen; omega) hl0 hl1).mono ?_; rintro e w' ⟨rfl, rfl⟩)
          go_ret
          exact ⟨by rw [hlast.out]; rfl, rfl⟩
        · have hnext : Hid (szL (sz1 lf xs.length) (L.drop (k + 1)) = r) := Lib.hid (by rw [← hrest.out]; exact (szL_on Hd.out h2).symm)
          have hup : sz1 lf xs.length ≤ 1048576 := by unfold sz1; split <;> omega
          go_wp2_with (go_at_call 38; refine (szS_any _ _ _ _ _ (by unfold maxLen; omega) hl0 hl1).mono ?_; rintro e w' ⟨rfl, rfl⟩)
          go_round
          case rel => exact ⟨k + 1, _, by omega, by go_num, rfl, by omega, hup, hnext⟩
          case measure => simp [intOf]; omega
      · have hlast : Hid (r = lf) := Lib.hid (by rw [← hrest.out, List.drop_eq_nil_of_le (by omega)]; rfl)
        go_wp2
        go_ret
        exact ⟨by rw [hlast.out]; rfl, rfl⟩

theorem szP_any (A : Option Addr) (L : List (List Sm)) (c : Nat) (left : Int) (w : World) (B : Nat) (hR : Rows2 w B A L) (hB : B ≤ w.heap.size) (hn : L.length ≤ maxLen) (h0 : 0 ≤ left) (h1 : left ≤ 1048576) (r : Int) (hr : Hid (sz2 left L = r)) (hm : -1 ≤ r) :
    Calls Try.prog 6 #[.agg #[.slice A L.length c], .int .i64 left] w fun e w' => e = .returned (.int .i64 r) ∧ Below w.heap.size w w' := by
  by_cases h : r < 0
  all_goals
    have hfin : Hid (r < 0 → r = -1) := Lib.hid (by omega)
    go_enter Try.func6, Try.ntmps6
    go_wp2_with (go_at_call 18; refine (szSS_any _ _ _ _ _ B (hR.below ((Below.refl _ _).alloc (Nat.le_refl _) _) hB) hn h0 h1 r hr).mono ?_; rintro e w' ⟨rfl, rfl⟩)
    go_ret
    refine ⟨?_, by go_grown⟩
    first | rfl | (rw [hfin.out h]; rfl)

end Go.Proofs.Ytaghidaamcnpkaa
