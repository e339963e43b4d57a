/-
  Contracts of the program's threadOk and ProgramOk: each comes to the plain function, whatever the program and the memory, and makes memory alone.
-/
import Derived.Test.YtaghidaamcnpkaaReads
import Derived.Test.YtaghidaamcnpkaaOwn
import Derived.LoopTactic
import Derived.Outline
namespace Go.Proofs.Ytaghidaamcnpkaa
open Go.RowKit Pl
set_option maxHeartbeats 400000
set_option linter.unusedVariables false

theorem ithread_any (A : Option Addr) (xs : List Sm) (c : Nat) (w : World) (B : Nat) (h : Row w B A xs) (hB : B ≤ w.heap.size) (hm : xs.length ≤ maxLen) (r : Bool) (hr : Hid (thrB xs = r)) :
    Calls Try.prog 43 #[.slice A xs.length c] w fun e w' => e = .returned (.bool r) ∧ Below w.heap.size w w' := by
  unfold maxLen at hm
  by_cases h6 : 6 < xs.length
  · have hfin : Hid (r = false) := Lib.hid (by rw [← hr.out]; simp [thrB]; omega)
    clear hr
    go_enter Try.func43, Try.ntmps43
    go_wp2
    go_ret
    exact ⟨by rw [hfin.out]; rfl, Below.refl _ _⟩
  · have hfin : Hid (xs.all Sm.okb = r) := Lib.hid (by
      rw [← hr.out, thrB, decide_eq_true (show xs.length ≤ 6 by omega)]; rfl)
    clear hr
    go_enter Try.func43, Try.ntmps43
    go_wp2
    go_loopw [10] (fun i wr => ∃ k : Nat, k ≤ xs.length ∧ i = .int .i64 k ∧ Below w.heap.size w wr ∧ Hid ((xs.drop k).all Sm.okb = r)) (fun i _ => xs.length - (intOf i).toNat)
    case atStart => exact ⟨0, Nat.zero_le _, rfl, Below.refl _ _, by simpa using hfin⟩
    case round =>
      obtain ⟨k, hk, rfl, hbel, hrest⟩ := hrel
      clear hfin
      by_cases hlt : k < xs.length
      · obtain ⟨b, off, x, rfl, hb, hx, hd, hx0, hx1, hx2, hx3, hx4⟩ := (h.below hbel hB).at_ hlt
        have Hd := Lib.hid hd
        clear hd hx
        rcases Bool.eq_false_or_eq_true x.okb with he | he
        all_goals
          have He : Hid (okB x.k x.a x.b x.c x.s = _) := Lib.hid he
          clear he
          go_wp2_with (go_at_call 61; refine (ret_bool He.out (iok_any x.k x.a x.b x.c x.s _)).mono ?_; rintro e w1 ⟨rfl, hb1⟩; have hB1 : Below w.heap.size w w1 := below_on (hbel.alloc hbel.size _) hb1; clear hb1)
        · go_roundw
          case rel => exact ⟨k + 1, by omega, by go_num, hB1, Lib.hid (by
            have := hrest.out
            rw [Hd.out, List.all_cons, show x.okb = true from He.out] at this
            simpa using this)⟩
          case measure => simp [intOf]; omega
        · go_ret
          refine ⟨?_, hB1⟩
          have := hrest.out
          rw [Hd.out, List.all_cons, show x.okb = false from He.out] at this
          rw [← this]; rfl
      · have hlast : Hid (r = true) := Lib.hid (by
          have := hrest.out
          rw [List.drop_eq_nil_of_le (by omega)] at this
          rw [← this]; rfl)
        go_wp2
        go_ret
        exact ⟨by rw [hlast.out]; rfl, hbel⟩

theorem thr_len {xs : List Sm} (h : thrB xs = true) : xs.length ≤ 6 := by
  simp [thrB] at h; exact h.1

theorem iprog_any (A : Option Addr) (L : List (List Sm)) (c : Nat) (w : World) (B : Nat) (h : Rows2 w B A L) (hB : B ≤ w.heap.size) (hm : L.length ≤ maxLen) (r : Bool) (hr : Hid (progB L = r)) :
    Calls Try.prog 22 #[.agg #[.slice A L.length c]] w fun e w' => e = .returned (.bool r) ∧ Below w.heap.size w w' := by
  unfold maxLen at hm
  have hbox : (w.alloc (.cells #[.slice A L.length c] 29)).cell? ⟨w.heap.size, 0, none⟩ = some (.slice A L.length c) := by simp
  rcases Bool.eq_false_or_eq_true (inB (L.length : Int) 1 3) with h3 | h3
  · have hfin : Hid ((L.all thrB && decide (0 + total L ≤ 9)) = r) := Lib.hid (by
      rw [← hr.out, progB]
      have e1 : 1 ≤ L.length := by simp [inB] at h3; omega
      have e2 : L.length ≤ 3 := by simp [inB] at h3; omega
      simp [e1, e2])
    have hl3 : L.length ≤ 3 := by simp [inB] at h3; omega
    have H3 := Lib.hid h3
    clear hr h3 hbox
    go_enter Try.func22, Try.ntmps22
    go_wp2_with (go_at_call 42; refine (ret_bool H3.out (within_any (L.length : Int) 1 3 _)).mono ?_; rintro e w' ⟨rfl, rfl⟩)
    go_loopw [3, 14] (fun t i wr => ∃ k s : Nat, k ≤ L.length ∧ i = .int .i64 k ∧ t = .int .i64 s ∧ s ≤ 6 * k ∧ Below w.heap.size w wr ∧ Hid (((L.drop k).all thrB && decide (s + total (L.drop k) ≤ 9)) = r)) (fun _ i _ => L.length - (intOf i).toNat)
    case atStart => exact ⟨0, 0, Nat.zero_le _, rfl, rfl, by omega, by go_grown, by simpa using hfin⟩
    case round =>
      obtain ⟨k, s, hk, rfl, rfl, hs6, hbel, hrest⟩ := hrel
      clear hfin
      by_cases hlt : k < L.length
      · obtain ⟨b, off, xs, Ai, ci, rfl, hb, hx, hd, hx0, hlx, hmx, hrow⟩ := (h.below hbel hB).at_ hlt
        have Hd := Lib.hid hd
        have hz := hbel.size
        unfold maxLen at hmx
        clear hd hx
        rcases Bool.eq_false_or_eq_true (thrB xs) with he | he
        · have hl6 := thr_len he
          have He := Lib.hid he
          clear he
          go_wp2_with (go_at_call 43; refine (ithread_any _ _ _ _ B hrow (by omega) (by unfold maxLen; omega) _ He).mono ?_; rintro e w1 ⟨rfl, hb1⟩; have hB1 : Below w.heap.size w w1 := below_on hbel hb1; clear hb1)
          go_roundw
          case rel => exact ⟨k + 1, s + xs.length, by omega, by go_num, by go_num, by omega, hB1, Lib.hid (by
            have := hrest.out
            rw [Hd.out, List.all_cons, He.out, total_cons] at this
            rw [← this, Nat.add_assoc]; simp)⟩
          case measure => simp [intOf]; omega
        · have He := Lib.hid he
          clear he
          go_wp2_with (go_at_call 43; refine (ithread_any _ _ _ _ B hrow (by omega) (by unfold maxLen; omega) _ He).mono ?_; rintro e w1 ⟨rfl, hb1⟩; have hB1 : Below w.heap.size w w1 := below_on hbel hb1; clear hb1)
          go_ret
          refine ⟨?_, hB1⟩
          have := hrest.out
          rw [Hd.out, List.all_cons, He.out] at this
          rw [← this]; rfl
      · have hlast : Hid (r = decide (s ≤ 9)) := Lib.hid (by
          have := hrest.out
          rw [List.drop_eq_nil_of_le (by omega)] at this
          rw [← this]; simp [total])
        go_wp2
        go_ret
        refine ⟨?_, hbel⟩
        rw [hlast.out]
        simp
        try omega
  · have hfin : Hid (r = false) := Lib.hid (by
      rw [← hr.out, progB]
      have e1 : ¬ (1 ≤ L.length ∧ L.length ≤ 3) := by simp [inB] at h3; omega
      simp; intro a b; omega)
    have H3 := Lib.hid h3
    clear hr h3
    go_enter Try.func22, Try.ntmps22
    go_wp2_with (go_at_call 42; refine (ret_bool H3.out (within_any (L.length : Int) 1 3 _)).mono ?_; rintro e w' ⟨rfl, rfl⟩)
    go_ret
    exact ⟨by rw [hfin.out]; rfl, by go_grown⟩

end Go.Proofs.Ytaghidaamcnpkaa
