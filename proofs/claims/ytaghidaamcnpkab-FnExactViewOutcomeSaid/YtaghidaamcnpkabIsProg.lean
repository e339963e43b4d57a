/-
  Contracts of the program's threadOk and ProgramOk: each comes to the plain function, whatever the program and the memory, and makes memory alone.
-/
import Derived.Test.YtaghidaamcnpkabSplice
import Derived.Test.YtaghidaamcnpkabCopy
import Derived.Test.YtaghidaamcnpkabVs
import Derived.LoopTactic
import Derived.Outline
namespace Go.Proofs.Ytaghidaamcnpkab
open Go.RowKit Pl
set_option maxHeartbeats 400000
set_option linter.unusedVariables false

/-- What a program of the call's own has come to behind k rounds, each thread in a new block. -/
def BuildS (w wr : World) (E : List (List Sm)) (k : Nat) : Prop :=
  Below w.heap.size w wr ∧ ∃ (cs : Array Value) (D C : Nat → Nat), Bk wr w.heap.size 111 cs ∧ cs.size = E.length ∧
    (∀ (i : Nat) (xs : List Sm), i < k → E[i]? = some xs → cs[i]? = some (.slice (some ⟨D i, 0, none⟩) xs.length (C i)) ∧ xs.length ≤ C i ∧ C i ≤ maxLen ∧ D i < wr.heap.size ∧ OwnRow wr (w.heap.size + 1) wr.heap.size (some ⟨D i, 0, none⟩) xs) ∧
    ∀ i j, i < j → j < k → D i < D j
theorem BuildS.next {w wr w1 : World} {E : List (List Sm)} {k c : Nat} {xs : List Sm} (h : BuildS w wr E k) (hb1 : Below wr.heap.size wr w1) (hnew : wr.heap.size < w1.heap.size)
    (hdone : OwnRow w1 wr.heap.size (wr.heap.size + 1) (some ⟨wr.heap.size, 0, none⟩) xs) (hc1 : xs.length ≤ c) (hc2 : c ≤ maxLen) (hx : E[k]? = some xs) :
    BuildS w (w1.setCell ⟨w.heap.size, k, none⟩ (.slice (some ⟨wr.heap.size, 0, none⟩) xs.length c)) E (k + 1) := by
  obtain ⟨h0, cs, D, C, hbk, hsz, hc0, hd⟩ := h
  have hk : k < E.length := (List.getElem?_eq_some_iff.1 hx).1
  have hlt := hbk.lt
  have hz := hb1.size
  have hset : ∀ i, i ≠ w.heap.size → (w1.setCell ⟨w.heap.size, k, none⟩ (.slice (some ⟨wr.heap.size, 0, none⟩) xs.length c)).heap[i]? = w1.heap[i]? := fun i hi => Below.heap_setCell w1 ⟨w.heap.size, k, none⟩ _ i hi
  have hs2 : (w1.setCell ⟨w.heap.size, k, none⟩ (.slice (some ⟨wr.heap.size, 0, none⟩) xs.length c)).heap.size = w1.heap.size := World.size_setCell ..
  refine ⟨(below_on h0 hb1).setCell (Nat.le_refl _) _, _, fun i => if i = k then wr.heap.size else D i, fun i => if i = k then c else C i, (hbk.below hb1 hlt).set _ _, by simpa using hsz, ?_, ?_⟩
  · intro i ys hi hy
    by_cases e : i = k
    · subst e
      obtain rfl : xs = ys := by rw [hx] at hy; injection hy
      refine ⟨by simp [hsz, hk], by simp [hc1], by simp [hc2], by simp [hs2, hnew], ?_⟩
      simp only [if_true]
      exact hdone.keep (by omega) (by omega) fun j hj _ => hset j (by omega)
    · obtain ⟨g0, g01, g02, g1, g2⟩ := hc0 i ys (by omega) hy
      simp only [if_neg e]
      refine ⟨?_, g01, g02, ?_, ?_⟩
      · rw [Array.getElem?_setIfInBounds_ne (by omega)]; exact g0
      · omega
      · exact g2.keep (by omega) (by omega) fun j hj hj2 => (hset j (by omega)).trans (hb1.block j hj2)
  · intro i j hij hj
    have hDi : D i < wr.heap.size := by
      have : i < E.length := by omega
      exact (hc0 i _ (by omega) (List.getElem?_eq_getElem this)).2.2.2.1
    by_cases e : j = k
    · have e' : i ≠ k := by omega
      simp only [if_pos e, if_neg e']
      exact hDi
    · have e' : i ≠ k := by omega
      simp only [if_neg e, if_neg e']
      exact hd i j hij (by omega)
theorem BuildS.done {w wr : World} {E : List (List Sm)} (h : BuildS w wr E E.length) : OwnRows2 wr w.heap.size wr.heap.size (some ⟨w.heap.size, 0, none⟩) E := fun _ => by
  obtain ⟨_, cs, D, C, hbk, _, hc, hd⟩ := h
  refine ⟨_, cs, fun i => some ⟨D i, 0, none⟩, C, rfl, Nat.le_refl _, hbk.lt, hbk, ?_, ?_⟩
  · intro i xs hi
    have hlt := (List.getElem?_eq_some_iff.1 hi).1
    obtain ⟨g0, g01, g02, _, g2⟩ := hc i xs hlt hi
    exact ⟨g0, g01, g02, (fun e0 => by cases e0), g2.keep (by omega) (Nat.le_refl _) fun _ _ _ => rfl⟩
  · intro i j xs ys hij hi hj _ _ e
    have := hd i j hij (List.getElem?_eq_some_iff.1 hj).1
    injection e with e
    injection e with e
    omega
theorem splice_zero (xs : List Sm) : splice xs 0 0 [] = xs := by simp [splice]

end Go.Proofs.Ytaghidaamcnpkab
namespace Go.Proofs.Ytaghidaamcnpkab
open Go.RowKit Pl
set_option maxHeartbeats 400000
set_option linter.unusedVariables false

theorem ithread_any (A : Option Addr) (xs : List Sm) (c : Nat) (w : World) (B : Nat) (h : Row w B A xs) (hB : B ≤ w.heap.size) (hm : xs.length ≤ maxLen) (r : Bool) (hr : Hid (thrB xs = r)) :
    Calls Try.prog 117 #[.slice A xs.length c] w fun e w' => e = .returned (.bool r) ∧ Below w.heap.size w w' := by
  unfold maxLen at hm
  by_cases h6 : 6 < xs.length
  · have hfin : Hid (r = false) := Lib.hid (by rw [← hr.out]; simp [thrB]; omega)
    clear hr
    go_enter Try.func117, Try.ntmps117
    go_wp2
    go_ret
    exact ⟨by rw [hfin.out]; rfl, Below.refl _ _⟩
  · have hfin : Hid (xs.all Sm.okb = r) := Lib.hid (by
      rw [← hr.out, thrB, decide_eq_true (show xs.length ≤ 6 by omega)]; rfl)
    clear hr
    go_enter Try.func117, Try.ntmps117
    go_wp2
    go_loopw [10] (fun i wr => ∃ k : Nat, k ≤ xs.length ∧ i = .int .i64 k ∧ Below w.heap.size w wr ∧ Hid ((xs.drop k).all Sm.okb = r)) (fun i _ => xs.length - (intOf i).toNat)
    case atStart => exact ⟨0, Nat.zero_le _, rfl, Below.refl _ _, by simpa using hfin⟩
    case round =>
      obtain ⟨k, hk, rfl, hbel, hrest⟩ := hrel
      clear hfin
      by_cases hlt : k < xs.length
      · obtain ⟨b, off, x, rfl, hb, hx, hd, hx0, hx1, hx2, hx3, hx4⟩ := (h.below hbel hB).at_ hlt
        have Hd := Lib.hid hd
        clear hd hx
        rcases Bool.eq_false_or_eq_true x.okb with he | he
        all_goals
          have He : Hid (okB x.k x.a x.b x.c x.s = _) := Lib.hid he
          clear he
          go_wp2_with (go_at_call 129; refine (ret_bool He.out (iok_any x.k x.a x.b x.c x.s _)).mono ?_; rintro e w1 ⟨rfl, hb1⟩; have hB1 : Below w.heap.size w w1 := below_on (hbel.alloc hbel.size _) hb1; clear hb1)
        · go_roundw
          case rel => exact ⟨k + 1, by omega, by go_num, hB1, Lib.hid (by
            have := hrest.out
            rw [Hd.out, List.all_cons, show x.okb = true from He.out] at this
            simpa using this)⟩
          case measure => simp [intOf]; omega
        · go_ret
          refine ⟨?_, hB1⟩
          have := hrest.out
          rw [Hd.out, List.all_cons, show x.okb = false from He.out] at this
          rw [← this]; rfl
      · have hlast : Hid (r = true) := Lib.hid (by
          have := hrest.out
          rw [List.drop_eq_nil_of_le (by omega)] at this
          rw [← this]; rfl)
        go_wp2
        go_ret
        exact ⟨by rw [hlast.out]; rfl, hbel⟩

theorem thr_len {xs : List Sm} (h : thrB xs = true) : xs.length ≤ 6 := by
  simp [thrB] at h; exact h.1

theorem iprog_any (A : Option Addr) (L : List (List Sm)) (c : Nat) (w : World) (B : Nat) (h : Rows2 w B A L) (hB : B ≤ w.heap.size) (hm : L.length ≤ maxLen) (r : Bool) (hr : Hid (progB L = r)) :
    Calls Try.prog 70 #[.agg #[.slice A L.length c]] w fun e w' => e = .returned (.bool r) ∧ Below w.heap.size w w' := by
  unfold maxLen at hm
  have hbox : (w.alloc (.cells #[.slice A L.length c] 32)).cell? ⟨w.heap.size, 0, none⟩ = some (.slice A L.length c) := by simp
  rcases Bool.eq_false_or_eq_true (inB (L.length : Int) 1 3) with h3 | h3
  · have hfin : Hid ((L.all thrB && decide (0 + total L ≤ 9)) = r) := Lib.hid (by
      rw [← hr.out, progB]
      have e1 : 1 ≤ L.length := by simp [inB] at h3; omega
      have e2 : L.length ≤ 3 := by simp [inB] at h3; omega
      simp [e1, e2])
    have hl3 : L.length ≤ 3 := by simp [inB] at h3; omega
    have H3 := Lib.hid h3
    clear hr h3 hbox
    go_enter Try.func70, Try.ntmps70
    go_wp2_with (go_at_call 116; refine (ret_bool H3.out (within_any (L.length : Int) 1 3 _)).mono ?_; rintro e w' ⟨rfl, rfl⟩)
    go_loopw [3, 14] (fun t i wr => ∃ k s : Nat, k ≤ L.length ∧ i = .int .i64 k ∧ t = .int .i64 s ∧ s ≤ 6 * k ∧ Below w.heap.size w wr ∧ Hid (((L.drop k).all thrB && decide (s + total (L.drop k) ≤ 9)) = r)) (fun _ i _ => L.length - (intOf i).toNat)
    case atStart => exact ⟨0, 0, Nat.zero_le _, rfl, rfl, by omega, by go_grown, by simpa using hfin⟩
    case round =>
      obtain ⟨k, s, hk, rfl, rfl, hs6, hbel, hrest⟩ := hrel
      clear hfin
      by_cases hlt : k < L.length
      · obtain ⟨b, off, xs, Ai, ci, rfl, hb, hx, hd, hx0, hlx, hmx, hrow⟩ := (h.below hbel hB).at_ hlt
        have Hd := Lib.hid hd
        have hz := hbel.size
        unfold maxLen at hmx
        clear hd hx
        rcases Bool.eq_false_or_eq_true (thrB xs) with he | he
        · have hl6 := thr_len he
          have He := Lib.hid he
          clear he
          go_wp2_with (go_at_call 117; refine (ithread_any _ _ _ _ B hrow (by omega) (by unfold maxLen; omega) _ He).mono ?_; rintro e w1 ⟨rfl, hb1⟩; have hB1 : Below w.heap.size w w1 := below_on hbel hb1; clear hb1)
          go_roundw
          case rel => exact ⟨k + 1, s + xs.length, by omega, by go_num, by go_num, by omega, hB1, Lib.hid (by
            have := hrest.out
            rw [Hd.out, List.all_cons, He.out, total_cons] at this
            rw [← this, Nat.add_assoc]; simp)⟩
          case measure => simp [intOf]; omega
        · have He := Lib.hid he
          clear he
          go_wp2_with (go_at_call 117; refine (ithread_any _ _ _ _ B hrow (by omega) (by unfold maxLen; omega) _ He).mono ?_; rintro e w1 ⟨rfl, hb1⟩; have hB1 : Below w.heap.size w w1 := below_on hbel hb1; clear hb1)
          go_ret
          refine ⟨?_, hB1⟩
          have := hrest.out
          rw [Hd.out, List.all_cons, He.out] at this
          rw [← this]; rfl
      · have hlast : Hid (r = decide (s ≤ 9)) := Lib.hid (by
          have := hrest.out
          rw [List.drop_eq_nil_of_le (by omega)] at this
          rw [← this]; simp [total])
        go_wp2
        go_ret
        refine ⟨?_, hbel⟩
        rw [hlast.out]
        simp
        try omega
  · have hfin : Hid (r = false) := Lib.hid (by
      rw [← hr.out, progB]
      have e1 : ¬ (1 ≤ L.length ∧ L.length ≤ 3) := by simp [inB] at h3; omega
      simp; intro a b; omega)
    have H3 := Lib.hid h3
    clear hr h3
    go_enter Try.func70, Try.ntmps70
    go_wp2_with (go_at_call 116; refine (ret_bool H3.out (within_any (L.length : Int) 1 3 _)).mono ?_; rintro e w' ⟨rfl, rfl⟩)
    go_ret
    exact ⟨by rw [hfin.out]; rfl, by go_grown⟩

end Go.Proofs.Ytaghidaamcnpkab
