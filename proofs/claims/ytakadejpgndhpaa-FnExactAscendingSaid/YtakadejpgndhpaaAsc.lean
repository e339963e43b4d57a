/-
  What Ascending comes to, of the program and of the reference model.
-/
import Derived.Test.YtakadejpgndhpaaSpecOk
import Derived.Test.YtakadejpgndhpaaPg
import Derived.Deep.RegionHeld3
namespace Go.Proofs.Ytakadejpgndhpaa
open Go.RowKit Pl
set_option maxHeartbeats 4000000
set_option maxRecDepth 100000
set_option linter.unusedVariables false

/-- The locks that a thread has behind a statement, of those that it has; none, if it may not do it. -/
def ascN (b0 b1 : Bool) (x : Sm) : Option (Bool × Bool) :=
  if x.k = 6 then (if x.a = 0 then (if b0 || b1 then none else some (true, b1)) else (if b1 then none else some (b0, true)))
  else if x.k = 7 then (if x.a = 0 then (if b0 then some (false, b1) else none) else (if b1 then some (b0, false) else none))
  else if x.k = 8 ∨ x.k = 9 ∨ x.k = 10 then none else some (b0, b1)
def ascR : List Sm → Bool → Bool → Bool
  | [], b0, b1 => !b0 && !b1
  | x :: xs, b0, b1 => match ascN b0 b1 x with
    | none => false
    | some (c0, c1) => ascR xs c0 c1
def ascB (L : Pg) : Bool := progB L && L.all fun xs => ascR xs false false

def encA (b0 b1 : Bool) : Int := if b0 then (if b1 then 3 else 1) else (if b1 then 2 else 0)
theorem ok_a01 {k a b c : Int} {s : Bool} (h : okB k a b c s = true) (hk : k = 6 ∨ k = 7) : a = 0 ∨ a = 1 := by
  rcases hk with rfl | rfl <;> cases s <;> simp [okB, inB] at h <;> omega
theorem hadbit_any (b0 b1 : Bool) (a : Int) (ha : a = 0 ∨ a = 1) (w : World) :
    Calls Try.prog 137 #[.int .u64 (encA b0 b1), .int .i64 a] w fun e w' => e = .returned (.bool (if a = 0 then b0 else b1)) ∧ w = w' := by
  rcases ha with rfl | rfl <;> cases b0 <;> cases b1
  all_goals
    simp only [encA]
    go_enter Try.func137, Try.ntmps137
    go_wp2
    go_ret
    exact ⟨by rfl, rfl⟩
/-- What hadBehind answers: the locks behind a statement, and whether it may be done. -/
def HadP (w : World) (q : Option (Bool × Bool)) (e : Ending) (w' : World) : Prop :=
  ∃ v, e = .returned (.tuple #[.int .u64 v, .bool q.isSome]) ∧ (∀ c0 c1, q = some (c0, c1) → v = encA c0 c1) ∧ Below w.heap.size w w'
theorem below_drewO {B : Nat} {w w' : World} (h : Below B w w') (q : Nat) : Below B w (w'.drewN q) := ⟨h.os, h.tape, h.output, h.size, h.block⟩
theorem hadb_any (b0 b1 : Bool) (x : Sm) (hx : x.okb = true) (w : World) :
    Calls Try.prog 148 #[.int .u64 (encA b0 b1), x.val] w (HadP w (ascN b0 b1 x)) := by
  obtain ⟨k, a, b, c, s⟩ := x
  have hx : okB k a b c s = true := hx
  by_cases h6 : k = 6
  · subst h6
    rcases ok_a01 hx (Or.inl rfl) with rfl | rfl <;> cases b0 <;> cases b1
    all_goals
      simp only [encA]
      go_enter Try.func148, Try.ntmps148
      go_wp2
      go_quiet (fail)
      go_wp2
      go_returns
      exact ⟨_, rfl, fun c0 c1 h => by cases h <;> rfl, below_drewO (by go_grown) _⟩
  by_cases h7 : k = 7
  · subst h7
    obtain ⟨W, hW⟩ : ∃ W, W = w.alloc (.cells #[.int .i64 7, .int .i64 a, .int .i64 b, .int .i64 c, .bool s] 97) := ⟨_, rfl⟩
    have bW := Lib.hid (show Below w.heap.size w W by rw [hW]; go_grown)
    have k0 : Bk W w.heap.size 97 #[.int .i64 7, .int .i64 a, .int .i64 b, .int .i64 c, .bool s] := by rw [hW]; exact Bk.new _ _ _
    have c0 : W.cell? ⟨w.heap.size, 0, none⟩ = some (.int .i64 7) := k0.cell 0
    have c1 : W.cell? ⟨w.heap.size, 1, none⟩ = some (.int .i64 a) := k0.cell 1
    have l0 := k0.lt
    have AllS := Lib.hid (show ∀ w' : World, Below W.heap.size W w' → (Below W.heap.size W w' ∧ w'.cell? ⟨w.heap.size, 1, none⟩ = some (Value.int .i64 a)) from fun w' hb => ⟨hb, (k0.below hb k0.lt).cell 1⟩)
    have HW := Lib.hid hW
    clear hW k0
    have hb := Lib.hid (fun (V : World) => hadbit_any b0 b1 a (ok_a01 hx (Or.inr rfl)) V)
    rcases ok_a01 hx (Or.inr rfl) with rfl | rfl
    · cases b0 <;> cases b1
      all_goals
        simp only [encA, Bool.false_eq_true, if_true, if_false] at hb ⊢
        go_enter Try.func148, Try.ntmps148
        go_wp2_with fail
        rw [← HW.out]
        go_wp2_with fail
        go_region_held3 (fun w' => Below W.heap.size W w' ∧ w'.cell? ⟨w.heap.size, 1, none⟩ = some (Value.int .i64 0)) (first | (go_split_ands; exact AllS.out _ (by go_grown)) | (exact AllS.out _ (by go_grown))) (first | (go_at_call 137; go_split_ands; refine (hb.out _).mono ?_; rintro e v1 ⟨rfl, rfl⟩))
        go_wp2
        go_returns
        exact ⟨_, rfl, fun c0 c1 h => by cases h <;> rfl, below_drewO bW.out _⟩
    · cases b0 <;> cases b1
      all_goals
        simp only [encA, Bool.false_eq_true, if_true, if_false] at hb ⊢
        go_enter Try.func148, Try.ntmps148
        go_wp2_with fail
        rw [← HW.out]
        go_wp2_with fail
        go_region_held3 (fun w' => Below W.heap.size W w' ∧ w'.cell? ⟨w.heap.size, 1, none⟩ = some (Value.int .i64 1)) (first | (go_split_ands; exact AllS.out _ (by go_grown)) | (exact AllS.out _ (by go_grown))) (first | (go_at_call 137; go_split_ands; refine (hb.out _).mono ?_; rintro e v1 ⟨rfl, rfl⟩))
        go_wp2
        go_returns
        exact ⟨_, rfl, fun c0 c1 h => by cases h <;> rfl, below_drewO bW.out _⟩
  by_cases h8 : k = 8 ∨ k = 9 ∨ k = 10
  · have e : ascN b0 b1 ⟨k, a, b, c, s⟩ = none := by simp only [ascN]; rw [if_neg h6, if_neg h7, if_pos h8]
    rw [e]
    generalize encA b0 b1 = n
    rcases h8 with rfl | rfl | rfl
    all_goals
      go_enter Try.func148, Try.ntmps148
      go_wp2
      go_returns
      exact ⟨_, rfl, fun c0 c1 h => (by cases h), by go_grown⟩
  · have e : ascN b0 b1 ⟨k, a, b, c, s⟩ = some (b0, b1) := by simp only [ascN]; rw [if_neg h6, if_neg h7, if_neg h8]
    rw [e]
    simp only [not_or] at h8
    obtain ⟨h8, h9, h10⟩ := h8
    generalize hn : encA b0 b1 = n
    have Hn := Lib.hid hn
    clear hn e
    go_enter Try.func148, Try.ntmps148
    go_wp2
    go_returns
    exact ⟨_, rfl, fun c0 c1 h => (by cases h; exact Hn.out.symm), by go_grown⟩
theorem iascends_any (A : Option Addr) (xs : List Sm) (c : Nat) (w : World) (B : Nat) (h : Row w B A xs) (hB : B ≤ w.heap.size) (hm : xs.length ≤ 6) (hok : Hid (∀ (i : Nat) (x : Sm), xs[i]? = some x → x.okb = true)) (r : Bool) (hr : Hid (ascR xs false false = r)) :
    Calls Try.prog 101 #[.slice A xs.length c] w fun e w' => e = .returned (.bool r) ∧ Below w.heap.size w w' := by
  go_enter Try.func101, Try.ntmps101
  go_wp2
  go_loopw [3, 10] (fun hv iv wr => ∃ (k : Nat) (b0 b1 : Bool), k ≤ xs.length ∧ iv = .int .i64 k ∧ hv = .int .u64 (encA b0 b1) ∧ Below w.heap.size w wr ∧ Hid (ascR (xs.drop k) b0 b1 = r)) (fun _ iv _ => xs.length - (intOf iv).toNat)
  case atStart => exact ⟨0, false, false, Nat.zero_le _, rfl, rfl, Below.refl _ _, by simpa using hr⟩
  case round =>
    obtain ⟨k, b0, b1, hk, rfl, rfl, hbel, hrest⟩ := hrel
    clear hr
    have hz := hbel.size
    by_cases hlt : k < xs.length
    · have hi1 : (k : Int) < (xs.length : Int) := by omega
      obtain ⟨b, off, x, rfl, hb, hx, hd, x0, x1, x2, x3, x4⟩ := (h.below hbel hB).at_ hlt
      have HX := Lib.hid (hok.out k x hx)
      have hbw : b < wr.heap.size := by omega
      have HRest := Lib.hid (show ascR (x :: xs.drop (k + 1)) b0 b1 = r by rw [← hd]; exact hrest.out)
      have HBel := Lib.hid hbel
      clear hx hd hrest hbel h
      go_wp2_with fail
      refine (hadb_any b0 b1 x HX.out _).mono ?_
      rintro e w1 ⟨v, rfl, hv, hb1⟩
      have B1 := Lib.hid (below_on (HBel.out.alloc hz _) hb1)
      clear hb1
      obtain ⟨q, hq⟩ : ∃ q, ascN b0 b1 x = q := ⟨_, rfl⟩
      have hr2 := HRest.out
      unfold ascR at hr2
      rw [hq] at hv hr2 ⊢
      cases q with
      | none =>
        have hfin : Hid (r = false) := Lib.hid hr2.symm
        clear hr2 hv HRest
        go_wp2
        go_ret
        exact ⟨by rw [hfin.out]; rfl, B1.out⟩
      | some q =>
        obtain ⟨c0, c1⟩ := q
        have HR2 := Lib.hid (show ascR (xs.drop (k + 1)) c0 c1 = r from hr2)
        obtain rfl := hv c0 c1 rfl
        clear hr2 hv HRest hq
        go_wp2
        go_roundw
        case rel => exact ⟨k + 1, c0, c1, by omega, by go_num, rfl, B1.out, HR2⟩
        case measure => simp [intOf]; omega
    · have hkl : k = xs.length := by omega
      subst hkl
      have hlast : Hid (r = (!b0 && !b1)) := Lib.hid (by
        have := hrest.out
        rw [List.drop_length] at this
        exact this.symm)
      clear hrest
      cases b0 <;> cases b1
      all_goals
        simp only [encA, Bool.false_eq_true, if_true, if_false]
        go_wp2
        go_ret
        exact ⟨by rw [hlast.out]; rfl, hbel⟩
theorem ascB_false {L : Pg} (h : progB L = false) : ascB L = false := by unfold ascB; rw [h]; rfl
theorem ascB_true {L : Pg} (h : progB L = true) : ascB L = L.all fun xs => ascR xs false false := by unfold ascB; rw [h]; rfl
theorem thr_okb {L : Pg} (h : progB L = true) {t : Nat} {xs : List Sm} (hx : L[t]? = some xs) : xs.length ≤ 6 ∧ ∀ (i : Nat) (x : Sm), xs[i]? = some x → x.okb = true := by
  simp only [progB, Bool.and_eq_true, decide_eq_true_eq] at h
  have h1 := List.all_eq_true.1 h.2.1 xs (List.mem_of_getElem? hx)
  simp only [thrB, Bool.and_eq_true, decide_eq_true_eq] at h1
  exact ⟨h1.1, fun i x hi => List.all_eq_true.1 h1.2 x (List.mem_of_getElem? hi)⟩
theorem iasc_any (h : PgH) (L : Pg) (w : World) (B : Nat) (hP : PgR w B h L) (hB : B ≤ w.heap.size) (SP : PgS L) (r : Bool) (hr : Hid (ascB L = r)) :
    Calls Try.prog 59 #[PgV h L] w fun e w' => e = .returned (.bool r) ∧ Below w.heap.size w w' := by
  have hm := (PgS_L SP).l
  obtain ⟨W, hW⟩ : ∃ W, W = w.alloc (.cells #[.slice h.A L.length h.c] 30) := ⟨_, rfl⟩
  have bW : Below w.heap.size w W := by rw [hW]; go_grown
  have KW := Lib.hid (show Bk W w.heap.size 30 #[.slice h.A L.length h.c] by rw [hW]; exact Bk.new _ _ _)
  have BW := Lib.hid bW
  have P0 := Lib.hid (hP.below bW hB)
  have HW := Lib.hid hW
  have hz := bW.size
  clear hW bW hP
  rcases Bool.eq_false_or_eq_true (progB L) with hL | hL
  rotate_left
  · have hfin : Hid (r = false) := Lib.hid (by rw [← hr.out]; exact ascB_false hL)
    have HL := Lib.hid hL
    clear hr hL
    go_enter Try.func59, Try.ntmps59
    go_wp2_with fail
    rw [← HW.out]
    refine (iprog_any h.A L h.c W B P0.out (by omega) hm false HL).mono ?_
    rintro e w1 ⟨rfl, hb⟩
    have B1 := Lib.hid (below_on BW.out hb)
    clear hb
    go_wp2
    go_ret
    exact ⟨by rw [hfin.out]; rfl, B1.out⟩
  have hr1 := hr.out
  rw [ascB_true hL] at hr1
  have HR := Lib.hid hr1
  have HL := Lib.hid hL
  have hl3 : L.length ≤ 3 := by simp only [progB, Bool.and_eq_true, decide_eq_true_eq] at hL; omega
  clear hr hr1 hL
  go_enter Try.func59, Try.ntmps59
  go_wp2_with fail
  rw [← HW.out]
  refine (iprog_any h.A L h.c W B P0.out (by omega) hm true HL).mono ?_
  rintro e w1 ⟨rfl, hb⟩
  have B1 := Lib.hid (below_on BW.out hb)
  have K1 := Lib.hid (KW.out.below hb KW.out.lt)
  have P1 := Lib.hid (P0.out.below hb (by omega))
  have z1 := hb.size
  have c1 : w1.cell? ⟨w.heap.size, 0, none⟩ = some (.slice h.A L.length h.c) := K1.out.cell 0
  clear hb
  go_wp2
  clear c1
  go_loopw [11] (fun iv wr => ∃ k : Nat, k ≤ L.length ∧ iv = .int .i64 k ∧ Below w1.heap.size w1 wr ∧ Hid (((L.drop k).all fun xs => ascR xs false false) = r)) (fun iv _ => L.length - (intOf iv).toNat)
  case atStart => exact ⟨0, Nat.zero_le _, rfl, Below.refl _ _, by simpa using HR⟩
  case round =>
    obtain ⟨k, hk, rfl, hbel, hrest⟩ := hrel
    have hz2 := hbel.size
    by_cases hlt : k < L.length
    · have hi1 : (k : Int) < (L.length : Int) := by omega
      obtain ⟨b, off, xs, Ai, ci, hA, hb, hx, hd, hx0, hlx, hmx, hrow⟩ := (P1.out.below hbel (by omega)).at_ hlt
      obtain ⟨h6, hok⟩ := thr_okb HL.out hx
      have HOK := Lib.hid hok
      have HRow := Lib.hid hrow
      have HD := Lib.hid hd
      have hbw : b < wr.heap.size := by omega
      have HB := Lib.hid (below_on B1.out hbel)
      have HBel := Lib.hid hbel
      have hm2 : ci ≤ 9223372036854775807 := by unfold maxLen at hmx; omega
      clear hx hd hbel hok hrow
      rw [hA]
      rcases Bool.eq_false_or_eq_true (ascR xs false false) with he | he
      all_goals
        have He := Lib.hid he
        have hr2 := hrest.out
        rw [HD.out, List.all_cons, he] at hr2
        have HR2 := Lib.hid hr2
        clear he hr2 hrest
        go_wp2_with fail
        refine (iascends_any Ai xs ci wr B HRow.out (by omega) h6 HOK _ He).mono ?_
        rintro e w3 ⟨rfl, hb3⟩
        have B3 := Lib.hid (below_on HBel.out hb3)
        have B4 := Lib.hid (below_on HB.out hb3)
        clear hb3
        go_wp2
      · go_roundw
        case rel => exact ⟨k + 1, by omega, by go_num, B3.out, Lib.hid (by have := HR2.out; simpa using this)⟩
        case measure => simp [intOf]; omega
      · go_ret
        exact ⟨by have := HR2.out; rw [← this]; rfl, B4.out⟩
    · have hkl : k = L.length := by omega
      subst hkl
      have hfin : Hid (r = true) := Lib.hid (by
        have := hrest.out
        rw [List.drop_length] at this
        exact this.symm)
      have HB := Lib.hid (below_on B1.out hbel)
      clear hrest hbel
      go_wp2
      go_ret
      exact ⟨by rw [hfin.out]; rfl, HB.out⟩
end Go.Proofs.Ytakadejpgndhpaa
