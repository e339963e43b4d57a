/-
  Numbers within limits: the program's numbersOk and atOk, and the reference model's l2All, come to plain functions.
-/
import Derived.Test.YtaghidaamcnpkabPg
import Derived.Test.YtaghidaamcnpkabSt
namespace Go.Proofs.Ytaghidaamcnpkab
open Go.RowKit Pl
set_option maxHeartbeats 400000
set_option linter.unusedVariables false

def allIn (xs : List Int) (lo hi : Int) : Bool := xs.all fun x => inB x lo hi
def numB (xs : List Int) (n lo hi : Int) : Bool := (xs.length : Int) == n && allIn xs lo hi
def atZ : List (List Sm) → List Int → Bool
  | [], [] => true
  | xs :: L, n :: r => inB n 0 xs.length && atZ L r
  | _, _ => false
theorem atZ_len {L : List (List Sm)} : ∀ {r : List Int}, atZ L r = true → r.length = L.length := by
  induction L with
  | nil => intro r h; cases r <;> simp_all [atZ]
  | cons x L ih => intro r h; cases r with
    | nil => simp [atZ] at h
    | cons n r => simp [atZ] at h; simp [ih h.2]
theorem atZ_ne {L : List (List Sm)} {r : List Int} (h : r.length ≠ L.length) : atZ L r = false := by
  rw [Bool.eq_false_iff]; exact fun e => h (atZ_len e)
theorem allIn_cons (x : Int) (r : List Int) (lo hi : Int) : allIn (x :: r) lo hi = (inB x lo hi && allIn r lo hi) := rfl

theorem prog_len {L : Pg} (h : progB L = true) : 1 ≤ L.length ∧ L.length ≤ 3 := by
  simp only [progB, Bool.and_eq_true, decide_eq_true_eq] at h
  exact h.1
theorem within_b (n lo hi : Int) (w : World) (r : Bool) (hr : Hid (inB n lo hi = r)) : Calls Try.prog 116 #[.int .i64 n, .int .i64 lo, .int .i64 hi] w fun e w' => e = .returned (.bool r) ∧ w = w' := by
  rw [← hr.out]; exact within_any n lo hi w
theorem l1In_b (n lo hi : Int) (w : World) (r : Bool) (hr : Hid (inB n lo hi = r)) : Calls Try.prog 47 #[.int .i64 n, .int .i64 lo, .int .i64 hi] w fun e w' => e = .returned (.bool r) ∧ w = w' := by
  rw [← hr.out]; exact l1In_any n lo hi w

theorem numok_any (A : Option Addr) (xs : List Int) (c : Nat) (n lo hi : Int) (w : World) (B : Nat) (h : Vs w B A (ints xs)) (hm : xs.length ≤ maxLen) (r : Bool) (hr : Hid (numB xs n lo hi = r)) :
    Calls Try.prog 89 #[.slice A xs.length c, .int .i64 n, .int .i64 lo, .int .i64 hi] w fun e w' => e = .returned (.bool r) ∧ w = w' := by
  unfold maxLen at hm
  by_cases hn : (xs.length : Int) = n
  · have hn' : ((xs.length : Int) != n) = false := by simp [hn]
    have hfin : Hid (allIn xs lo hi = r) := Lib.hid (by rw [← hr.out, numB]; simp [hn])
    clear hr hn
    go_enter Try.func89, Try.ntmps89
    go_wp2
    go_loop [17] (fun i => ∃ k : Nat, k ≤ xs.length ∧ i = .int .i64 k ∧ Hid (allIn (xs.drop k) lo hi = r)) (fun i => xs.length - (intOf i).toNat)
    case atStart => exact ⟨0, Nat.zero_le _, rfl, by simpa using hfin⟩
    case round =>
      obtain ⟨k, hk, rfl, hrest⟩ := hrel
      clear hfin hn'
      by_cases hlt : k < xs.length
      · obtain ⟨b, off, x, rfl, hb, hx, hd, hx0⟩ := h.int_ hlt
        have Hd := Lib.hid hd
        clear hd hx
        rcases Bool.eq_false_or_eq_true (inB x lo hi) with he | he
        all_goals
          have He := Lib.hid he
          clear he
          go_wp2_with (go_at_call 116; refine (within_b _ _ _ _ _ He).mono ?_; rintro e w' ⟨rfl, rfl⟩)
        · go_round
          case rel => exact ⟨k + 1, by omega, by go_num, Lib.hid (by
            have := hrest.out
            rw [Hd.out, allIn_cons, He.out] at this
            simpa using this)⟩
          case measure => simp [intOf]; omega
        · go_ret
          refine ⟨?_, rfl⟩
          have := hrest.out
          rw [Hd.out, allIn_cons, He.out] at this
          rw [← this]; rfl
      · have hlast : Hid (r = true) := Lib.hid (by
          have := hrest.out
          rw [List.drop_eq_nil_of_le (by omega)] at this
          rw [← this]; rfl)
        go_wp2
        go_ret
        exact ⟨by rw [hlast.out]; rfl, rfl⟩
  · have hn' : ((xs.length : Int) != n) = true := by simp [hn]
    have hfin : Hid (r = false) := Lib.hid (by rw [← hr.out, numB]; simp [hn])
    clear hr hn
    go_enter Try.func89, Try.ntmps89
    go_wp2
    go_ret
    exact ⟨by rw [hfin.out]; rfl, rfl⟩

theorem all_any (A : Option Addr) (xs : List Int) (c : Nat) (n lo hi : Int) (w : World) (B : Nat) (h : Vs w B A (ints xs)) (hm : xs.length ≤ maxLen) (r : Bool) (hr : Hid (numB xs n lo hi = r)) :
    Calls Try.prog 81 #[.slice A xs.length c, .int .i64 n, .int .i64 lo, .int .i64 hi] w fun e w' => e = .returned (.bool r) ∧ w = w' := by
  unfold maxLen at hm
  have hfin : Hid ((allIn xs lo hi && (xs.length : Int) == n) = r) := Lib.hid (by rw [← hr.out, numB, Bool.and_comm])
  clear hr
  go_enter Try.func81, Try.ntmps81
  go_wp2
  go_loop [9] (fun i => ∃ k : Nat, k ≤ xs.length ∧ i = .int .i64 k ∧ Hid ((allIn (xs.drop k) lo hi && (xs.length : Int) == n) = r)) (fun i => xs.length - (intOf i).toNat)
  case atStart => exact ⟨0, Nat.zero_le _, rfl, by simpa using hfin⟩
  case round =>
    obtain ⟨k, hk, rfl, hrest⟩ := hrel
    clear hfin
    by_cases hlt : k < xs.length
    · obtain ⟨b, off, x, rfl, hb, hx, hd, hx0⟩ := h.int_ hlt
      have Hd := Lib.hid hd
      clear hd hx
      rcases Bool.eq_false_or_eq_true (inB x lo hi) with he | he
      all_goals
        have He := Lib.hid he
        clear he
        go_wp2_with (go_at_call 47; refine (l1In_b _ _ _ _ _ He).mono ?_; rintro e w' ⟨rfl, rfl⟩)
      · go_round
        case rel => exact ⟨k + 1, by omega, by go_num, Lib.hid (by
          have := hrest.out
          rw [Hd.out, allIn_cons, He.out] at this
          simpa using this)⟩
        case measure => simp [intOf]; omega
      · go_ret
        refine ⟨?_, rfl⟩
        have := hrest.out
        rw [Hd.out, allIn_cons, He.out] at this
        rw [← this]; rfl
    · have hlast : Hid (((xs.length : Int) == n) = r) := Lib.hid (by
        have := hrest.out
        rw [List.drop_eq_nil_of_le (by omega)] at this
        rw [← this]; rfl)
      go_wp2
      go_ret
      exact ⟨by rw [← hlast.out]; rfl, rfl⟩

theorem atok_any (h : PgH) (L : Pg) (A : Option Addr) (xs : List Int) (c : Nat) (w : World) (B : Nat) (hP : PgR w B h L) (hV : Vs w B A (ints xs)) (hB : B ≤ w.heap.size) (hm : L.length ≤ maxLen) (hm2 : xs.length ≤ maxLen) (r : Bool) (hr : Hid (atZ L xs = r)) :
    Calls Try.prog 125 #[PgV h L, .slice A xs.length c] w fun e w' => e = .returned (.bool r) ∧ Below w.heap.size w w' := by
  unfold maxLen at hm hm2
  obtain ⟨W, hW⟩ : ∃ W, W = w.alloc (.cells #[.slice h.A L.length h.c] 32) := ⟨_, rfl⟩
  have bW : Below w.heap.size w W := by rw [hW]; go_grown
  have kW : Bk W w.heap.size 32 #[.slice h.A L.length h.c] := by rw [hW]; exact Bk.new _ _ _
  have cW := box_at kW
  have lW := kW.lt
  have P := Lib.hid (hP.below bW hB)
  have V := Lib.hid (hV.below bW hB)
  have BW := Lib.hid bW
  have HW := Lib.hid hW
  clear hW bW kW hP hV
  by_cases hn : xs.length = L.length
  · have hn' : ((xs.length : Int) != (L.length : Int)) = false := by simp [hn]
    have hle : xs.length ≤ L.length := by omega
    have hge : L.length ≤ xs.length := by omega
    clear hn
    go_enter Try.func125, Try.ntmps125
    go_wp2
    rw [← HW.out]
    go_loop [15] (fun i => ∃ k : Nat, k ≤ xs.length ∧ i = .int .i64 k ∧ Hid (atZ (L.drop k) (xs.drop k) = r)) (fun i => xs.length - (intOf i).toNat)
    case atStart => exact ⟨0, Nat.zero_le _, rfl, by simpa using hr⟩
    case round =>
      obtain ⟨k, hk, rfl, hrest⟩ := hrel
      clear hr hn'
      by_cases hlt : k < xs.length
      · obtain ⟨b, off, x, rfl, hb, hx, hd, hx0⟩ := V.out.int_ hlt
        obtain ⟨b2, off2, ys, Ai, ci, hA, hb2, -, hd2, hc2, -, hmy, -⟩ := Rows2.at_ P.out (show k < L.length by omega)
        have Hd := Lib.hid hd
        have Hd2 := Lib.hid hd2
        have hi2 : (k : Int) < (L.length : Int) := by omega
        unfold maxLen at hmy
        rw [hA] at cW
        clear hd hx hd2 hA
        rcases Bool.eq_false_or_eq_true (inB x 0 ys.length) with he | he
        all_goals
          have He := Lib.hid he
          clear he
          go_wp2_with (go_at_call 116; refine (within_b _ _ _ _ _ He).mono ?_; rintro e w' ⟨rfl, rfl⟩)
        · go_round
          case rel => exact ⟨k + 1, by omega, by go_num, Lib.hid (by
            have := hrest.out
            rw [Hd.out, Hd2.out, atZ, He.out] at this
            simpa using this)⟩
          case measure => simp [intOf]; omega
        · go_ret
          refine ⟨?_, BW.out⟩
          have := hrest.out
          rw [Hd.out, Hd2.out, atZ, He.out] at this
          rw [← this]; rfl
      · have hlast : Hid (r = true) := Lib.hid (by
          have := hrest.out
          rw [List.drop_eq_nil_of_le (by omega), List.drop_eq_nil_of_le (by omega)] at this
          rw [← this]; rfl)
        go_wp2
        go_ret
        exact ⟨by rw [hlast.out]; rfl, BW.out⟩
  · have hn' : ((xs.length : Int) != (L.length : Int)) = true := by simp; omega
    have hfin : Hid (r = false) := Lib.hid (by rw [← hr.out]; exact atZ_ne hn)
    clear hr hn
    go_enter Try.func125, Try.ntmps125
    go_wp2
    rw [← HW.out]
    go_ret
    exact ⟨by rw [hfin.out]; rfl, BW.out⟩
end Go.Proofs.Ytaghidaamcnpkab
