/-
  Contracts of the laws' functions over lists of numbers and of truths: sizes, copies, equality, marks, held marks.
-/
import Derived.Test.YtaghidaamcnpkabVs
import Derived.Test.YtaghidaamcnpkabCopy
namespace Go.Proofs.Ytaghidaamcnpkab
open Go.RowKit Pl
set_option maxHeartbeats 400000
set_option linter.unusedVariables false

theorem Try.info3 : (Try.prog.info? 3).map (fun i => (i.zero, i.size, i.bytes)) = some (some (.int .i64 0), 1, 8) := by kernel_rfl
theorem Try.info4 : (Try.prog.info? 4).map (fun i => (i.zero, i.size, i.bytes)) = some (some (.bool false), 1, 1) := by kernel_rfl

theorem szInt_any (A : Option Addr) (n c : Nat) (left : Int) (w : World) (hn : n ≤ maxLen) (h0 : 0 ≤ left) (h1 : left ≤ 1048576) :
    Calls Try.prog 45 #[.slice A n c, .int .i64 left] w fun e w' => e = .returned (.int .i64 (sz1 left n)) ∧ w = w' := by
  unfold maxLen at hn
  by_cases h : left - n < 0
  all_goals
    have hfin : Hid (sz1 left n = if left - n < 0 then -1 else left - n) := Lib.hid rfl
    go_enter Try.func45, Try.ntmps45
    go_wp2
    go_ret
    refine ⟨?_, rfl⟩
    rw [hfin.out]
    first | (rw [if_pos (by omega)]; rfl) | (rw [if_neg (by omega)]; rfl)
theorem toInt_any (A : Option Addr) (xs : List Int) (c : Nat) (w : World) (B : Nat) (h : Vs w B A (ints xs)) (hB : B ≤ w.heap.size) (hm : xs.length ≤ 1048576) :
    Calls Try.prog 9 #[.slice A xs.length c] w fun e w' => e = .returned (.slice (some ⟨w.heap.size, 0, none⟩) xs.length xs.length) ∧ CopyV w w' 3 (ints xs) (ints xs).length := by
  obtain ⟨i0, hi, hz0, hz1, hz2⟩ := info_parts Try.info3
  have hmk := make_any Try.underlying25 hi hz0 xs.length (by rw [hz2]; omega) (by omega)
  rw [hz1, Nat.mul_one] at hmk
  have start := Lib.hid (show CopyV w (w.alloc (.cells (madeCells #[.int .i64 0] xs.length) 3)) 3 (ints xs) 0 from
    ⟨(Below.refl _ _).alloc (Nat.le_refl _) _, _, Bk.new _ _ _, by simp [size_madeCells], fun j x hj => absurd hj (by omega)⟩)
  clear hz0 hz1 hz2 hi
  rw [ints_length]
  go_enter Try.func9, Try.ntmps9
  go_wp2
  go_loopw [4] (fun i wr => ∃ k : Nat, k ≤ xs.length ∧ i = .int .i64 k ∧ CopyV w wr 3 (ints xs) k) (fun i _ => xs.length - (intOf i).toNat)
  case atStart => exact ⟨0, Nat.zero_le _, rfl, start.out⟩
  case round =>
    obtain ⟨k, hk, rfl, hcp⟩ := hrel
    clear start hmk
    by_cases hlt : k < xs.length
    · obtain ⟨hbel, cs, hbk, hsz, -⟩ := id hcp
      rw [ints_length] at hsz
      obtain ⟨b, off, x, rfl, hb, hx, -, hx0⟩ := (h.below hbel hB).int_ hlt
      have Hx := Lib.hid (ints_at hx)
      have hg := hbk.lt
      have hz := hbel.size
      have hbw : b < wr.heap.size := by omega
      obtain ⟨v0, e0⟩ := hbk.some_ (i := k) (by omega)
      have q0 := hbk.free k
      clear hbk hsz h hx hbel
      have Hcp := Lib.hid hcp
      clear hcp
      go_wp2
      go_roundw
      case rel => exact ⟨k + 1, by omega, by go_num, Hcp.out.next Hx.out⟩
      case measure => simp [intOf]; omega
    · have : k = xs.length := by omega
      subst this
      go_wp2
      go_ret
      exact ⟨rfl, hcp⟩
theorem eqInt_any (A1 A2 : Option Addr) (xs ys : List Int) (c1 c2 : Nat) (w : World) (B : Nat) (h1 : Vs w B A1 (ints xs)) (h2 : Vs w B A2 (ints ys)) (hm1 : xs.length ≤ maxLen) (hm2 : ys.length ≤ maxLen) (r : Bool) (hr : Hid (decide (xs = ys) = r)) :
    Calls Try.prog 13 #[.slice A1 xs.length c1, .slice A2 ys.length c2] w fun e w' => e = .returned (.bool r) ∧ Below w.heap.size w w' := by
  unfold maxLen at hm1 hm2
  by_cases hne : xs.length = ys.length
  · have heq : ((xs.length : Int) != (ys.length : Int)) = false := by simp [hne]
    have hle : xs.length ≤ ys.length := by omega
    have hge : ys.length ≤ xs.length := by omega
    clear hne
    go_enter Try.func13, Try.ntmps13
    go_wp2
    go_loopw [5] (fun i wr => ∃ k : Nat, k ≤ xs.length ∧ i = .int .i64 k ∧ Below w.heap.size w wr ∧ (∀ b o, wr.cell? ⟨b, o, none⟩ = w.cell? ⟨b, o, none⟩) ∧ Hid (decide (xs.drop k = ys.drop k) = r)) (fun i _ => xs.length - (intOf i).toNat)
    case atStart => exact ⟨0, Nat.zero_le _, rfl, Below.refl _ _, fun _ _ => rfl, by simpa using hr⟩
    case round =>
      obtain ⟨k, hk, rfl, hbel, hsame, hrest⟩ := hrel
      clear hr heq
      by_cases hlt : k < xs.length
      · obtain ⟨b1, off1, x, rfl, hb1, -, hd1, hx0⟩ := (h1.keep (Nat.le_refl _) (fun b o _ => hsame b o)).int_ hlt
        obtain ⟨b2, off2, y, rfl, hb2, -, hd2, hy0⟩ := (h2.keep (Nat.le_refl _) (fun b o _ => hsame b o)).int_ (show k < ys.length by omega)
        have hi1 : (k : Int) < (xs.length : Int) := by omega
        have hi2 : (k : Int) < (ys.length : Int) := by omega
        have Hd1 := Lib.hid hd1
        have Hd2 := Lib.hid hd2
        have Hsame := Lib.hid hsame
        clear hd1 hd2 hsame h1 h2
        by_cases he : x = y
        · have he' : (x != y) = false := by simp [he]
          have He := Lib.hid he
          clear he
          go_wp2
          go_quiet (fail)
          go_wp2
          go_roundw
          case rel => exact ⟨k + 1, by omega, by go_num, below_drewN hbel _, fun b o => Hsame.out b o, by
            have := hrest.out
            rw [Hd1.out, Hd2.out, He.out] at this
            exact Lib.hid (by rw [← this]; simp)⟩
          case measure => simp [intOf]; omega
        · have he' : (x != y) = true := by simp [he]
          have He := Lib.hid he
          clear he
          go_wp2
          go_quiet (fail)
          go_wp2
          go_ret
          refine ⟨?_, below_drewN hbel _⟩
          have := hrest.out
          rw [Hd1.out, Hd2.out] at this
          rw [← this]
          simp [He.out]
      · have hlast : Hid (r = true) := Lib.hid (by
          have := hrest.out
          rw [List.drop_eq_nil_of_le (by omega), List.drop_eq_nil_of_le (by omega)] at this
          rw [← this]; rfl)
        go_wp2
        go_ret
        exact ⟨by rw [hlast.out]; rfl, hbel⟩
  · have hlast : Hid (r = false) := Lib.hid (by rw [← hr.out]; exact decide_eq_false (fun e => hne (by rw [e])))
    have heq : ((xs.length : Int) != (ys.length : Int)) = true := by simp; omega
    clear hr
    go_enter Try.func13, Try.ntmps13
    go_wp2
    go_ret
    exact ⟨by rw [hlast.out]; rfl, Below.refl _ _⟩
theorem eqBool_any (A1 A2 : Option Addr) (xs ys : List Bool) (c1 c2 : Nat) (w : World) (B : Nat) (h1 : Vs w B A1 (bools xs)) (h2 : Vs w B A2 (bools ys)) (hm1 : xs.length ≤ maxLen) (hm2 : ys.length ≤ maxLen) (r : Bool) (hr : Hid (decide (xs = ys) = r)) :
    Calls Try.prog 37 #[.slice A1 xs.length c1, .slice A2 ys.length c2] w fun e w' => e = .returned (.bool r) ∧ Below w.heap.size w w' := by
  unfold maxLen at hm1 hm2
  by_cases hne : xs.length = ys.length
  · have heq : ((xs.length : Int) != (ys.length : Int)) = false := by simp [hne]
    have hle : xs.length ≤ ys.length := by omega
    have hge : ys.length ≤ xs.length := by omega
    clear hne
    go_enter Try.func37, Try.ntmps37
    go_wp2
    go_loopw [5] (fun i wr => ∃ k : Nat, k ≤ xs.length ∧ i = .int .i64 k ∧ Below w.heap.size w wr ∧ (∀ b o, wr.cell? ⟨b, o, none⟩ = w.cell? ⟨b, o, none⟩) ∧ Hid (decide (xs.drop k = ys.drop k) = r)) (fun i _ => xs.length - (intOf i).toNat)
    case atStart => exact ⟨0, Nat.zero_le _, rfl, Below.refl _ _, fun _ _ => rfl, by simpa using hr⟩
    case round =>
      obtain ⟨k, hk, rfl, hbel, hsame, hrest⟩ := hrel
      clear hr heq
      by_cases hlt : k < xs.length
      · obtain ⟨b1, off1, x, rfl, hb1, -, hd1, hx0⟩ := (h1.keep (Nat.le_refl _) (fun b o _ => hsame b o)).bool_ hlt
        obtain ⟨b2, off2, y, rfl, hb2, -, hd2, hy0⟩ := (h2.keep (Nat.le_refl _) (fun b o _ => hsame b o)).bool_ (show k < ys.length by omega)
        have hi1 : (k : Int) < (xs.length : Int) := by omega
        have hi2 : (k : Int) < (ys.length : Int) := by omega
        have Hd1 := Lib.hid hd1
        have Hd2 := Lib.hid hd2
        have Hsame := Lib.hid hsame
        clear hd1 hd2 hsame h1 h2
        by_cases he : x = y
        · have he' : (!x == y) = false := by subst he; cases x <;> rfl
          have He := Lib.hid he
          clear he
          go_wp2
          go_quiet (fail)
          go_wp2
          go_roundw
          case rel => exact ⟨k + 1, by omega, by go_num, below_drewN hbel _, fun b o => Hsame.out b o, by
            have := hrest.out
            rw [Hd1.out, Hd2.out, He.out] at this
            exact Lib.hid (by rw [← this]; simp)⟩
          case measure => simp [intOf]; omega
        · have he' : (!x == y) = true := by clear hx0 hy0; cases x <;> cases y <;> simp_all
          have He := Lib.hid he
          clear he
          go_wp2
          go_quiet (fail)
          go_wp2
          go_ret
          refine ⟨?_, below_drewN hbel _⟩
          have := hrest.out
          rw [Hd1.out, Hd2.out] at this
          rw [← this]
          simp [He.out]
      · have hlast : Hid (r = true) := Lib.hid (by
          have := hrest.out
          rw [List.drop_eq_nil_of_le (by omega), List.drop_eq_nil_of_le (by omega)] at this
          rw [← this]; rfl)
        go_wp2
        go_ret
        exact ⟨by rw [hlast.out]; rfl, hbel⟩
  · have hlast : Hid (r = false) := Lib.hid (by rw [← hr.out]; exact decide_eq_false (fun e => hne (by rw [e])))
    have heq : ((xs.length : Int) != (ys.length : Int)) = true := by simp; omega
    clear hr
    go_enter Try.func37, Try.ntmps37
    go_wp2
    go_ret
    exact ⟨by rw [hlast.out]; rfl, Below.refl _ _⟩
/-- Marks over a row of numbers that is the call's own. -/
theorem markInt_any (n g c : Nat) (cs : Array Value) (K : Int) (w : World) (hbk : Bk w g 3 cs) (hsz : n ≤ cs.size) (hl : n ≤ 1048576) (hK : 0 ≤ K) (hK2 : K ≤ 1000000000) :
    Calls Try.prog 15 #[.slice (some ⟨g, 0, none⟩) n c, .int .i64 K] w fun e w' => e = .returned (.int .i64 (K + (n : Int))) ∧ MarkV w w' g 3 (ints (upI K n)) (ints (upI K n)).length := by
  have start : Hid (MarkV w w g 3 (ints (upI K n)) 0) := Lib.hid ⟨Only.refl _ _ _, cs, hbk, by simpa using hsz, fun j v hj => absurd hj (by omega)⟩
  clear hbk hsz
  rw [ints_length, upI_length]
  go_enter Try.func15, Try.ntmps15
  go_wp2
  go_loopw [1, 5] (fun q i wr => ∃ k : Nat, k ≤ n ∧ i = .int .i64 k ∧ q = .int .i64 (K + (k : Int)) ∧ MarkV w wr g 3 (ints (upI K n)) k) (fun _ i _ => n - (intOf i).toNat)
  case atStart => exact ⟨0, Nat.zero_le _, rfl, by simp, start.out⟩
  case round =>
    obtain ⟨k, hk, rfl, rfl, hmk⟩ := hrel
    clear start
    by_cases hlt : k < n
    · obtain ⟨-, cu, hb, hs, -⟩ := id hmk
      rw [ints_length, upI_length] at hs
      obtain ⟨v0, e0⟩ := hb.some_ (i := k) (by omega)
      have q0 := hb.free k
      have Next := Lib.hid (hmk.next (ints_at (upI_at K hlt)))
      clear hb hs hmk
      go_wp2
      go_roundw
      case rel => exact ⟨k + 1, by omega, by go_num, by go_num, Next.out⟩
      case measure => simp [intOf]; omega
    · have hkl : k = n := by omega
      subst hkl
      go_wp2
      go_ret
      exact ⟨rfl, hmk⟩
theorem markBool_any (n g c : Nat) (cs : Array Value) (K : Int) (w : World) (hbk : Bk w g 4 cs) (hsz : n ≤ cs.size) (hl : n ≤ 1048576) (hK : 0 ≤ K) (hK2 : K ≤ 1000000000) :
    Calls Try.prog 40 #[.slice (some ⟨g, 0, none⟩) n c, .int .i64 K] w fun e w' => e = .returned (.int .i64 (K + (n : Int))) ∧ MarkV w w' g 4 (bools (upB K n)) (bools (upB K n)).length := by
  have start : Hid (MarkV w w g 4 (bools (upB K n)) 0) := Lib.hid ⟨Only.refl _ _ _, cs, hbk, by simpa using hsz, fun j v hj => absurd hj (by omega)⟩
  clear hbk hsz
  rw [bools_length, upB_length]
  go_enter Try.func40, Try.ntmps40
  go_wp2
  go_loopw [1, 5] (fun q i wr => ∃ k : Nat, k ≤ n ∧ i = .int .i64 k ∧ q = .int .i64 (K + (k : Int)) ∧ MarkV w wr g 4 (bools (upB K n)) k) (fun _ i _ => n - (intOf i).toNat)
  case atStart => exact ⟨0, Nat.zero_le _, rfl, by simp, start.out⟩
  case round =>
    obtain ⟨k, hk, rfl, rfl, hmk⟩ := hrel
    clear start
    by_cases hlt : k < n
    · obtain ⟨-, cu, hb, hs, -⟩ := id hmk
      rw [bools_length, upB_length] at hs
      obtain ⟨v0, e0⟩ := hb.some_ (i := k) (by omega)
      have q0 := hb.free k
      have Next := Lib.hid (hmk.next (bools_at (upB_at K hlt)))
      clear hb hs hmk
      go_wp2
      go_roundw
      case rel => exact ⟨k + 1, by omega, by go_num, by go_num, Next.out⟩
      case measure => simp [intOf]; omega
    · have hkl : k = n := by omega
      subst hkl
      go_wp2
      go_ret
      exact ⟨rfl, hmk⟩
/-- A row without elements: nothing is written. -/
theorem markInt_none (A : Option Addr) (c : Nat) (K : Int) (w : World) (hK : 0 ≤ K) (hK2 : K ≤ 1000000000) :
    Calls Try.prog 15 #[.slice A 0 c, .int .i64 K] w fun e w' => e = .returned (.int .i64 K) ∧ w = w' := by
  go_enter Try.func15, Try.ntmps15
  go_wp2
  refine wp_loop_rounds 1 ?_
  rw [rounds_succ]
  go_wp2
  go_ret
  exact ⟨rfl, rfl⟩
theorem markBool_none (A : Option Addr) (c : Nat) (K : Int) (w : World) (hK : 0 ≤ K) (hK2 : K ≤ 1000000000) :
    Calls Try.prog 40 #[.slice A 0 c, .int .i64 K] w fun e w' => e = .returned (.int .i64 K) ∧ w = w' := by
  go_enter Try.func40, Try.ntmps40
  go_wp2
  refine wp_loop_rounds 1 ?_
  rw [rounds_succ]
  go_wp2
  go_ret
  exact ⟨rfl, rfl⟩
theorem heldInt_any (A : Option Addr) (n c : Nat) (K : Int) (w : World) (B : Nat) (h : Vs w B A (ints (upI K n))) (hl : n ≤ 1048576) (hK : 0 ≤ K) (hK2 : K ≤ 1000000000) :
    Calls Try.prog 24 #[.slice A n c, .int .i64 K] w fun e w' => e = .returned (.int .i64 (K + (n : Int))) ∧ w = w' := by
  go_enter Try.func24, Try.ntmps24
  go_wp2
  go_loop [1, 5] (fun q i => ∃ k : Nat, k ≤ n ∧ i = .int .i64 k ∧ q = .int .i64 (K + (k : Int))) (fun _ i => n - (intOf i).toNat)
  case atStart => exact ⟨0, Nat.zero_le _, rfl, by simp⟩
  case round =>
    obtain ⟨k, hk, rfl, rfl⟩ := hrel
    by_cases hlt : k < n
    · obtain ⟨b, off, x, rfl, hb, hx, -, hx0⟩ := h.int_ (k := k) (by rw [upI_length]; exact hlt)
      obtain rfl : K + (k : Int) = x := by
        rw [upI_at K hlt] at hx
        injection hx
      clear h hx
      go_wp2
      go_round
      case rel => exact ⟨k + 1, by omega, by go_num, by go_num⟩
      case measure => simp [intOf]; omega
    · have hkl : k = n := by omega
      subst hkl
      go_wp2
      go_ret
      exact ⟨rfl, rfl⟩
theorem heldBool_any (A : Option Addr) (n c : Nat) (K : Int) (w : World) (B : Nat) (h : Vs w B A (bools (upB K n))) (hl : n ≤ 1048576) (hK : 0 ≤ K) (hK2 : K ≤ 1000000000) :
    Calls Try.prog 41 #[.slice A n c, .int .i64 K] w fun e w' => e = .returned (.int .i64 (K + (n : Int))) ∧ w = w' := by
  go_enter Try.func41, Try.ntmps41
  go_wp2
  go_loop [1, 5] (fun q i => ∃ k : Nat, k ≤ n ∧ i = .int .i64 k ∧ q = .int .i64 (K + (k : Int))) (fun _ i => n - (intOf i).toNat)
  case atStart => exact ⟨0, Nat.zero_le _, rfl, by simp⟩
  case round =>
    obtain ⟨k, hk, rfl, rfl⟩ := hrel
    by_cases hlt : k < n
    · obtain ⟨b, off, x, rfl, hb, hx, -, hx0⟩ := h.bool_ (k := k) (by rw [upB_length]; exact hlt)
      obtain rfl : ((K + (k : Int)) % 3 == 0) = x := by
        rw [upB_at K hlt] at hx
        injection hx
      clear h hx
      go_wp2
      go_round
      case rel => exact ⟨k + 1, by omega, by go_num, by go_num⟩
      case measure => simp [intOf]; omega
    · have hkl : k = n := by omega
      subst hkl
      go_wp2
      go_ret
      exact ⟨rfl, rfl⟩
end Go.Proofs.Ytaghidaamcnpkab
