/-
  Contracts of the laws' equality functions: each says whether two lists that memory holds are one and the same, and makes memory alone.
-/
import Derived.Test.YtaghidaamcnpkaaMem
import Derived.Test.YtaghidaamcnpkaaFrame
import Derived.LoopTactic
import Derived.Outline
namespace Go.Proofs.Ytaghidaamcnpkaa
open Go.RowKit Pl Go.BigFrame
set_option maxHeartbeats 400000
set_option linter.unusedVariables false

def Sm.eqb (x y : Sm) : Bool := decide (x = y)
theorem Sm.eqb_of (x y : Sm) : x.eqb y = (x.k == y.k && (x.a == y.a && (x.b == y.b && (x.c == y.c && x.s == y.s)))) := by
  cases x; cases y
  simp [Sm.eqb, Bool.decide_and]
  rfl

theorem eqStmt_any (x y : Sm) (w : World) : Calls Try.prog 63 #[x.val, y.val] w fun e w' => e = .returned (.bool (x.eqb y)) ∧ Below w.heap.size w w' := by
  rw [Sm.eqb_of]
  go_enter Try.func63, Try.ntmps63
  go_wp2
  all_goals (go_ret; refine ⟨?_, by go_grown⟩; simp only [bne_iff_ne, ne_eq, bne_eq_false_iff_eq, Bool.not_eq_true', Bool.not_eq_false', beq_iff_eq, beq_eq_false_iff_ne] at *; simp [*])

theorem eqS_any (A1 A2 : Option Addr) (xs ys : List Sm) (c1 c2 : Nat) (w : World) (B : Nat) (h1 : Row w B A1 xs) (h2 : Row w B A2 ys) (hB : B ≤ w.heap.size) (hm1 : xs.length ≤ maxLen) (hm2 : ys.length ≤ maxLen) (r : Bool) (hr : Hid (decide (xs = ys) = r)) :
    Calls Try.prog 45 #[.slice A1 xs.length c1, .slice A2 ys.length c2] w fun e w' => e = .returned (.bool r) ∧ Below w.heap.size w w' := by
  unfold maxLen at hm1 hm2
  by_cases hne : xs.length = ys.length
  · have heq : ((xs.length : Int) != (ys.length : Int)) = false := by simp [hne]
    have hle : xs.length ≤ ys.length := by omega
    have hge : ys.length ≤ xs.length := by omega
    clear hne
    go_enter Try.func45, Try.ntmps45
    go_wp2
    go_loopw [5] (fun i wr => ∃ k : Nat, k ≤ xs.length ∧ i = .int .i64 k ∧ Below w.heap.size w wr ∧ Hid (decide (xs.drop k = ys.drop k) = r)) (fun i _ => xs.length - (intOf i).toNat)
    case atStart => exact ⟨0, Nat.zero_le _, rfl, Below.refl _ _, by simpa using hr⟩
    case round =>
      obtain ⟨k, hk, rfl, hbel, hrest⟩ := hrel
      clear hr heq
      by_cases hlt : k < xs.length
      · have R1 := h1.below hbel hB
        have R2 := h2.below hbel hB
        obtain ⟨b1, off1, x, rfl, hb1, -, hd1, hx0, hx1, hx2, hx3, hx4⟩ := R1.at_ hlt
        obtain ⟨b2, off2, y, rfl, hb2, -, hd2, hy0, hy1, hy2, hy3, hy4⟩ := R2.at_ (show k < ys.length by omega)
        have hz := hbel.size
        have hi1 : (k : Int) < (xs.length : Int) := by omega
        have hi2 : (k : Int) < (ys.length : Int) := by omega
        have Hd1 := Lib.hid hd1
        have Hd2 := Lib.hid hd2
        have hS := fr_none wr
        have gx0 := Ws.same (bs := []) (by omega) hx0
        have gx1 := Ws.same (bs := []) (by omega) hx1
        have gx2 := Ws.same (bs := []) (by omega) hx2
        have gx3 := Ws.same (bs := []) (by omega) hx3
        have gx4 := Ws.same (bs := []) (by omega) hx4
        have gy0 := Ws.same (bs := []) (by omega) hy0
        have gy1 := Ws.same (bs := []) (by omega) hy1
        have gy2 := Ws.same (bs := []) (by omega) hy2
        have gy3 := Ws.same (bs := []) (by omega) hy3
        have gy4 := Ws.same (bs := []) (by omega) hy4
        haveI hne := Nonempty.intro (Ws.mk _ hS)
        have HS := Lib.hid hS
        clear hS hd1 hd2 hx0 hx1 hx2 hx3 hx4 hy0 hy1 hy2 hy3 hy4 R1 R2 h1 h2
        rcases Bool.eq_false_or_eq_true (x.eqb y) with he | he
        all_goals
          have He := Lib.hid he
          clear he
          go_wp2_with fail
          refine region_in (by kernel_rfl) HS.out.drew ?_
          repeat (go_big_quiet_step ((go_at_call 63; exact call_in (ret_bool He.out (eqStmt_any x y _)))))
          refine wpQuiet_nil ?_
          rintro w2 ⟨⟨_, hw2⟩, rfl⟩
          have hB2 : Below w.heap.size w w2 := below_on hbel hw2.below
          clear gx0 gx1 gx2 gx3 gx4 gy0 gy1 gy2 gy3 gy4
          go_wp2
        · go_roundw
          case rel => exact ⟨k + 1, by omega, by go_num, hB2, by
            have hxy : x = y := of_decide_eq_true He.out
            have := hrest.out
            rw [Hd1.out, Hd2.out, hxy] at this
            exact Lib.hid (by rw [← this]; simp)⟩
          case measure => simp [intOf]; omega
        · go_ret
          refine ⟨?_, hB2⟩
          have hxy : x ≠ y := of_decide_eq_false He.out
          have := hrest.out
          rw [Hd1.out, Hd2.out] at this
          rw [← this]
          simp [hxy]
      · have hlast : Hid (r = true) := Lib.hid (by
          have := hrest.out
          rw [List.drop_eq_nil_of_le (by omega), List.drop_eq_nil_of_le (by omega)] at this
          rw [← this]; rfl)
        go_wp2
        go_ret
        exact ⟨by rw [hlast.out]; rfl, hbel⟩
  · have hlast : Hid (r = false) := Lib.hid (by rw [← hr.out]; exact decide_eq_false (fun e => hne (by rw [e])))
    have heq : ((xs.length : Int) != (ys.length : Int)) = true := by simp; omega
    clear hr
    go_enter Try.func45, Try.ntmps45
    go_wp2
    go_ret
    exact ⟨by rw [hlast.out]; rfl, Below.refl _ _⟩

theorem eqSS_any (A1 A2 : Option Addr) (L1 L2 : List (List Sm)) (c1 c2 : Nat) (w : World) (B : Nat) (h1 : Rows2 w B A1 L1) (h2 : Rows2 w B A2 L2) (hB : B ≤ w.heap.size) (hm1 : L1.length ≤ maxLen) (hm2 : L2.length ≤ maxLen) (r : Bool) (hr : Hid (decide (L1 = L2) = r)) :
    Calls Try.prog 25 #[.slice A1 L1.length c1, .slice A2 L2.length c2] w fun e w' => e = .returned (.bool r) ∧ Below w.heap.size w w' := by
  unfold maxLen at hm1 hm2
  by_cases hne : L1.length = L2.length
  · have heq : ((L1.length : Int) != (L2.length : Int)) = false := by simp [hne]
    have hle : L1.length ≤ L2.length := by omega
    have hge : L2.length ≤ L1.length := by omega
    clear hne
    go_enter Try.func25, Try.ntmps25
    go_wp2
    go_loopw [5] (fun i wr => ∃ k : Nat, k ≤ L1.length ∧ i = .int .i64 k ∧ Below w.heap.size w wr ∧ Hid (decide (L1.drop k = L2.drop k) = r)) (fun i _ => L1.length - (intOf i).toNat)
    case atStart => exact ⟨0, Nat.zero_le _, rfl, Below.refl _ _, by simpa using hr⟩
    case round =>
      obtain ⟨k, hk, rfl, hbel, hrest⟩ := hrel
      clear hr heq
      by_cases hlt : k < L1.length
      · have R1 := h1.below hbel hB
        have R2 := h2.below hbel hB
        obtain ⟨b1, off1, xs, Ai, ci, rfl, hb1, -, hd1, hx0, hlx, hmx, hrx⟩ := R1.at_ hlt
        obtain ⟨b2, off2, ys, Aj, cj, rfl, hb2, -, hd2, hy0, hly, hmy, hry⟩ := R2.at_ (show k < L2.length by omega)
        have hz := hbel.size
        have hi1 : (k : Int) < (L1.length : Int) := by omega
        have hi2 : (k : Int) < (L2.length : Int) := by omega
        have Hd1 := Lib.hid hd1
        have Hd2 := Lib.hid hd2
        have Gx := Lib.hid (fun x : Ws (Fr wr []) => hrx.below x.ok.below (by omega))
        have Gy := Lib.hid (fun x : Ws (Fr wr []) => hry.below x.ok.below (by omega))
        have hS := fr_none wr
        have gx0 := Ws.same (bs := []) (by omega) hx0
        have gy0 := Ws.same (bs := []) (by omega) hy0
        have gz : ∀ x : Ws (Fr wr []), B ≤ x.val.heap.size := fun x => by have := x.ok.below.size; omega
        have Gz := Lib.hid gz
        haveI hne := Nonempty.intro (Ws.mk _ hS)
        have HS := Lib.hid hS
        clear hS hd1 hd2 hx0 hy0 R1 R2 h1 h2 hrx hry gz
        rcases Bool.eq_false_or_eq_true (decide (xs = ys)) with he | he
        all_goals
          have He := Lib.hid he
          clear he
          go_wp2_with fail
          refine region_in (by kernel_rfl) HS.out.drew ?_
          repeat (go_big_quiet_step ((go_at_call 45; exact call_in (eqS_any Ai Aj xs ys ci cj _ B (Gx.out _) (Gy.out _) (Gz.out _) (by omega) (by omega) _ He))))
          refine wpQuiet_nil ?_
          rintro w2 ⟨⟨_, hw2⟩, rfl⟩
          have hB2 : Below w.heap.size w w2 := below_on hbel hw2.below
          clear gx0 gy0
          go_wp2
        · go_roundw
          case rel => exact ⟨k + 1, by omega, by go_num, hB2, by
            have hxy : xs = ys := of_decide_eq_true He.out
            have := hrest.out
            rw [Hd1.out, Hd2.out, hxy] at this
            exact Lib.hid (by rw [← this]; simp)⟩
          case measure => simp [intOf]; omega
        · go_ret
          refine ⟨?_, hB2⟩
          have hxy : xs ≠ ys := of_decide_eq_false He.out
          have := hrest.out
          rw [Hd1.out, Hd2.out] at this
          rw [← this]
          simp [hxy]
      · have hlast : Hid (r = true) := Lib.hid (by
          have := hrest.out
          rw [List.drop_eq_nil_of_le (by omega), List.drop_eq_nil_of_le (by omega)] at this
          rw [← this]; rfl)
        go_wp2
        go_ret
        exact ⟨by rw [hlast.out]; rfl, hbel⟩
  · have hlast : Hid (r = false) := Lib.hid (by rw [← hr.out]; exact decide_eq_false (fun e => hne (by rw [e])))
    have heq : ((L1.length : Int) != (L2.length : Int)) = true := by simp; omega
    clear hr
    go_enter Try.func25, Try.ntmps25
    go_wp2
    go_ret
    exact ⟨by rw [hlast.out]; rfl, Below.refl _ _⟩

/-- A program's value. -/
abbrev Pr (A : Option Addr) (n c : Nat) : Value := .agg #[.slice A n c]
theorem eqP_any (A1 A2 : Option Addr) (L1 L2 : List (List Sm)) (c1 c2 : Nat) (w : World) (B : Nat) (h1 : Rows2 w B A1 L1) (h2 : Rows2 w B A2 L2) (hB : B ≤ w.heap.size) (hm1 : L1.length ≤ maxLen) (hm2 : L2.length ≤ maxLen) (r : Bool) (hr : Hid (decide (L1 = L2) = r)) :
    Calls Try.prog 10 #[Pr A1 L1.length c1, Pr A2 L2.length c2] w fun e w' => e = .returned (.bool r) ∧ Below w.heap.size w w' := by
  have H1 := Lib.hid (h1.below (below_on (Below.refl _ _) ((Below.refl _ _).alloc (Nat.le_refl _) (.cells #[.slice A1 L1.length c1] 29))) hB)
  have b2 : Below w.heap.size w ((w.alloc (.cells #[.slice A1 L1.length c1] 29)).alloc (.cells #[.slice A2 L2.length c2] 29)) := by go_grown
  have G1 := Lib.hid (h1.below b2 hB)
  have G2 := Lib.hid (h2.below b2 hB)
  have hz : B ≤ ((w.alloc (.cells #[.slice A1 L1.length c1] 29)).alloc (.cells #[.slice A2 L2.length c2] 29)).heap.size := by have := b2.size; omega
  have Hz := Lib.hid hz
  have Hb2 := Lib.hid b2
  clear h1 h2 b2 hz H1
  cases r
  all_goals
    go_enter Try.func10, Try.ntmps10
    go_wp2_with (go_at_call 25; refine (eqSS_any A1 A2 L1 L2 c1 c2 _ B G1.out G2.out Hz.out hm1 hm2 _ hr).mono ?_; rintro e w1 ⟨rfl, hb⟩; have hBw : Below w.heap.size w w1 := below_on Hb2.out hb; clear hb)
    go_ret
    exact ⟨rfl, hBw⟩

end Go.Proofs.Ytaghidaamcnpkaa
