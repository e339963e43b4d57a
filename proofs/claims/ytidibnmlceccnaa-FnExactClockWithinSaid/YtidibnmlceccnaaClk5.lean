/-
  What ClockWithin comes to, of the program and of the reference model.
-/
import Derived.Test.YtidibnmlceccnaaOrdS
import Derived.Test.YtidibnmlceccnaaIs
namespace Go.Proofs.Ytidibnmlceccnaa
open Go.RowKit Pl
set_option maxHeartbeats 1000000
set_option linter.unusedVariables false

def leL : List Int → List Int → Bool
  | x :: xs, y :: ys => !decide (y < x) && leL xs ys
  | _, _ => true
def withL (xs ys : List Int) : Bool := xs.length == ys.length && leL xs ys
theorem leL_nil (ys : List Int) : leL [] ys = true := by cases ys <;> rfl
theorem leL_no {x y : Int} {xs ys : List Int} {r : Bool} (hxy : y < x) (h : leL (x :: xs) (y :: ys) = r) : r = false := by
  rw [← h, leL, decide_eq_true hxy]; rfl
theorem leL_on {x y : Int} {xs ys : List Int} {r : Bool} (hxy : ¬ y < x) (h : leL (x :: xs) (y :: ys) = r) : leL xs ys = r := by
  rw [← h, leL, decide_eq_false hxy]; rfl

theorem iwithin_any (k1 : IsH) (xs : List Int) (k2 : IsH) (ys : List Int) (w : World) (B : Nat) (h1 : IsR w B k1 xs) (h2 : IsR w B k2 ys) (hB : B ≤ w.heap.size) (S1 : IsS xs) (S2 : IsS ys) (r : Bool) (hr : Hid (withL xs ys = r)) :
    Calls Try.prog 51 #[IsV k1 xs, IsV k2 ys] w fun e w' => e = .returned (.bool r) ∧ Below w.heap.size w w' := by
  obtain ⟨A1, c1⟩ := k1
  obtain ⟨A2, c2⟩ := k2
  show Calls Try.prog 51 #[.slice A1 xs.length c1, .slice A2 ys.length c2] w _
  obtain ⟨h1⟩ := h1
  obtain ⟨h2⟩ := h2
  have h1 : Vs w B A1 (ints xs) := h1
  have h2 : Vs w B A2 (ints ys) := h2
  have hm1 := S1.l0
  have hm2 := S2.l0
  clear S1 S2
  have hr0 := hr.out
  clear hr
  unfold withL at hr0
  by_cases hlen : xs.length = ys.length
  · have hr1 : leL xs ys = r := by rw [← hr0]; simp [hlen]
    have hne : ((xs.length : Int) != (ys.length : Int)) = false := by simp; omega
    have Hr := Lib.hid hr1
    have hle1 := Nat.le_of_eq hlen
    have hle2 := Nat.le_of_eq hlen.symm
    clear hr0 hr1 hlen
    go_enter Try.func51, Try.ntmps51
    go_wp2
    go_loopw [13] (fun i wr => ∃ k : Nat, k ≤ xs.length ∧ i = .int .i64 k ∧ Below w.heap.size w wr ∧ (∀ b o, wr.cell? ⟨b, o, none⟩ = w.cell? ⟨b, o, none⟩) ∧ Hid (leL (xs.drop k) (ys.drop k) = r)) (fun i _ => xs.length - (intOf i).toNat)
    case atStart => exact ⟨0, Nat.zero_le _, rfl, Below.refl _ _, fun _ _ => rfl, by simpa using Hr⟩
    case round =>
      obtain ⟨k, hk, rfl, hbel, hsame, hrest⟩ := hrel
      clear Hr
      by_cases hlt : k < xs.length
      · obtain ⟨b1, off1, x, rfl, hb1, -, hd1, hx0⟩ := (h1.keep (Nat.le_refl _) (fun b o _ => hsame b o)).int_ hlt
        obtain ⟨b2, off2, y, rfl, hb2, -, hd2, hy0⟩ := (h2.keep (Nat.le_refl _) (fun b o _ => hsame b o)).int_ (show k < ys.length by omega)
        have hi1 : (k : Int) < (xs.length : Int) := by omega
        have hi2 : (k : Int) < (ys.length : Int) := by omega
        have Hsame := Lib.hid hsame
        have hr2 := hrest.out
        rw [hd1, hd2] at hr2
        clear hd1 hd2 hsame h1 h2 hrest
        by_cases hyx : y < x
        · have hres := Lib.hid (leL_no hyx hr2)
          clear hr2
          go_wp2
          go_quiet (fail)
          go_wp2
          go_ret
          exact ⟨by rw [hres.out]; rfl, below_drewN hbel _⟩
        · have hres := Lib.hid (leL_on hyx hr2)
          clear hr2
          go_wp2
          go_quiet (fail)
          go_wp2
          go_roundw
          case rel => exact ⟨k + 1, by omega, by go_num, below_drewN hbel _, fun b o => Hsame.out b o, hres⟩
          case measure => simp [intOf]; omega
      · have hkm : k = xs.length := by omega
        subst hkm
        have hlast : Hid (r = true) := Lib.hid (by
          have := hrest.out
          rw [List.drop_length, leL_nil] at this; exact this.symm)
        clear hrest
        go_wp2
        go_ret
        exact ⟨by rw [hlast.out]; rfl, hbel⟩
  · have hr1 : r = false := by rw [← hr0]; simp [hlen]
    have hne : ((xs.length : Int) != (ys.length : Int)) = true := by simp; omega
    have Hr := Lib.hid hr1
    clear hr0 hr1
    go_enter Try.func51, Try.ntmps51
    go_wp2
    go_ret
    exact ⟨by rw [Hr.out]; rfl, Below.refl _ _⟩
theorem swithin_any (k1 : IsH) (xs : List Int) (k2 : IsH) (ys : List Int) (w : World) (B : Nat) (h1 : IsR w B k1 xs) (h2 : IsR w B k2 ys) (hB : B ≤ w.heap.size) (S1 : IsS xs) (S2 : IsS ys) (r : Bool) (hr : Hid (withL xs ys = r)) :
    Calls Try.prog 50 #[IsV k1 xs, IsV k2 ys] w fun e w' => e = .returned (.bool r) ∧ Below w.heap.size w w' := by
  obtain ⟨A1, c1⟩ := k1
  obtain ⟨A2, c2⟩ := k2
  show Calls Try.prog 50 #[.slice A1 xs.length c1, .slice A2 ys.length c2] w _
  obtain ⟨h1⟩ := h1
  obtain ⟨h2⟩ := h2
  have h1 : Vs w B A1 (ints xs) := h1
  have h2 : Vs w B A2 (ints ys) := h2
  have hm1 := S1.l0
  have hm2 := S2.l0
  clear S1 S2
  have hr0 := hr.out
  clear hr
  unfold withL at hr0
  by_cases hlen : xs.length = ys.length
  · have hr1 : leL xs ys = r := by rw [← hr0]; simp [hlen]
    have hne : ((xs.length : Int) != (ys.length : Int)) = false := by simp; omega
    have Hr := Lib.hid hr1
    have hle1 := Nat.le_of_eq hlen
    have hle2 := Nat.le_of_eq hlen.symm
    clear hr0 hr1 hlen
    go_enter Try.func50, Try.ntmps50
    go_wp2
    go_loopw [5] (fun i wr => ∃ k : Nat, k ≤ xs.length ∧ i = .int .i64 k ∧ Below w.heap.size w wr ∧ (∀ b o, wr.cell? ⟨b, o, none⟩ = w.cell? ⟨b, o, none⟩) ∧ Hid (leL (xs.drop k) (ys.drop k) = r)) (fun i _ => xs.length - (intOf i).toNat)
    case atStart => exact ⟨0, Nat.zero_le _, rfl, Below.refl _ _, fun _ _ => rfl, by simpa using Hr⟩
    case round =>
      obtain ⟨k, hk, rfl, hbel, hsame, hrest⟩ := hrel
      clear Hr
      by_cases hlt : k < xs.length
      · obtain ⟨b1, off1, x, rfl, hb1, -, hd1, hx0⟩ := (h1.keep (Nat.le_refl _) (fun b o _ => hsame b o)).int_ hlt
        obtain ⟨b2, off2, y, rfl, hb2, -, hd2, hy0⟩ := (h2.keep (Nat.le_refl _) (fun b o _ => hsame b o)).int_ (show k < ys.length by omega)
        have hi1 : (k : Int) < (xs.length : Int) := by omega
        have hi2 : (k : Int) < (ys.length : Int) := by omega
        have Hsame := Lib.hid hsame
        have hr2 := hrest.out
        rw [hd1, hd2] at hr2
        clear hd1 hd2 hsame h1 h2 hrest
        by_cases hyx : y < x
        · have hres := Lib.hid (leL_no hyx hr2)
          clear hr2
          go_wp2
          go_quiet (fail)
          go_wp2
          go_ret
          exact ⟨by rw [hres.out]; rfl, below_drewN hbel _⟩
        · have hres := Lib.hid (leL_on hyx hr2)
          clear hr2
          go_wp2
          go_quiet (fail)
          go_wp2
          go_roundw
          case rel => exact ⟨k + 1, by omega, by go_num, below_drewN hbel _, fun b o => Hsame.out b o, hres⟩
          case measure => simp [intOf]; omega
      · have hkm : k = xs.length := by omega
        subst hkm
        have hlast : Hid (r = true) := Lib.hid (by
          have := hrest.out
          rw [List.drop_length, leL_nil] at this; exact this.symm)
        clear hrest
        go_wp2
        go_ret
        exact ⟨by rw [hlast.out]; rfl, hbel⟩
  · have hr1 : r = false := by rw [← hr0]; simp [hlen]
    have hne : ((xs.length : Int) != (ys.length : Int)) = true := by simp; omega
    have Hr := Lib.hid hr1
    clear hr0 hr1
    go_enter Try.func50, Try.ntmps50
    go_wp2
    go_ret
    exact ⟨by rw [Hr.out]; rfl, Below.refl _ _⟩
end Go.Proofs.Ytidibnmlceccnaa
