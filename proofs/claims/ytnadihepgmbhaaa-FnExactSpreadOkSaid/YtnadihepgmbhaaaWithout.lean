/-
  Contracts of the program's hasThread and Without, over plain lists, whatever the program and the memory.
-/
import Derived.Test.YtnadihepgmbhaaaEdit
import Derived.Test.YtnadihepgmbhaaaIsProg
namespace Go.Proofs.Ytnadihepgmbhaaa
open Go.RowKit Pl
set_option maxHeartbeats 400000
set_option linter.unusedVariables false

/-- A program's answer: a program of the call's own, and whether there is one. -/
def Answer (w : World) (E : List (List Sm)) (ok : Bool) (e : Ending) (w' : World) : Prop :=
  ∃ A c, e = .returned (.tuple #[.agg #[.slice A E.length c], .bool ok]) ∧ Below w.heap.size w w' ∧ OwnRows2 w' w.heap.size w'.heap.size A E
def hasB (L : List (List Sm)) (th : Int) : Bool := progB L && inB th 0 ((L.length : Int) - 1)
def woB (L : List (List Sm)) (th at_ : Int) : Bool := hasB L th && inB at_ 0 (((L.getD th.toNat []).length : Int) - 1)
def woE (L : List (List Sm)) (th at_ : Int) : List (List Sm) := if woB L th at_ then L.set th.toNat ((L.getD th.toNat []).eraseIdx at_.toNat) else []

theorem inB_iff {n lo hi : Int} : inB n lo hi = true ↔ lo ≤ n ∧ n ≤ hi := by simp [inB]
theorem prog_small {L : List (List Sm)} (h : progB L = true) : 1 ≤ L.length ∧ L.length ≤ 3 ∧ ∀ xs ∈ L, xs.length ≤ 6 := by
  simp only [progB, Bool.and_eq_true, decide_eq_true_eq, List.all_eq_true] at h
  exact ⟨h.1.1, h.1.2, fun xs hx => thr_len (h.2.1 xs hx)⟩

theorem ihas_any (A : Option Addr) (L : List (List Sm)) (c : Nat) (th : Int) (w : World) (B : Nat) (h : Rows2 w B A L) (hB : B ≤ w.heap.size) (hm : L.length ≤ 1048576) (r : Bool) (hr : Hid (hasB L th = r)) :
    Calls Try.prog 75 #[.agg #[.slice A L.length c], .int .i64 th] w fun e w' => e = .returned (.bool r) ∧ Below w.heap.size w w' := by
  obtain ⟨W, hW⟩ : ∃ W, W = w.alloc (.cells #[.slice A L.length c] 36) := ⟨_, rfl⟩
  have bW : Below w.heap.size w W := by rw [hW]; go_grown
  have kW : Bk W w.heap.size 36 #[.slice A L.length c] := by rw [hW]; exact Bk.new _ _ _
  have BW := Lib.hid bW
  have KW := Lib.hid kW
  have HR := Lib.hid (h.below bW hB)
  have HBW : Hid (B ≤ W.heap.size) := Lib.hid (Nat.le_trans hB bW.size)
  have HW := Lib.hid hW
  clear hW bW kW h
  rcases Bool.eq_false_or_eq_true (progB L) with hp | hp
  all_goals
    have Hp := Lib.hid hp
    have hfin : Hid (r = (progB L && inB th 0 ((L.length : Int) - 1))) := Lib.hid (by rw [← hr.out]; rfl)
    clear hp hr
    go_enter Try.func75, Try.ntmps75
    go_wp2_with fail
    rw [← HW.out]
    refine (iprog_any A L c W B HR.out HBW.out (by unfold maxLen; omega) _ Hp).mono ?_
    rintro e w1 ⟨rfl, hb1⟩
    have hbox := (KW.out.below hb1 KW.out.lt).cell 0
    have hB1 := Lib.hid (below_on BW.out hb1)
    simp at hbox
    clear hb1
    go_wp2_with (go_at_call 76; refine (within_any _ _ _ _).mono ?_; rintro e w' ⟨rfl, rfl⟩)
    go_ret
    refine ⟨?_, hB1.out⟩
    rw [hfin.out, Hp.out]
    rfl

theorem splice_erase (xs : List Sm) (a : Nat) : splice xs a (a + 1) [] = xs.eraseIdx a := by
  rw [splice, List.nil_append, List.eraseIdx_eq_take_drop_succ]

end Go.Proofs.Ytnadihepgmbhaaa
