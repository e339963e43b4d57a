/-
  Contracts of the functions of chapter 1 that take statements by value: of the reference model and of the program; each comes to the plain function of XPlain, whatever the statement and the memory, and leaves all memory that was there as it was.
-/
import Derived.Test.YtaghidaamcnpkaaRows
import Derived.Test.YtaghidaamcnpkaaPlain
import Derived.WalkKit
import Derived.ProofKit
import Derived.OpenShut
import Derived.Below
import Derived.Handy
import Derived.Lib.Hide
import Derived.WalkSpells
namespace Go.Proofs.Ytaghidaamcnpkaa
open Go.RowKit Pl
set_option maxHeartbeats 400000

theorem bcell {W w1 : World} (hb : Below W.heap.size W w1) : (∀ b o, b < W.heap.size → w1.cell? ⟨b, o, none⟩ = W.cell? ⟨b, o, none⟩) ∧ (∀ b o, b < W.heap.size → w1.frozen? ⟨b, o, none⟩ = W.frozen? ⟨b, o, none⟩) :=
  ⟨fun b o h => hb.cell (p := ⟨b, o, none⟩) h, fun b o h => hb.frozen (p := ⟨b, o, none⟩) h⟩

abbrev St (k a b c : Int) (s : Bool) : Value := .agg #[.int .i64 k, .int .i64 a, .int .i64 b, .int .i64 c, .bool s]

/-! ### the reference model -/
theorem l1In_any (n lo hi : Int) (w : World) : Calls Try.prog 40 #[.int .i64 n, .int .i64 lo, .int .i64 hi] w fun e w' => e = .returned (.bool (inB n lo hi)) ∧ w = w' := by
  go_enter Try.func40, Try.ntmps40
  go_wp2
  all_goals (go_ret; refine ⟨?_, rfl⟩; simp [inB]; try omega)

theorem l1Val_any (r n : Int) (w : World) : Calls Try.prog 59 #[.int .i64 r, .int .i64 n] w fun e w' => e = .returned (.bool (valB r n)) ∧ w = w' := by
  go_enter Try.func59, Try.ntmps59
  go_wp2_with (go_at_call 40; refine (l1In_any _ _ _ _).mono ?_; rintro e w' ⟨rfl, rfl⟩)
  all_goals (go_ret; refine ⟨?_, rfl⟩; simp [valB, *])

set_option maxRecDepth 100000 in
set_option maxHeartbeats 8000000 in
theorem sok_any (k a b c : Int) (s : Bool) (w : World) : Calls Try.prog 39 #[St k a b c s] w fun e w' => e = .returned (.bool (okB k a b c s)) ∧ Below w.heap.size w w' := by
  rcases kinds k with rfl | rfl | rfl | rfl | rfl | rfl | rfl | rfl | rfl | rfl | rfl | h
  rotate_right
  have h0 : (k == 0) = false := by simp; omega
  have h1 : (k == 1) = false := by simp; omega
  have h2 : (k == 2) = false := by simp; omega
  have h3 : (k == 3) = false := by simp; omega
  have h4 : (k == 4) = false := by simp; omega
  have h5 : (k == 5) = false := by simp; omega
  have h6 : (k == 6) = false := by simp; omega
  have h7 : (k == 7) = false := by simp; omega
  have h8 : (k == 8) = false := by simp; omega
  have h9 : (k == 9) = false := by simp; omega
  have h10 : (k == 10) = false := by simp; omega
  have hne1 : (k != 1) = true := by simp; omega
  have hne2 : (k != 2) = true := by simp; omega
  have hfin : okB k a b c s = false := by simp at h0 h1 h2 h3 h4 h5 h6 h7 h8 h9 h10; simp [okB, *]
  have Hfin := Lib.hid hfin
  clear hfin h
  all_goals cases s
  all_goals
    go_enter Try.func39, Try.ntmps39
    go_wp2_with (first | (go_at_call 40; refine (l1In_any _ _ _ _).mono ?_; rintro e w' ⟨rfl, rfl⟩) | (go_at_call 59; refine (l1Val_any _ _ _).mono ?_; rintro e w' ⟨rfl, rfl⟩))
  all_goals
    go_ret
    refine ⟨?_, (Below.refl _ _).alloc (Nat.le_refl _) _⟩
    first | (rw [Hfin.out]; rfl) | simp [okB, *]

/-! ### the program -/
theorem within_any (n lo hi : Int) (w : World) : Calls Try.prog 42 #[.int .i64 n, .int .i64 lo, .int .i64 hi] w fun e w' => e = .returned (.bool (inB n lo hi)) ∧ w = w' := by
  go_enter Try.func42, Try.ntmps42
  go_wp2
  all_goals (go_ret; refine ⟨?_, rfl⟩; simp [inB]; try omega)

theorem role_any (r n : Int) (w : World) : Calls Try.prog 82 #[.int .i64 r, .int .i64 n] w fun e w' => e = .returned (.bool (roleB r n)) ∧ w = w' := by
  go_enter Try.func82, Try.ntmps82
  go_wp2_with (go_at_call 42; refine (within_any _ _ _ _).mono ?_; rintro e w' ⟨rfl, rfl⟩)
  all_goals (go_ret; refine ⟨?_, rfl⟩; simp only [beq_iff_eq, beq_eq_false_iff_ne] at *; simp [roleB, *])

end Go.Proofs.Ytaghidaamcnpkaa
