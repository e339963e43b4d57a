/-
  Contracts of StmtReads, StmtSets, StmtPlace, StmtWrites and Conflict, of the reference model and of the program, and of the laws' copy of a statement: each comes to the same plain function, whatever the statements and the memory.
-/
import Derived.Test.YtaghidaamcnpkaaNeeds
namespace Go.Proofs.Ytaghidaamcnpkaa
open Go.RowKit Pl
set_option maxHeartbeats 400000

theorem numin_any (k a b c : Int) (s : Bool) (r : Int) (w : World) : Calls Try.prog 44 #[St k a b c s, .int .i64 r] w fun e w' => e = .returned (.int .i64 (numZ k a b c s r)) ∧ Below w.heap.size w w' := by
  go_enter Try.func44, Try.ntmps44
  go_wp2_with (first | (go_at_call 61; refine (iok_any _ _ _ _ _ _).mono ?_; rintro e w1 ⟨rfl, hb⟩; obtain ⟨hc, hf⟩ := bcell hb; have hz : w.heap.size < w1.heap.size := (by have := hb.size; simp at this; omega); have hB : Below w.heap.size w w1 := below_step ((Below.refl _ _).alloc (Nat.le_refl _) _) hb; clear hb) | (go_at_call 62; refine (needs_any _ _).mono ?_; rintro e w2 ⟨rfl, hb2⟩; obtain ⟨hc2, hf2⟩ := bcell hb2; have hz2 : w.heap.size < w2.heap.size := Nat.lt_of_lt_of_le hz hb2.size; have hB2 : Below w.heap.size w w2 := below_step hB hb2; clear hb2))
  all_goals (go_ret; refine ⟨?_, by go_grown⟩; simp only [Bool.not_eq_true', Bool.not_eq_false', beq_iff_eq, beq_eq_false_iff_ne] at *; simp [numZ, *])

theorem toStmt_any (k a b c : Int) (s : Bool) (w : World) : Calls Try.prog 60 #[St k a b c s] w fun e w' => e = .returned (St k a b c s) ∧ Below w.heap.size w w' := by
  go_enter Try.func60, Try.ntmps60
  go_wp2
  go_returns
  exact ⟨rfl, by go_grown⟩

theorem iplace_any (k a b c : Int) (s : Bool) (w : World) : Calls Try.prog 23 #[St k a b c s] w fun e w' => e = .returned (.int .i64 (placeZ k a b c s)) ∧ Below w.heap.size w w' := by
  rw [← place_eq]
  go_enter Try.func23, Try.ntmps23
  go_wp2_with (go_at_call 44; refine (numin_any _ _ _ _ _ _ _).mono ?_; rintro e w1 ⟨rfl, hb⟩; have hB : Below w.heap.size w w1 := below_step ((Below.refl _ _).alloc (Nat.le_refl _) _) hb; clear hb)
  go_ret
  exact ⟨rfl, hB⟩
theorem iwrites_any (k a b c : Int) (s : Bool) (w : World) : Calls Try.prog 77 #[St k a b c s] w fun e w' => e = .returned (.bool (writesB k a b c s)) ∧ Below w.heap.size w w' := by
  rw [← writes_eq]
  go_enter Try.func77, Try.ntmps77
  go_wp2_with (first | (go_at_call 62; refine (needs_any _ _).mono ?_; rintro e w1 ⟨rfl, hb⟩; obtain ⟨hc, hf⟩ := bcell hb; have hz : w.heap.size < w1.heap.size := (by have := hb.size; simp at this; omega); have hB : Below w.heap.size w w1 := below_step ((Below.refl _ _).alloc (Nat.le_refl _) _) hb; clear hb) | (go_at_call 61; refine (iok_any _ _ _ _ _ _).mono ?_; rintro e w2 ⟨rfl, hb2⟩; have hB2 : Below w.heap.size w w2 := below_step (by go_grown) hb2; clear hb2))
  all_goals (go_ret; refine ⟨?_, by go_grown⟩; simp [*])

set_option maxRecDepth 100000 in
set_option maxHeartbeats 4000000 in
theorem splace_any (k a b c : Int) (s : Bool) (w : World) : Calls Try.prog 19 #[St k a b c s] w fun e w' => e = .returned (.int .i64 (placeZ k a b c s)) ∧ Below w.heap.size w w' := by
  rcases kinds k with rfl | rfl | rfl | rfl | rfl | rfl | rfl | rfl | rfl | rfl | rfl | h
  rotate_right
  have hn : okB k a b c s = false := by
    rw [Bool.eq_false_iff]; intro e; have := ok_range e; omega
  clear h
  all_goals
    go_enter Try.func19, Try.ntmps19
    go_wp2_with (first | (go_at_call 40; refine (l1In_any _ _ _ _).mono ?_; rintro e w' ⟨rfl, rfl⟩) | (go_at_call 39; refine (sok_any _ _ _ _ _ _).mono ?_; rintro e w1 ⟨rfl, hb⟩; obtain ⟨hc, hf⟩ := bcell hb; have hz : w.heap.size < w1.heap.size := (by have := hb.size; simp at this; omega); have hB : Below w.heap.size w w1 := below_step ((Below.refl _ _).alloc (Nat.le_refl _) _) hb; clear hb))
  all_goals (go_ret; refine ⟨?_, by go_grown⟩; (try simp only [Bool.not_eq_true', Bool.not_eq_false'] at *); simp [placeZ, *])
set_option maxRecDepth 100000 in
set_option maxHeartbeats 4000000 in
theorem swrites_any (k a b c : Int) (s : Bool) (w : World) : Calls Try.prog 48 #[St k a b c s] w fun e w' => e = .returned (.bool (writesB k a b c s)) ∧ Below w.heap.size w w' := by
  rcases kinds k with rfl | rfl | rfl | rfl | rfl | rfl | rfl | rfl | rfl | rfl | rfl | h
  rotate_right
  have hn : okB k a b c s = false := by
    rw [Bool.eq_false_iff]; intro e; have := ok_range e; omega
  clear h
  all_goals
    go_enter Try.func48, Try.ntmps48
    go_wp2_with (first | (go_at_call 40; refine (l1In_any _ _ _ _).mono ?_; rintro e w' ⟨rfl, rfl⟩) | (go_at_call 39; refine (sok_any _ _ _ _ _ _).mono ?_; rintro e w1 ⟨rfl, hb⟩; obtain ⟨hc, hf⟩ := bcell hb; have hz : w.heap.size < w1.heap.size := (by have := hb.size; simp at this; omega); have hB : Below w.heap.size w w1 := below_step ((Below.refl _ _).alloc (Nat.le_refl _) _) hb; clear hb))
  all_goals (go_ret; refine ⟨?_, by go_grown⟩; simp [writesB, inB, *])

end Go.Proofs.Ytaghidaamcnpkaa
