/-
  Contracts of the program's own table of kinds and of its StmtOk, over the same plain functions, whatever the statement and the memory.
-/
import Derived.Test.YtaghidaamcnpkaaStmts
namespace Go.Proofs.Ytaghidaamcnpkaa
open Go.RowKit Pl
set_option maxHeartbeats 400000

set_option maxRecDepth 100000 in
theorem needs_any (k : Int) (w : World) : Calls Try.prog 62 #[.int .i64 k] w fun e w' =>
    e = .returned (.tuple #[.agg #[.int .i64 (nA k), .int .i64 (nB k), .int .i64 (nC k), .bool (nS k), .bool (nW k)], .bool (nK k)]) ∧ Below w.heap.size w w' := by
  rcases kinds k with rfl | rfl | rfl | rfl | rfl | rfl | rfl | rfl | rfl | rfl | rfl | h
  rotate_right
  have hfin : nA k = 0 ∧ nB k = 0 ∧ nC k = 0 ∧ nS k = false ∧ nW k = false ∧ nK k = false := by
    have e : ∀ j : Int, 0 ≤ j → j ≤ 10 → k ≠ j := fun j _ _ => by omega
    have e0 := e 0 (by omega) (by omega); have e1 := e 1 (by omega) (by omega); have e2 := e 2 (by omega) (by omega); have e3 := e 3 (by omega) (by omega); have e4 := e 4 (by omega) (by omega); have e5 := e 5 (by omega) (by omega); have e6 := e 6 (by omega) (by omega); have e7 := e 7 (by omega) (by omega); have e8 := e 8 (by omega) (by omega); have e9 := e 9 (by omega) (by omega); have e10 := e 10 (by omega) (by omega)
    have e11 : inB k 0 10 = false := by simp [inB]; omega
    simp [nA, nB, nC, nS, nW, nK, *]
  obtain ⟨g0, g1, g2, g3, g4, g5⟩ := hfin
  rw [g0, g1, g2, g3, g4, g5]
  clear g0 g1 g2 g3 g4 g5
  all_goals
    go_enter Try.func62, Try.ntmps62
    go_wp2
  all_goals
    go_returns
    exact ⟨rfl, by go_grown⟩

theorem below_step {W V w1 : World} (h : Below W.heap.size W V) (hb : Below V.heap.size V w1) : Below W.heap.size W w1 := h.trans (hb.mono h.size)

theorem iok_core (k a b c : Int) (s : Bool) (w : World) : Calls Try.prog 61 #[St k a b c s] w fun e w' => e = .returned (.bool (nK k && !(s && !nS k) && (roleB (nA k) a && roleB (nB k) b && roleB (nC k) c))) ∧ Below w.heap.size w w' := by
  go_enter Try.func61, Try.ntmps61
  go_wp2_with (first | (go_at_call 82; refine (role_any _ _ _).mono ?_; rintro e w' ⟨rfl, rfl⟩) | (go_at_call 62; refine (needs_any _ _).mono ?_; rintro e w1 ⟨rfl, hb⟩; obtain ⟨hc, hf⟩ := bcell hb; have hz : w.heap.size < w1.heap.size := (by have := hb.size; simp at this; omega); have hB : Below w.heap.size w w1 := below_step ((Below.refl _ _).alloc (Nat.le_refl _) _) hb; clear hb))
  all_goals
    go_ret
    refine ⟨by simp [*], by go_grown⟩

/-- The program's StmtOk is the plain one. -/
theorem iok_any (k a b c : Int) (s : Bool) (w : World) : Calls Try.prog 61 #[St k a b c s] w fun e w' => e = .returned (.bool (okB k a b c s)) ∧ Below w.heap.size w w' := by
  rw [← ok_eq]; exact iok_core k a b c s w

end Go.Proofs.Ytaghidaamcnpkaa
