/-
  Contracts of Depend, of the program and of the reference model: both come to the same plain function, whatever the events and the memory.
-/
import Derived.Test.YtaghidaamcnpkabPlainD
import Derived.Test.YtaghidaamcnpkabWord
namespace Go.Proofs.Ytaghidaamcnpkab
open Go.RowKit Pl Go.BigFrame
set_option maxHeartbeats 4000000
set_option maxRecDepth 100000
set_option linter.unusedVariables false

abbrev Ev (t i k a b c : Int) (s : Bool) : Value := .agg #[.int .i64 t, .int .i64 i, .int .i64 k, .int .i64 a, .int .i64 b, .int .i64 c, .bool s]
theorem fr_one (w : World) (cs : Array Value) (t : TypeId) : Fr w [(w.heap.size, cs)] (w.alloc (.cells cs t)) :=
  ⟨by go_grown, fun b cs' hm => by
    simp only [List.mem_cons, Prod.mk.injEq, List.not_mem_nil, or_false] at hm
    obtain ⟨rfl, rfl⟩ := hm
    exact ⟨by simp, fun i => World.cell?_alloc_mark w cs' t (0, 0) i⟩⟩
theorem ret_int {f : FuncId} {args : Array Value} {v b : Int} {w : World} {R : World → Prop} (h : v = b) (c : Calls Try.prog f args w fun e w' => e = .returned (.int .i64 v) ∧ R w') :
    Calls Try.prog f args w fun e w' => e = .returned (.int .i64 b) ∧ R w' := by rw [← h]; exact c
set_option maxHeartbeats 8000000 in
theorem schan_any (k a b c : Int) (s : Bool) (w : World) : Calls Try.prog 114 #[St k a b c s] w fun e w' => e = .returned (.int .i64 (chanZ k a b c s)) ∧ Below w.heap.size w w' := by
  rcases kinds k with rfl | rfl | rfl | rfl | rfl | rfl | rfl | rfl | rfl | rfl | rfl | h
  rotate_right
  have hn : okB k a b c s = false := by
    rw [Bool.eq_false_iff]; intro e; have := ok_range e; omega
  clear h
  all_goals
    go_enter Try.func114, Try.ntmps114
    go_wp2_with (first | (go_at_call 111; have hz0 := hz; refine (sok_any _ _ _ _ _ _).mono ?_; rintro e w2 ⟨rfl, hb2⟩; obtain ⟨hc2, hf2⟩ := bcell hb2; have hz2 : w.heap.size < w2.heap.size := Nat.lt_of_lt_of_le hz hb2.size; have hB2 : Below w.heap.size w w2 := below_step hB hb2; clear hb2) | (go_at_call 111; refine (sok_any _ _ _ _ _ _).mono ?_; rintro e w1 ⟨rfl, hb⟩; obtain ⟨hc, hf⟩ := bcell hb; have hz : w.heap.size < w1.heap.size := (by have := hb.size; simp at this; omega); have hB : Below w.heap.size w w1 := below_step (by go_grown) hb; clear hb))
  all_goals (go_ret; refine ⟨?_, by go_grown⟩; simp [chanZ, *])
theorem q_0 : qP 0 = 0 ∧ qW 0 = false ∧ qL 0 = (-1) ∧ qC 0 = (-1) ∧ qN 0 = 8 := by decide +kernel
theorem q_1 : qP 1 = 1 ∧ qW 1 = false ∧ qL 1 = (-1) ∧ qC 1 = (-1) ∧ qN 1 = 16 := by decide +kernel
theorem q_2 : qP 2 = 2 ∧ qW 2 = false ∧ qL 2 = (-1) ∧ qC 2 = (-1) ∧ qN 2 = 32 := by decide +kernel
theorem q_3 : qP 3 = 0 ∧ qW 3 = true ∧ qL 3 = (-1) ∧ qC 3 = (-1) ∧ qN 3 = 8200 := by decide +kernel
theorem q_4 : qP 4 = 1 ∧ qW 4 = true ∧ qL 4 = (-1) ∧ qC 4 = (-1) ∧ qN 4 = 16400 := by decide +kernel
theorem q_5 : qP 5 = 2 ∧ qW 5 = true ∧ qL 5 = (-1) ∧ qC 5 = (-1) ∧ qN 5 = 32800 := by decide +kernel
theorem q_6 : qP 6 = (-1) ∧ qW 6 = false ∧ qL 6 = 0 ∧ qC 6 = (-1) ∧ qN 6 = 65600 := by decide +kernel
theorem q_7 : qP 7 = (-1) ∧ qW 7 = false ∧ qL 7 = 1 ∧ qC 7 = (-1) ∧ qN 7 = 131200 := by decide +kernel
theorem q_8 : qP 8 = (-1) ∧ qW 8 = false ∧ qL 8 = (-1) ∧ qC 8 = 0 ∧ qN 8 = 262400 := by decide +kernel
theorem q_9 : qP 9 = (-1) ∧ qW 9 = false ∧ qL 9 = (-1) ∧ qC 9 = 1 ∧ qN 9 = 524800 := by decide +kernel
theorem q_10 : qP 10 = (-1) ∧ qW 10 = false ∧ qL 10 = (-1) ∧ qC 10 = (-1) ∧ qN 10 = 0 := by decide +kernel
end Go.Proofs.Ytaghidaamcnpkab
