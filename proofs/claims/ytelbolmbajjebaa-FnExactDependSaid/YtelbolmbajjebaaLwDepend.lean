/-
  The walk of the law on Depend: it comes to true, whatever the events and the memory, and leaves all memory that was there as it was.
-/
import Derived.Test.YtelbolmbajjebaaDep3
import Derived.Test.YtelbolmbajjebaaDepTo
namespace Go.Proofs.Ytelbolmbajjebaa
open Go.RowKit Pl Go.BigFrame
set_option maxHeartbeats 4000000
set_option maxRecDepth 100000
set_option linter.unusedVariables false

theorem lawdepend (t i k a b c : Int) (s : Bool) (t' i' k' a' b' c' : Int) (s' : Bool) (w : World) : Calls Try.prog 4 #[Ev t i k a b c s, Ev t' i' k' a' b' c' s'] w fun e w' => e = .returned (.bool true) ∧ Below w.heap.size w w' := by
  have hS := fr_two w #[.int .i64 t, .int .i64 i, .int .i64 k, .int .i64 a, .int .i64 b, .int .i64 c, .bool s] #[.int .i64 t', .int .i64 i', .int .i64 k', .int .i64 a', .int .i64 b', .int .i64 c', .bool s'] 45 45
  have hc1 := @Ws.cells w [(w.heap.size, #[.int .i64 t, .int .i64 i, .int .i64 k, .int .i64 a, .int .i64 b, .int .i64 c, .bool s]), (w.heap.size + 1, #[.int .i64 t', .int .i64 i', .int .i64 k', .int .i64 a', .int .i64 b', .int .i64 c', .bool s'])] w.heap.size _ (List.mem_cons_self ..)
  have hc2 := @Ws.cells w [(w.heap.size, #[.int .i64 t, .int .i64 i, .int .i64 k, .int .i64 a, .int .i64 b, .int .i64 c, .bool s]), (w.heap.size + 1, #[.int .i64 t', .int .i64 i', .int .i64 k', .int .i64 a', .int .i64 b', .int .i64 c', .bool s'])] (w.heap.size + 1) _ (List.mem_cons_of_mem _ (List.mem_cons_self ..))
  haveI hne := Nonempty.intro (Ws.mk _ hS)
  have HS := Lib.hid hS
  clear hS
  go_enter Try.func4, Try.ntmps4
  go_wp2_with fail
  refine region_in (by kernel_rfl) HS.out.drew ?_
  repeat (go_big_quiet_step (first | (go_at_call 18; first | (with_reducible exact call_in (toEvent_any t i k a b c s _)) | (with_reducible exact call_in (toEvent_any t' i' k' a' b' c' s' _))) | (go_at_call 17; with_reducible exact call_in (sdep_any t i k a b c s t' i' k' a' b' c' s' _))))
  refine wpQuiet_nil ?_
  rintro _ ⟨⟨w2, hw2⟩, rfl⟩
  have bw2 := hw2.below
  go_wp2_with fail
  refine region_in (by kernel_rfl) hw2.drew ?_
  repeat (go_big_quiet_step (first | (go_at_call 18; first | (with_reducible exact call_in (toEvent_any t i k a b c s _)) | (with_reducible exact call_in (toEvent_any t' i' k' a' b' c' s' _))) | (go_at_call 19; with_reducible exact call_in (idep_any t i k a b c s t' i' k' a' b' c' s' _))))
  refine wpQuiet_nil ?_
  rintro _ ⟨⟨w3, hw3⟩, rfl⟩
  have bw3 := hw3.below
  go_wp2
  go_ret
  exact ⟨rfl, bw3⟩
end Go.Proofs.Ytelbolmbajjebaa
