/-
  Contracts of Depend, of the program and of the reference model, and of the laws' copy of an event.
-/
import Derived.Test.YtelbolmbajjebaaDep
namespace Go.Proofs.Ytelbolmbajjebaa
open Go.RowKit Pl Go.BigFrame
set_option maxHeartbeats 4000000
set_option maxRecDepth 100000
set_option linter.unusedVariables false

def depB (t i k a b c : Int) (s : Bool) (t' i' k' a' b' c' : Int) (s' : Bool) : Bool := t == t' || touB k a b c s k' a' b' c' s'
theorem idep_any (t i k a b c : Int) (s : Bool) (t' i' k' a' b' c' : Int) (s' : Bool) (w : World) : Calls Try.prog 19 #[Ev t i k a b c s, Ev t' i' k' a' b' c' s'] w fun e w' => e = .returned (.bool (depB t i k a b c s t' i' k' a' b' c' s')) ∧ Below w.heap.size w w' := by
  obtain ⟨q, hq⟩ := way k a b c s
  obtain ⟨r, hr⟩ := way k' a' b' c' s'
  have hl := qN_lt q
  have hl' := qN_lt r
  unfold depB
  rw [tou_eq hq hr]
  rcases Bool.eq_false_or_eq_true (t == t') with h0 | h0
  all_goals
    rw [h0]
    have hS := fr_two w #[.int .i64 t, .int .i64 i, .int .i64 k, .int .i64 a, .int .i64 b, .int .i64 c, .bool s] #[.int .i64 t', .int .i64 i', .int .i64 k', .int .i64 a', .int .i64 b', .int .i64 c', .bool s'] 49 49
    have hc1 := @Ws.cells w [(w.heap.size, #[.int .i64 t, .int .i64 i, .int .i64 k, .int .i64 a, .int .i64 b, .int .i64 c, .bool s]), (w.heap.size + 1, #[.int .i64 t', .int .i64 i', .int .i64 k', .int .i64 a', .int .i64 b', .int .i64 c', .bool s'])] w.heap.size _ (List.mem_cons_self ..)
    have hc2 := @Ws.cells w [(w.heap.size, #[.int .i64 t, .int .i64 i, .int .i64 k, .int .i64 a, .int .i64 b, .int .i64 c, .bool s]), (w.heap.size + 1, #[.int .i64 t', .int .i64 i', .int .i64 k', .int .i64 a', .int .i64 b', .int .i64 c', .bool s'])] (w.heap.size + 1) _ (List.mem_cons_of_mem _ (List.mem_cons_self ..))
    haveI hne := Nonempty.intro (Ws.mk _ hS)
    have HS := Lib.hid hS
    clear hS
    go_enter Try.func19, Try.ntmps19
    go_wp2_with fail
    refine region_in (by kernel_rfl) HS.out.drew ?_
    repeat (go_big_quiet_step (first | (go_at_call 37; first | (with_reducible exact call_in (sw_any hq _)) | (with_reducible exact call_in (sw_any hr _))) | (go_at_call 36; exact call_in (clash_any (qN q) (qN r) _ hl hl' _ (Lib.hid rfl)))))
    refine wpQuiet_nil ?_
    rintro _ ⟨⟨w2, hw2⟩, rfl⟩
    have bw2 := hw2.below
    go_wp2
    go_ret
    exact ⟨by simp, bw2⟩
end Go.Proofs.Ytelbolmbajjebaa
