/-
  Contracts of the reference model's Depend, and of the laws' copy of an event.
-/
import Derived.Test.YtidibnmlceccnaaDep
namespace Go.Proofs.Ytidibnmlceccnaa
open Go.RowKit Pl Go.BigFrame
set_option maxHeartbeats 4000000
set_option maxRecDepth 100000
set_option linter.unusedVariables false

def depB (t i k a b c : Int) (s : Bool) (t' i' k' a' b' c' : Int) (s' : Bool) : Bool := t == t' || touB k a b c s k' a' b' c' s'
end Go.Proofs.Ytidibnmlceccnaa
namespace Go.Proofs.Ytidibnmlceccnaa
open Go.RowKit Pl Go.BigFrame
set_option maxHeartbeats 4000000
set_option maxRecDepth 100000
set_option linter.unusedVariables false

theorem sdep_any (t i k a b c : Int) (s : Bool) (t' i' k' a' b' c' : Int) (s' : Bool) (w : World) : Calls Try.prog 136 #[Ev t i k a b c s, Ev t' i' k' a' b' c' s'] w fun e w' => e = .returned (.bool (depB t i k a b c s t' i' k' a' b' c' s')) ∧ Below w.heap.size w w' := by
  unfold depB touB
  by_cases hh : t == t' || conB k a b c s k' a' b' c' s'
  · have e : (t == t' || (conB k a b c s k' a' b' c' s' || ((decide (0 ≤ lockZ k a b c s) && lockZ k a b c s == lockZ k' a' b' c' s') || (decide (0 ≤ chanZ k a b c s) && chanZ k a b c s == chanZ k' a' b' c' s')))) = true := by
      rw [← Bool.or_assoc, hh, Bool.true_or]
    rw [e]
    clear e
    rcases Bool.eq_false_or_eq_true (t == t') with h0 | h0
    rotate_left
    rw [h0, Bool.false_or] at hh
    all_goals
      have hS := fr_two w #[.int .i64 t, .int .i64 i, .int .i64 k, .int .i64 a, .int .i64 b, .int .i64 c, .bool s] #[.int .i64 t', .int .i64 i', .int .i64 k', .int .i64 a', .int .i64 b', .int .i64 c', .bool s'] 81 81
      have hc1 := @Ws.cells w [(w.heap.size, #[.int .i64 t, .int .i64 i, .int .i64 k, .int .i64 a, .int .i64 b, .int .i64 c, .bool s]), (w.heap.size + 1, #[.int .i64 t', .int .i64 i', .int .i64 k', .int .i64 a', .int .i64 b', .int .i64 c', .bool s'])] w.heap.size _ (List.mem_cons_self ..)
      have hc2 := @Ws.cells w [(w.heap.size, #[.int .i64 t, .int .i64 i, .int .i64 k, .int .i64 a, .int .i64 b, .int .i64 c, .bool s]), (w.heap.size + 1, #[.int .i64 t', .int .i64 i', .int .i64 k', .int .i64 a', .int .i64 b', .int .i64 c', .bool s'])] (w.heap.size + 1) _ (List.mem_cons_of_mem _ (List.mem_cons_self ..))
      haveI hne := Nonempty.intro (Ws.mk _ hS)
      have HS := Lib.hid hS
      clear hS
      go_enter Try.func136, Try.ntmps136
      go_wp2_with (go_at_call 176; refine (ret_bool hh (sconf_any k a b c s k' a' b' c' s' _)).mono ?_; rintro e w1 ⟨rfl, hb1⟩; have hw1 := HS.out.step hb1; have hB1 := hw1.below; have hd1 := (hw1.blocks w.heap.size _ (List.mem_cons_self ..)).2; have hd2 := (hw1.blocks (w.heap.size + 1) _ (List.mem_cons_of_mem _ (List.mem_cons_self ..))).2; clear hb1)
      go_ret
      exact ⟨rfl, by go_grown⟩
  · rw [Bool.not_eq_true, Bool.or_eq_false_iff] at hh
    obtain ⟨h0, hh⟩ := hh
    rw [h0, hh]
    rcases Bool.eq_false_or_eq_true (decide (0 ≤ lockZ k a b c s)) with l0 | l0 <;> rcases Bool.eq_false_or_eq_true (lockZ k a b c s == lockZ k' a' b' c' s') with l1 | l1 <;> rcases Bool.eq_false_or_eq_true (decide (0 ≤ chanZ k a b c s)) with c0 | c0
    all_goals
     rw [l0, l1, c0]
     have hS := fr_two w #[.int .i64 t, .int .i64 i, .int .i64 k, .int .i64 a, .int .i64 b, .int .i64 c, .bool s] #[.int .i64 t', .int .i64 i', .int .i64 k', .int .i64 a', .int .i64 b', .int .i64 c', .bool s'] 81 81
     have hc1 := @Ws.cells w [(w.heap.size, #[.int .i64 t, .int .i64 i, .int .i64 k, .int .i64 a, .int .i64 b, .int .i64 c, .bool s]), (w.heap.size + 1, #[.int .i64 t', .int .i64 i', .int .i64 k', .int .i64 a', .int .i64 b', .int .i64 c', .bool s'])] w.heap.size _ (List.mem_cons_self ..)
     have hc2 := @Ws.cells w [(w.heap.size, #[.int .i64 t, .int .i64 i, .int .i64 k, .int .i64 a, .int .i64 b, .int .i64 c, .bool s]), (w.heap.size + 1, #[.int .i64 t', .int .i64 i', .int .i64 k', .int .i64 a', .int .i64 b', .int .i64 c', .bool s'])] (w.heap.size + 1) _ (List.mem_cons_of_mem _ (List.mem_cons_self ..))
     haveI hne := Nonempty.intro (Ws.mk _ hS)
     have HS := Lib.hid hS
     clear hS
     go_enter Try.func136, Try.ntmps136
     go_wp2_with (go_at_call 176; refine (ret_bool hh (sconf_any k a b c s k' a' b' c' s' _)).mono ?_; rintro e w1 ⟨rfl, hb1⟩; have hw1 := HS.out.step hb1; have hB1 := hw1.below; have hd1 := (hw1.blocks w.heap.size _ (List.mem_cons_self ..)).2; have hd2 := (hw1.blocks (w.heap.size + 1) _ (List.mem_cons_of_mem _ (List.mem_cons_self ..))).2; clear hb1)
     refine region_in (by kernel_rfl) hw1.drew ?_
     repeat (go_big_quiet_step (first | (go_at_call 177; exact call_in (slock_any _ _ _ _ _ _)) | (go_at_call 143; exact call_in (schan_any _ _ _ _ _ _))))
     refine wpQuiet_nil ?_
     rintro _ ⟨⟨w3, hw3⟩, rfl⟩
     have bw3 := hw3.below
     go_wp2
     go_ret
     exact ⟨by simp, bw3⟩
end Go.Proofs.Ytidibnmlceccnaa
