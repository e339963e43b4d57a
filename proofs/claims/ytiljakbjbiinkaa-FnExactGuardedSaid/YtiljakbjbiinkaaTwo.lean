/-
  Contracts of Conflict, of the reference model and of the program: both come to the same plain function, whatever the statements and the memory.
-/
import Derived.Test.YtiljakbjbiinkaaReads
import Derived.Test.YtiljakbjbiinkaaFrame
namespace Go.Proofs.Ytiljakbjbiinkaa
open Go.RowKit Pl Go.BigFrame
set_option maxHeartbeats 400000

theorem fr_two (w : World) (cs ds : Array Value) (t u : TypeId) : Fr w [(w.heap.size, cs), (w.heap.size + 1, ds)] ((w.alloc (.cells cs t)).alloc (.cells ds u)) :=
  ⟨by go_grown, fun b cs' hm => by
    simp only [List.mem_cons, Prod.mk.injEq, List.not_mem_nil, or_false] at hm
    rcases hm with ⟨rfl, rfl⟩ | ⟨rfl, rfl⟩
    · refine ⟨by simp; omega, fun i => ?_⟩
      rw [World.cell?_alloc_lt _ _ _ (by simp)]
      simp
    · refine ⟨by simp, fun i => ?_⟩
      have := World.cell?_alloc_mark (w.alloc (.cells cs t)) cs' u (0, 0) i
      rwa [World.size_alloc] at this⟩

theorem sconf_any (k a b c : Int) (s : Bool) (k' a' b' c' : Int) (s' : Bool) (w : World) : Calls Try.prog 122 #[St k a b c s, St k' a' b' c' s'] w fun e w' => e = .returned (.bool (conB k a b c s k' a' b' c' s')) ∧ Below w.heap.size w w' := by
  unfold conB
  rcases Bool.eq_false_or_eq_true (decide (0 ≤ placeZ k a b c s)) with h0 | h0 <;> rcases Bool.eq_false_or_eq_true (placeZ k a b c s == placeZ k' a' b' c' s') with h1 | h1 <;> rcases Bool.eq_false_or_eq_true (writesB k a b c s) with h2 | h2
  all_goals
    rw [h0, h1, h2]
    have hS := fr_two w #[.int .i64 k, .int .i64 a, .int .i64 b, .int .i64 c, .bool s] #[.int .i64 k', .int .i64 a', .int .i64 b', .int .i64 c', .bool s'] 132 132
    have hc1 := @Ws.cells w [(w.heap.size, #[.int .i64 k, .int .i64 a, .int .i64 b, .int .i64 c, .bool s]), (w.heap.size + 1, #[.int .i64 k', .int .i64 a', .int .i64 b', .int .i64 c', .bool s'])] w.heap.size _ (List.mem_cons_self ..)
    have hc2 := @Ws.cells w [(w.heap.size, #[.int .i64 k, .int .i64 a, .int .i64 b, .int .i64 c, .bool s]), (w.heap.size + 1, #[.int .i64 k', .int .i64 a', .int .i64 b', .int .i64 c', .bool s'])] (w.heap.size + 1) _ (List.mem_cons_of_mem _ (List.mem_cons_self ..))
    haveI hne := Nonempty.intro (Ws.mk _ hS)
    have HS := Lib.hid hS
    clear hS
    go_enter Try.func122, Try.ntmps122
    go_wp2_with fail
    refine region_in (by kernel_rfl) HS.out.drew ?_
    repeat (go_big_quiet_step (first | (go_at_call 121; exact call_in (splace_any _ _ _ _ _ _)) | (go_at_call 173; first | (with_reducible exact call_in (ret_bool h2 (swrites_any k a b c s _))) | (exact call_in (swrites_any _ _ _ _ _ _)))))
    refine wpQuiet_nil ?_
    rintro _ ⟨⟨w2, hw2⟩, rfl⟩
    have hB := hw2.below
    go_wp2
    go_ret
    exact ⟨by simp, hB⟩
end Go.Proofs.Ytiljakbjbiinkaa
