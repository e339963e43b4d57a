/-
  The walk of the law over two statements: it comes to true, whatever the statements and the memory, and leaves all memory that was there as it was.
-/
import Derived.Test.YtjbgjhcljmikcaaTwo
namespace Go.Proofs.Ytjbgjhcljmikcaa
open Go.RowKit Pl Go.BigFrame
set_option maxHeartbeats 400000

theorem lawconflict (k a b c : Int) (s : Bool) (k' a' b' c' : Int) (s' : Bool) (w : World) : Calls Try.prog 10 #[St k a b c s, St k' a' b' c' s'] w fun e w' => e = .returned (.bool true) ∧ Below w.heap.size w w' := by
  have hS := fr_two w #[.int .i64 k, .int .i64 a, .int .i64 b, .int .i64 c, .bool s] #[.int .i64 k', .int .i64 a', .int .i64 b', .int .i64 c', .bool s'] 39 39
  have hc1 := @Ws.cells w [(w.heap.size, #[.int .i64 k, .int .i64 a, .int .i64 b, .int .i64 c, .bool s]), (w.heap.size + 1, #[.int .i64 k', .int .i64 a', .int .i64 b', .int .i64 c', .bool s'])] w.heap.size _ (List.mem_cons_self ..)
  have hc2 := @Ws.cells w [(w.heap.size, #[.int .i64 k, .int .i64 a, .int .i64 b, .int .i64 c, .bool s]), (w.heap.size + 1, #[.int .i64 k', .int .i64 a', .int .i64 b', .int .i64 c', .bool s'])] (w.heap.size + 1) _ (List.mem_cons_of_mem _ (List.mem_cons_self ..))
  haveI hne := Nonempty.intro (Ws.mk _ hS)
  have HS := Lib.hid hS
  clear hS
  go_enter Try.func10, Try.ntmps10
  go_wp2_with fail
  refine region_in (by kernel_rfl) HS.out.drew ?_
  repeat (go_big_quiet_step (first | (go_at_call 23; exact call_in (toStmt_any _ _ _ _ _ _)) | (go_at_call 36; exact call_in (sconf_any _ _ _ _ _ _ _ _ _ _ _))))
  refine wpQuiet_nil ?_
  rintro _ ⟨⟨w2, hw2⟩, rfl⟩
  have hB := hw2.below
  go_wp2_with fail
  refine region_in (by kernel_rfl) hw2.drew ?_
  repeat (go_big_quiet_step (first | (go_at_call 23; exact call_in (toStmt_any _ _ _ _ _ _)) | (go_at_call 37; exact call_in (iconf_any _ _ _ _ _ _ _ _ _ _ _))))
  refine wpQuiet_nil ?_
  rintro _ ⟨⟨w3, hw3⟩, rfl⟩
  have hB3 := hw3.below
  go_wp2
  go_ret
  exact ⟨rfl, hB3⟩
end Go.Proofs.Ytjbgjhcljmikcaa
