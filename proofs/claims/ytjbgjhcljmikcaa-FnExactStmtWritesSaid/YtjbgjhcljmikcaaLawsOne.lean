/-
  The walks of the five laws over one statement: each comes to true, whatever the statement and the memory, and leaves all memory that was there as it was.
-/
import Derived.Test.YtjbgjhcljmikcaaReads
import Derived.Test.YtjbgjhcljmikcaaOpen
namespace Go.Proofs.Ytjbgjhcljmikcaa
open Go.RowKit Pl
set_option maxHeartbeats 400000

theorem lawok (k a b c : Int) (s : Bool) (w : World) : Calls Try.prog 4 #[St k a b c s] w fun e w' => e = .returned (.bool true) ∧ Below w.heap.size w w' := by
  go_enter Try.func4, Try.ntmps4
  go_wp2_with (first | (go_at_call 23; refine (toStmt_any _ _ _ _ _ _).mono ?_; rintro e w1 ⟨rfl, hb⟩; obtain ⟨hc, hf⟩ := bcell hb; have hz : w.heap.size < w1.heap.size := (by have := hb.size; (try simp at this); omega); have hB : Below w.heap.size w w1 := below_step (by go_grown) hb; clear hb) | (go_at_call 22; refine (sok_any _ _ _ _ _ _).mono ?_; rintro e w1 ⟨rfl, hb⟩; obtain ⟨hc, hf⟩ := bcell hb; have hz : w.heap.size < w1.heap.size := (by have := hb.size; (try simp at this); omega); have hB : Below w.heap.size w w1 := below_step (by go_grown) hb; clear hb) | (go_at_call 24; refine (iok_any _ _ _ _ _ _).mono ?_; rintro e w1 ⟨rfl, hb⟩; obtain ⟨hc, hf⟩ := bcell hb; have hz : w.heap.size < w1.heap.size := (by have := hb.size; (try simp at this); omega); have hB : Below w.heap.size w w1 := below_step (by go_grown) hb; clear hb))
  go_ret
  exact ⟨rfl, by go_grown⟩

theorem lawreads (k a b c : Int) (s : Bool) (w : World) : Calls Try.prog 6 #[St k a b c s] w fun e w' => e = .returned (.bool true) ∧ Below w.heap.size w w' := by
  go_enter Try.func6, Try.ntmps6
  go_wp2_with (first | (go_at_call 23; refine (toStmt_any _ _ _ _ _ _).mono ?_; rintro e w1 ⟨rfl, hb⟩; obtain ⟨hc, hf⟩ := bcell hb; have hz : w.heap.size < w1.heap.size := (by have := hb.size; (try simp at this); omega); have hB : Below w.heap.size w w1 := below_step (by go_grown) hb; clear hb) | (go_at_call 28; refine (sreads_any _ _ _ _ _ _).mono ?_; rintro e w1 ⟨rfl, hb⟩; obtain ⟨hc, hf⟩ := bcell hb; have hz : w.heap.size < w1.heap.size := (by have := hb.size; (try simp at this); omega); have hB : Below w.heap.size w w1 := below_step (by go_grown) hb; clear hb) | (go_at_call 29; refine (ireads_any _ _ _ _ _ _).mono ?_; rintro e w1 ⟨rfl, hb⟩; obtain ⟨hc, hf⟩ := bcell hb; have hz : w.heap.size < w1.heap.size := (by have := hb.size; (try simp at this); omega); have hB : Below w.heap.size w w1 := below_step (by go_grown) hb; clear hb))
  go_ret
  exact ⟨rfl, by go_grown⟩

theorem lawsets (k a b c : Int) (s : Bool) (w : World) : Calls Try.prog 7 #[St k a b c s] w fun e w' => e = .returned (.bool true) ∧ Below w.heap.size w w' := by
  go_enter Try.func7, Try.ntmps7
  go_wp2_with (first | (go_at_call 23; refine (toStmt_any _ _ _ _ _ _).mono ?_; rintro e w1 ⟨rfl, hb⟩; obtain ⟨hc, hf⟩ := bcell hb; have hz : w.heap.size < w1.heap.size := (by have := hb.size; (try simp at this); omega); have hB : Below w.heap.size w w1 := below_step (by go_grown) hb; clear hb) | (go_at_call 30; refine (ssets_any _ _ _ _ _ _).mono ?_; rintro e w1 ⟨rfl, hb⟩; obtain ⟨hc, hf⟩ := bcell hb; have hz : w.heap.size < w1.heap.size := (by have := hb.size; (try simp at this); omega); have hB : Below w.heap.size w w1 := below_step (by go_grown) hb; clear hb) | (go_at_call 31; refine (isets_any _ _ _ _ _ _).mono ?_; rintro e w1 ⟨rfl, hb⟩; obtain ⟨hc, hf⟩ := bcell hb; have hz : w.heap.size < w1.heap.size := (by have := hb.size; (try simp at this); omega); have hB : Below w.heap.size w w1 := below_step (by go_grown) hb; clear hb))
  go_ret
  exact ⟨rfl, by go_grown⟩

theorem lawplace (k a b c : Int) (s : Bool) (w : World) : Calls Try.prog 8 #[St k a b c s] w fun e w' => e = .returned (.bool true) ∧ Below w.heap.size w w' := by
  go_enter Try.func8, Try.ntmps8
  go_wp2_with (first | (go_at_call 23; refine (toStmt_any _ _ _ _ _ _).mono ?_; rintro e w1 ⟨rfl, hb⟩; obtain ⟨hc, hf⟩ := bcell hb; have hz : w.heap.size < w1.heap.size := (by have := hb.size; (try simp at this); omega); have hB : Below w.heap.size w w1 := below_step (by go_grown) hb; clear hb) | (go_at_call 32; refine (splace_any _ _ _ _ _ _).mono ?_; rintro e w1 ⟨rfl, hb⟩; obtain ⟨hc, hf⟩ := bcell hb; have hz : w.heap.size < w1.heap.size := (by have := hb.size; (try simp at this); omega); have hB : Below w.heap.size w w1 := below_step (by go_grown) hb; clear hb) | (go_at_call 33; refine (iplace_any _ _ _ _ _ _).mono ?_; rintro e w1 ⟨rfl, hb⟩; obtain ⟨hc, hf⟩ := bcell hb; have hz : w.heap.size < w1.heap.size := (by have := hb.size; (try simp at this); omega); have hB : Below w.heap.size w w1 := below_step (by go_grown) hb; clear hb))
  go_ret
  exact ⟨rfl, by go_grown⟩

theorem lawwrites (k a b c : Int) (s : Bool) (w : World) : Calls Try.prog 9 #[St k a b c s] w fun e w' => e = .returned (.bool true) ∧ Below w.heap.size w w' := by
  go_enter Try.func9, Try.ntmps9
  go_wp2_with (first | (go_at_call 23; refine (toStmt_any _ _ _ _ _ _).mono ?_; rintro e w1 ⟨rfl, hb⟩; obtain ⟨hc, hf⟩ := bcell hb; have hz : w.heap.size < w1.heap.size := (by have := hb.size; (try simp at this); omega); have hB : Below w.heap.size w w1 := below_step (by go_grown) hb; clear hb) | (go_at_call 34; refine (swrites_any _ _ _ _ _ _).mono ?_; rintro e w1 ⟨rfl, hb⟩; obtain ⟨hc, hf⟩ := bcell hb; have hz : w.heap.size < w1.heap.size := (by have := hb.size; (try simp at this); omega); have hB : Below w.heap.size w w1 := below_step (by go_grown) hb; clear hb) | (go_at_call 35; refine (iwrites_any _ _ _ _ _ _).mono ?_; rintro e w1 ⟨rfl, hb⟩; obtain ⟨hc, hf⟩ := bcell hb; have hz : w.heap.size < w1.heap.size := (by have := hb.size; (try simp at this); omega); have hB : Below w.heap.size w w1 := below_step (by go_grown) hb; clear hb))
  go_ret
  exact ⟨rfl, by go_grown⟩

end Go.Proofs.Ytjbgjhcljmikcaa
