/-
  Contracts of the reference model's Depend, and of the laws' copy of an event.
-/
import Derived.Test.YtiljakbjbiinkaaPlain
import Derived.Test.YtiljakbjbiinkaaTwo
import Derived.Test.YtiljakbjbiinkaaWordF
namespace Go.Proofs.Ytiljakbjbiinkaa.Pl

def lockZ (k a b c : Int) (s : Bool) : Int := if okB k a b c s && (k == 6 || k == 7) then a else -1
def chanZ (k a b c : Int) (s : Bool) : Int := if okB k a b c s then (if k = 8 then a else if k = 9 then b else -1) else -1
theorem lock_eq (k a b c : Int) (s : Bool) : numZ k a b c s 5 = lockZ k a b c s := by
  unfold numZ lockZ
  by_cases h : okB k a b c s = true
  · have hr := ok_range h
    rcases kinds k with rfl | rfl | rfl | rfl | rfl | rfl | rfl | rfl | rfl | rfl | rfl | hk
    all_goals first | (simp [nA, nB, h]; done) | omega
  · simp [h]
theorem chan_eq (k a b c : Int) (s : Bool) : numZ k a b c s 6 = chanZ k a b c s := by
  unfold numZ chanZ
  by_cases h : okB k a b c s = true
  · have hr := ok_range h
    rcases kinds k with rfl | rfl | rfl | rfl | rfl | rfl | rfl | rfl | rfl | rfl | rfl | hk
    all_goals first | (simp [nA, nB, h]; done) | omega
  · simp [h]
/-- The eleven ways of a statement: it reads one of three places, writes one of three, is at one of two locks, at one of two channels, or at none of them. -/
def qP (q : Fin 11) : Int := if q.val < 6 then (q.val % 3 : Nat) else -1
def qW (q : Fin 11) : Bool := decide (3 ≤ q.val) && decide (q.val < 6)
def qL (q : Fin 11) : Int := if q.val = 6 then 0 else if q.val = 7 then 1 else -1
def qC (q : Fin 11) : Int := if q.val = 8 then 0 else if q.val = 9 then 1 else -1
def chgN (n : Nat) : Nat := (n <<< 10) ||| n
def qN (q : Fin 11) : Nat := if q.val < 3 then 1 <<< (3 + q.val) else if q.val < 10 then chgN (1 <<< q.val) else 0
def clN (a b : Nat) : Bool := (a / 2 ^ 10 &&& b) != 0 || (b / 2 ^ 10 &&& a) != 0
theorem way (k a b c : Int) (s : Bool) : ∃ q : Fin 11, placeZ k a b c s = qP q ∧ writesB k a b c s = qW q ∧ lockZ k a b c s = qL q ∧ chanZ k a b c s = qC q := by
  by_cases h : okB k a b c s = true
  · have hr := ok_range h
    have h0 := h
    unfold placeZ writesB lockZ chanZ
    rw [h0]
    rcases kinds k with rfl | rfl | rfl | rfl | rfl | rfl | rfl | rfl | rfl | rfl | rfl | hk
    rotate_right
    · omega
    all_goals (cases s <;> simp [okB, inB, valB] at h)
    all_goals first
      | (refine ⟨⟨10, by decide⟩, ?_⟩; simp [qP, qW, qL, qC, inB]; done)
      | (obtain hb | hb | hb : b = 0 ∨ b = 1 ∨ b = 2 := by omega
         · subst hb; first | (refine ⟨⟨0, by decide⟩, ?_⟩; simp [qP, qW, qL, qC, inB]; done) | (refine ⟨⟨3, by decide⟩, ?_⟩; simp [qP, qW, qL, qC, inB]; done) | (refine ⟨⟨8, by decide⟩, ?_⟩; simp [qP, qW, qL, qC, inB]; done)
         · subst hb; first | (refine ⟨⟨1, by decide⟩, ?_⟩; simp [qP, qW, qL, qC, inB]; done) | (refine ⟨⟨4, by decide⟩, ?_⟩; simp [qP, qW, qL, qC, inB]; done) | (refine ⟨⟨9, by decide⟩, ?_⟩; simp [qP, qW, qL, qC, inB]; done)
         · subst hb; first | (refine ⟨⟨2, by decide⟩, ?_⟩; simp [qP, qW, qL, qC, inB]; done) | (refine ⟨⟨5, by decide⟩, ?_⟩; simp [qP, qW, qL, qC, inB]; done))
      | (obtain hb | hb : b = 0 ∨ b = 1 := by omega
         · subst hb; (refine ⟨⟨8, by decide⟩, ?_⟩; simp [qP, qW, qL, qC, inB]; done)
         · subst hb; (refine ⟨⟨9, by decide⟩, ?_⟩; simp [qP, qW, qL, qC, inB]; done))
      | (obtain hb | hb | hb : a = 0 ∨ a = 1 ∨ a = 2 := by omega
         · subst hb; (refine ⟨⟨3, by decide⟩, ?_⟩; simp [qP, qW, qL, qC, inB]; done)
         · subst hb; (refine ⟨⟨4, by decide⟩, ?_⟩; simp [qP, qW, qL, qC, inB]; done)
         · subst hb; (refine ⟨⟨5, by decide⟩, ?_⟩; simp [qP, qW, qL, qC, inB]; done))
      | (obtain hb | hb : a = 0 ∨ a = 1 := by omega
         · subst hb; first | (refine ⟨⟨6, by decide⟩, ?_⟩; simp [qP, qW, qL, qC, inB]; done) | (refine ⟨⟨8, by decide⟩, ?_⟩; simp [qP, qW, qL, qC, inB]; done)
         · subst hb; first | (refine ⟨⟨7, by decide⟩, ?_⟩; simp [qP, qW, qL, qC, inB]; done) | (refine ⟨⟨9, by decide⟩, ?_⟩; simp [qP, qW, qL, qC, inB]; done))
  · rw [Bool.not_eq_true] at h
    exact ⟨⟨10, by decide⟩, by simp [placeZ, writesB, lockZ, chanZ, h, qP, qW, qL, qC]⟩
/-- Whether two statements touch what one of them changes. -/
def touB (k a b c : Int) (s : Bool) (k' a' b' c' : Int) (s' : Bool) : Bool :=
  conB k a b c s k' a' b' c' s' || ((decide (0 ≤ lockZ k a b c s) && lockZ k a b c s == lockZ k' a' b' c' s') || (decide (0 ≤ chanZ k a b c s) && chanZ k a b c s == chanZ k' a' b' c' s'))
def qT (q r : Fin 11) : Bool :=
  (decide (0 ≤ qP q) && qP q == qP r && (qW q || qW r)) || ((decide (0 ≤ qL q) && qL q == qL r) || (decide (0 ≤ qC q) && qC q == qC r))
theorem qT_eq : ∀ q r : Fin 11, qT q r = clN (qN q) (qN r) := by decide +kernel
theorem tou_eq {k a b c : Int} {s : Bool} {q : Fin 11} (h : placeZ k a b c s = qP q ∧ writesB k a b c s = qW q ∧ lockZ k a b c s = qL q ∧ chanZ k a b c s = qC q)
    {k' a' b' c' : Int} {s' : Bool} {r : Fin 11} (h' : placeZ k' a' b' c' s' = qP r ∧ writesB k' a' b' c' s' = qW r ∧ lockZ k' a' b' c' s' = qL r ∧ chanZ k' a' b' c' s' = qC r) :
    touB k a b c s k' a' b' c' s' = clN (qN q) (qN r) := by
  obtain ⟨h1, h2, h3, h4⟩ := h
  obtain ⟨g1, g2, g3, g4⟩ := h'
  rw [← qT_eq, touB, conB, qT, h1, h2, h3, h4, g1, g2, g3, g4]
theorem qN_lt (q : Fin 11) : qN q < 2 ^ 20 := by revert q; decide +kernel
end Go.Proofs.Ytiljakbjbiinkaa.Pl
namespace Go.Proofs.Ytiljakbjbiinkaa
open Go.RowKit Pl Go.BigFrame
set_option maxHeartbeats 4000000
set_option maxRecDepth 100000
set_option linter.unusedVariables false

abbrev Ev (t i k a b c : Int) (s : Bool) : Value := .agg #[.int .i64 t, .int .i64 i, .int .i64 k, .int .i64 a, .int .i64 b, .int .i64 c, .bool s]
theorem fr_one (w : World) (cs : Array Value) (t : TypeId) : Fr w [(w.heap.size, cs)] (w.alloc (.cells cs t)) :=
  ⟨by go_grown, fun b cs' hm => by
    simp only [List.mem_cons, Prod.mk.injEq, List.not_mem_nil, or_false] at hm
    obtain ⟨rfl, rfl⟩ := hm
    exact ⟨by simp, fun i => World.cell?_alloc_mark w cs' t (0, 0) i⟩⟩
theorem ret_int {f : FuncId} {args : Array Value} {v b : Int} {w : World} {R : World → Prop} (h : v = b) (c : Calls Try.prog f args w fun e w' => e = .returned (.int .i64 v) ∧ R w') :
    Calls Try.prog f args w fun e w' => e = .returned (.int .i64 b) ∧ R w' := by rw [← h]; exact c
theorem changing_any (n : Nat) (w : World) (hn : n < 2 ^ 20) (r : Nat) (hr : Hid (chgN n = r)) : Calls Try.prog 190 #[.int .u64 n] w fun e w' => e = .returned (.int .u64 (r : Nat)) ∧ Below w.heap.size w w' := by
  go_enter Try.func190, Try.ntmps190
  go_wp2
  go_ret
  refine ⟨?_, by go_grown⟩
  have e : bits .or .u64 ((n : Int) * 1024) (n : Int) = ((chgN n : Nat) : Int) := by
    have e1 : ((n <<< 10 : Nat) : Int) = (n : Int) * 1024 := by rw [Nat.shiftLeft_eq]; simp
    rw [← e1, or_u64 (by rw [Nat.shiftLeft_eq]; omega) (by omega)]; rfl
  rw [← hr.out, ← e]
  rfl

theorem sw_0 {k a b c : Int} {s : Bool} (hp : placeZ k a b c s = 0) (hw : writesB k a b c s = false) (hl : lockZ k a b c s = (-1)) (hc : chanZ k a b c s = (-1)) (w : World) : Calls Try.prog 174 #[St k a b c s] w fun e w' => e = .returned (.int .u64 ((8 : Nat) : Int)) ∧ Below w.heap.size w w' := by
  have hS : Fr w [(w.heap.size, #[.int .i64 k, .int .i64 a, .int .i64 b, .int .i64 c, .bool s])] (w.alloc (.cells #[.int .i64 k, .int .i64 a, .int .i64 b, .int .i64 c, .bool s] 132)) := fr_one w _ _
  have hc1 := @Ws.cells w [(w.heap.size, #[.int .i64 k, .int .i64 a, .int .i64 b, .int .i64 c, .bool s])] w.heap.size _ (List.mem_cons_self ..)
  haveI hne := Nonempty.intro (Ws.mk _ hS)
  have HS := Lib.hid hS
  clear hS
  have hl' : numZ k a b c s 5 = (-1) := (lock_eq k a b c s).trans hl
  have hc' : numZ k a b c s 6 = (-1) := (chan_eq k a b c s).trans hc
  go_enter Try.func174, Try.ntmps174
  go_wp2_with fail
  refine region_in (by kernel_rfl) HS.out.drew ?_
  repeat (go_big_quiet_step (first | (go_at_call 144; exact call_in (ret_int hp (iplace_any k a b c s _))) | (go_at_call 179; first | (with_reducible exact call_in (ret_int hl' (numin_any k a b c s 5 _))) | (with_reducible exact call_in (ret_int hc' (numin_any k a b c s 6 _))))))
  refine wpQuiet_nil ?_
  rintro _ ⟨⟨w2, hw2⟩, rfl⟩
  have hB := hw2.below
  have hc2 := (hw2.blocks w.heap.size _ (List.mem_cons_self ..)).2
  have hz2 := (hw2.blocks w.heap.size _ (List.mem_cons_self ..)).1
  go_wp2_with (first | (go_at_call 146; refine (ret_bool hw (iwrites_any k a b c s _)).mono ?_; rintro e w3 ⟨rfl, hb3⟩; have hB3 : Below w.heap.size w w3 := below_on (by go_grown) hb3; clear hb3) | (go_at_call 190; refine (changing_any _ _ (by decide) _ (Lib.hid rfl)).mono ?_; rintro e w4 ⟨rfl, hb4⟩; have hB4 : Below w.heap.size w w4 := below_on (by go_grown) hb4; clear hb4))
  go_ret
  refine ⟨?_, by go_grown⟩
  rfl
theorem sw_1 {k a b c : Int} {s : Bool} (hp : placeZ k a b c s = 1) (hw : writesB k a b c s = false) (hl : lockZ k a b c s = (-1)) (hc : chanZ k a b c s = (-1)) (w : World) : Calls Try.prog 174 #[St k a b c s] w fun e w' => e = .returned (.int .u64 ((16 : Nat) : Int)) ∧ Below w.heap.size w w' := by
  have hS : Fr w [(w.heap.size, #[.int .i64 k, .int .i64 a, .int .i64 b, .int .i64 c, .bool s])] (w.alloc (.cells #[.int .i64 k, .int .i64 a, .int .i64 b, .int .i64 c, .bool s] 132)) := fr_one w _ _
  have hc1 := @Ws.cells w [(w.heap.size, #[.int .i64 k, .int .i64 a, .int .i64 b, .int .i64 c, .bool s])] w.heap.size _ (List.mem_cons_self ..)
  haveI hne := Nonempty.intro (Ws.mk _ hS)
  have HS := Lib.hid hS
  clear hS
  have hl' : numZ k a b c s 5 = (-1) := (lock_eq k a b c s).trans hl
  have hc' : numZ k a b c s 6 = (-1) := (chan_eq k a b c s).trans hc
  go_enter Try.func174, Try.ntmps174
  go_wp2_with fail
  refine region_in (by kernel_rfl) HS.out.drew ?_
  repeat (go_big_quiet_step (first | (go_at_call 144; exact call_in (ret_int hp (iplace_any k a b c s _))) | (go_at_call 179; first | (with_reducible exact call_in (ret_int hl' (numin_any k a b c s 5 _))) | (with_reducible exact call_in (ret_int hc' (numin_any k a b c s 6 _))))))
  refine wpQuiet_nil ?_
  rintro _ ⟨⟨w2, hw2⟩, rfl⟩
  have hB := hw2.below
  have hc2 := (hw2.blocks w.heap.size _ (List.mem_cons_self ..)).2
  have hz2 := (hw2.blocks w.heap.size _ (List.mem_cons_self ..)).1
  go_wp2_with (first | (go_at_call 146; refine (ret_bool hw (iwrites_any k a b c s _)).mono ?_; rintro e w3 ⟨rfl, hb3⟩; have hB3 : Below w.heap.size w w3 := below_on (by go_grown) hb3; clear hb3) | (go_at_call 190; refine (changing_any _ _ (by decide) _ (Lib.hid rfl)).mono ?_; rintro e w4 ⟨rfl, hb4⟩; have hB4 : Below w.heap.size w w4 := below_on (by go_grown) hb4; clear hb4))
  go_ret
  refine ⟨?_, by go_grown⟩
  rfl
theorem sw_2 {k a b c : Int} {s : Bool} (hp : placeZ k a b c s = 2) (hw : writesB k a b c s = false) (hl : lockZ k a b c s = (-1)) (hc : chanZ k a b c s = (-1)) (w : World) : Calls Try.prog 174 #[St k a b c s] w fun e w' => e = .returned (.int .u64 ((32 : Nat) : Int)) ∧ Below w.heap.size w w' := by
  have hS : Fr w [(w.heap.size, #[.int .i64 k, .int .i64 a, .int .i64 b, .int .i64 c, .bool s])] (w.alloc (.cells #[.int .i64 k, .int .i64 a, .int .i64 b, .int .i64 c, .bool s] 132)) := fr_one w _ _
  have hc1 := @Ws.cells w [(w.heap.size, #[.int .i64 k, .int .i64 a, .int .i64 b, .int .i64 c, .bool s])] w.heap.size _ (List.mem_cons_self ..)
  haveI hne := Nonempty.intro (Ws.mk _ hS)
  have HS := Lib.hid hS
  clear hS
  have hl' : numZ k a b c s 5 = (-1) := (lock_eq k a b c s).trans hl
  have hc' : numZ k a b c s 6 = (-1) := (chan_eq k a b c s).trans hc
  go_enter Try.func174, Try.ntmps174
  go_wp2_with fail
  refine region_in (by kernel_rfl) HS.out.drew ?_
  repeat (go_big_quiet_step (first | (go_at_call 144; exact call_in (ret_int hp (iplace_any k a b c s _))) | (go_at_call 179; first | (with_reducible exact call_in (ret_int hl' (numin_any k a b c s 5 _))) | (with_reducible exact call_in (ret_int hc' (numin_any k a b c s 6 _))))))
  refine wpQuiet_nil ?_
  rintro _ ⟨⟨w2, hw2⟩, rfl⟩
  have hB := hw2.below
  have hc2 := (hw2.blocks w.heap.size _ (List.mem_cons_self ..)).2
  have hz2 := (hw2.blocks w.heap.size _ (List.mem_cons_self ..)).1
  go_wp2_with (first | (go_at_call 146; refine (ret_bool hw (iwrites_any k a b c s _)).mono ?_; rintro e w3 ⟨rfl, hb3⟩; have hB3 : Below w.heap.size w w3 := below_on (by go_grown) hb3; clear hb3) | (go_at_call 190; refine (changing_any _ _ (by decide) _ (Lib.hid rfl)).mono ?_; rintro e w4 ⟨rfl, hb4⟩; have hB4 : Below w.heap.size w w4 := below_on (by go_grown) hb4; clear hb4))
  go_ret
  refine ⟨?_, by go_grown⟩
  rfl
theorem sw_3 {k a b c : Int} {s : Bool} (hp : placeZ k a b c s = 0) (hw : writesB k a b c s = true) (hl : lockZ k a b c s = (-1)) (hc : chanZ k a b c s = (-1)) (w : World) : Calls Try.prog 174 #[St k a b c s] w fun e w' => e = .returned (.int .u64 ((8200 : Nat) : Int)) ∧ Below w.heap.size w w' := by
  have hS : Fr w [(w.heap.size, #[.int .i64 k, .int .i64 a, .int .i64 b, .int .i64 c, .bool s])] (w.alloc (.cells #[.int .i64 k, .int .i64 a, .int .i64 b, .int .i64 c, .bool s] 132)) := fr_one w _ _
  have hc1 := @Ws.cells w [(w.heap.size, #[.int .i64 k, .int .i64 a, .int .i64 b, .int .i64 c, .bool s])] w.heap.size _ (List.mem_cons_self ..)
  haveI hne := Nonempty.intro (Ws.mk _ hS)
  have HS := Lib.hid hS
  clear hS
  have hl' : numZ k a b c s 5 = (-1) := (lock_eq k a b c s).trans hl
  have hc' : numZ k a b c s 6 = (-1) := (chan_eq k a b c s).trans hc
  go_enter Try.func174, Try.ntmps174
  go_wp2_with fail
  refine region_in (by kernel_rfl) HS.out.drew ?_
  repeat (go_big_quiet_step (first | (go_at_call 144; exact call_in (ret_int hp (iplace_any k a b c s _))) | (go_at_call 179; first | (with_reducible exact call_in (ret_int hl' (numin_any k a b c s 5 _))) | (with_reducible exact call_in (ret_int hc' (numin_any k a b c s 6 _))))))
  refine wpQuiet_nil ?_
  rintro _ ⟨⟨w2, hw2⟩, rfl⟩
  have hB := hw2.below
  have hc2 := (hw2.blocks w.heap.size _ (List.mem_cons_self ..)).2
  have hz2 := (hw2.blocks w.heap.size _ (List.mem_cons_self ..)).1
  go_wp2_with (first | (go_at_call 146; refine (ret_bool hw (iwrites_any k a b c s _)).mono ?_; rintro e w3 ⟨rfl, hb3⟩; have hB3 : Below w.heap.size w w3 := below_on (by go_grown) hb3; clear hb3) | (go_at_call 190; refine (changing_any _ _ (by decide) _ (Lib.hid rfl)).mono ?_; rintro e w4 ⟨rfl, hb4⟩; have hB4 : Below w.heap.size w w4 := below_on (by go_grown) hb4; clear hb4))
  go_ret
  refine ⟨?_, by go_grown⟩
  rfl
theorem sw_4 {k a b c : Int} {s : Bool} (hp : placeZ k a b c s = 1) (hw : writesB k a b c s = true) (hl : lockZ k a b c s = (-1)) (hc : chanZ k a b c s = (-1)) (w : World) : Calls Try.prog 174 #[St k a b c s] w fun e w' => e = .returned (.int .u64 ((16400 : Nat) : Int)) ∧ Below w.heap.size w w' := by
  have hS : Fr w [(w.heap.size, #[.int .i64 k, .int .i64 a, .int .i64 b, .int .i64 c, .bool s])] (w.alloc (.cells #[.int .i64 k, .int .i64 a, .int .i64 b, .int .i64 c, .bool s] 132)) := fr_one w _ _
  have hc1 := @Ws.cells w [(w.heap.size, #[.int .i64 k, .int .i64 a, .int .i64 b, .int .i64 c, .bool s])] w.heap.size _ (List.mem_cons_self ..)
  haveI hne := Nonempty.intro (Ws.mk _ hS)
  have HS := Lib.hid hS
  clear hS
  have hl' : numZ k a b c s 5 = (-1) := (lock_eq k a b c s).trans hl
  have hc' : numZ k a b c s 6 = (-1) := (chan_eq k a b c s).trans hc
  go_enter Try.func174, Try.ntmps174
  go_wp2_with fail
  refine region_in (by kernel_rfl) HS.out.drew ?_
  repeat (go_big_quiet_step (first | (go_at_call 144; exact call_in (ret_int hp (iplace_any k a b c s _))) | (go_at_call 179; first | (with_reducible exact call_in (ret_int hl' (numin_any k a b c s 5 _))) | (with_reducible exact call_in (ret_int hc' (numin_any k a b c s 6 _))))))
  refine wpQuiet_nil ?_
  rintro _ ⟨⟨w2, hw2⟩, rfl⟩
  have hB := hw2.below
  have hc2 := (hw2.blocks w.heap.size _ (List.mem_cons_self ..)).2
  have hz2 := (hw2.blocks w.heap.size _ (List.mem_cons_self ..)).1
  go_wp2_with (first | (go_at_call 146; refine (ret_bool hw (iwrites_any k a b c s _)).mono ?_; rintro e w3 ⟨rfl, hb3⟩; have hB3 : Below w.heap.size w w3 := below_on (by go_grown) hb3; clear hb3) | (go_at_call 190; refine (changing_any _ _ (by decide) _ (Lib.hid rfl)).mono ?_; rintro e w4 ⟨rfl, hb4⟩; have hB4 : Below w.heap.size w w4 := below_on (by go_grown) hb4; clear hb4))
  go_ret
  refine ⟨?_, by go_grown⟩
  rfl
theorem sw_5 {k a b c : Int} {s : Bool} (hp : placeZ k a b c s = 2) (hw : writesB k a b c s = true) (hl : lockZ k a b c s = (-1)) (hc : chanZ k a b c s = (-1)) (w : World) : Calls Try.prog 174 #[St k a b c s] w fun e w' => e = .returned (.int .u64 ((32800 : Nat) : Int)) ∧ Below w.heap.size w w' := by
  have hS : Fr w [(w.heap.size, #[.int .i64 k, .int .i64 a, .int .i64 b, .int .i64 c, .bool s])] (w.alloc (.cells #[.int .i64 k, .int .i64 a, .int .i64 b, .int .i64 c, .bool s] 132)) := fr_one w _ _
  have hc1 := @Ws.cells w [(w.heap.size, #[.int .i64 k, .int .i64 a, .int .i64 b, .int .i64 c, .bool s])] w.heap.size _ (List.mem_cons_self ..)
  haveI hne := Nonempty.intro (Ws.mk _ hS)
  have HS := Lib.hid hS
  clear hS
  have hl' : numZ k a b c s 5 = (-1) := (lock_eq k a b c s).trans hl
  have hc' : numZ k a b c s 6 = (-1) := (chan_eq k a b c s).trans hc
  go_enter Try.func174, Try.ntmps174
  go_wp2_with fail
  refine region_in (by kernel_rfl) HS.out.drew ?_
  repeat (go_big_quiet_step (first | (go_at_call 144; exact call_in (ret_int hp (iplace_any k a b c s _))) | (go_at_call 179; first | (with_reducible exact call_in (ret_int hl' (numin_any k a b c s 5 _))) | (with_reducible exact call_in (ret_int hc' (numin_any k a b c s 6 _))))))
  refine wpQuiet_nil ?_
  rintro _ ⟨⟨w2, hw2⟩, rfl⟩
  have hB := hw2.below
  have hc2 := (hw2.blocks w.heap.size _ (List.mem_cons_self ..)).2
  have hz2 := (hw2.blocks w.heap.size _ (List.mem_cons_self ..)).1
  go_wp2_with (first | (go_at_call 146; refine (ret_bool hw (iwrites_any k a b c s _)).mono ?_; rintro e w3 ⟨rfl, hb3⟩; have hB3 : Below w.heap.size w w3 := below_on (by go_grown) hb3; clear hb3) | (go_at_call 190; refine (changing_any _ _ (by decide) _ (Lib.hid rfl)).mono ?_; rintro e w4 ⟨rfl, hb4⟩; have hB4 : Below w.heap.size w w4 := below_on (by go_grown) hb4; clear hb4))
  go_ret
  refine ⟨?_, by go_grown⟩
  rfl
theorem sw_6 {k a b c : Int} {s : Bool} (hp : placeZ k a b c s = (-1)) (hw : writesB k a b c s = false) (hl : lockZ k a b c s = 0) (hc : chanZ k a b c s = (-1)) (w : World) : Calls Try.prog 174 #[St k a b c s] w fun e w' => e = .returned (.int .u64 ((65600 : Nat) : Int)) ∧ Below w.heap.size w w' := by
  have hS : Fr w [(w.heap.size, #[.int .i64 k, .int .i64 a, .int .i64 b, .int .i64 c, .bool s])] (w.alloc (.cells #[.int .i64 k, .int .i64 a, .int .i64 b, .int .i64 c, .bool s] 132)) := fr_one w _ _
  have hc1 := @Ws.cells w [(w.heap.size, #[.int .i64 k, .int .i64 a, .int .i64 b, .int .i64 c, .bool s])] w.heap.size _ (List.mem_cons_self ..)
  haveI hne := Nonempty.intro (Ws.mk _ hS)
  have HS := Lib.hid hS
  clear hS
  have hl' : numZ k a b c s 5 = 0 := (lock_eq k a b c s).trans hl
  have hc' : numZ k a b c s 6 = (-1) := (chan_eq k a b c s).trans hc
  go_enter Try.func174, Try.ntmps174
  go_wp2_with fail
  refine region_in (by kernel_rfl) HS.out.drew ?_
  repeat (go_big_quiet_step (first | (go_at_call 144; exact call_in (ret_int hp (iplace_any k a b c s _))) | (go_at_call 179; first | (with_reducible exact call_in (ret_int hl' (numin_any k a b c s 5 _))) | (with_reducible exact call_in (ret_int hc' (numin_any k a b c s 6 _))))))
  refine wpQuiet_nil ?_
  rintro _ ⟨⟨w2, hw2⟩, rfl⟩
  have hB := hw2.below
  have hc2 := (hw2.blocks w.heap.size _ (List.mem_cons_self ..)).2
  have hz2 := (hw2.blocks w.heap.size _ (List.mem_cons_self ..)).1
  go_wp2_with (first | (go_at_call 146; refine (ret_bool hw (iwrites_any k a b c s _)).mono ?_; rintro e w3 ⟨rfl, hb3⟩; have hB3 : Below w.heap.size w w3 := below_on (by go_grown) hb3; clear hb3) | (go_at_call 190; refine (changing_any _ _ (by decide) _ (Lib.hid rfl)).mono ?_; rintro e w4 ⟨rfl, hb4⟩; have hB4 : Below w.heap.size w w4 := below_on (by go_grown) hb4; clear hb4))
  go_ret
  refine ⟨?_, by go_grown⟩
  rfl
theorem sw_7 {k a b c : Int} {s : Bool} (hp : placeZ k a b c s = (-1)) (hw : writesB k a b c s = false) (hl : lockZ k a b c s = 1) (hc : chanZ k a b c s = (-1)) (w : World) : Calls Try.prog 174 #[St k a b c s] w fun e w' => e = .returned (.int .u64 ((131200 : Nat) : Int)) ∧ Below w.heap.size w w' := by
  have hS : Fr w [(w.heap.size, #[.int .i64 k, .int .i64 a, .int .i64 b, .int .i64 c, .bool s])] (w.alloc (.cells #[.int .i64 k, .int .i64 a, .int .i64 b, .int .i64 c, .bool s] 132)) := fr_one w _ _
  have hc1 := @Ws.cells w [(w.heap.size, #[.int .i64 k, .int .i64 a, .int .i64 b, .int .i64 c, .bool s])] w.heap.size _ (List.mem_cons_self ..)
  haveI hne := Nonempty.intro (Ws.mk _ hS)
  have HS := Lib.hid hS
  clear hS
  have hl' : numZ k a b c s 5 = 1 := (lock_eq k a b c s).trans hl
  have hc' : numZ k a b c s 6 = (-1) := (chan_eq k a b c s).trans hc
  go_enter Try.func174, Try.ntmps174
  go_wp2_with fail
  refine region_in (by kernel_rfl) HS.out.drew ?_
  repeat (go_big_quiet_step (first | (go_at_call 144; exact call_in (ret_int hp (iplace_any k a b c s _))) | (go_at_call 179; first | (with_reducible exact call_in (ret_int hl' (numin_any k a b c s 5 _))) | (with_reducible exact call_in (ret_int hc' (numin_any k a b c s 6 _))))))
  refine wpQuiet_nil ?_
  rintro _ ⟨⟨w2, hw2⟩, rfl⟩
  have hB := hw2.below
  have hc2 := (hw2.blocks w.heap.size _ (List.mem_cons_self ..)).2
  have hz2 := (hw2.blocks w.heap.size _ (List.mem_cons_self ..)).1
  go_wp2_with (first | (go_at_call 146; refine (ret_bool hw (iwrites_any k a b c s _)).mono ?_; rintro e w3 ⟨rfl, hb3⟩; have hB3 : Below w.heap.size w w3 := below_on (by go_grown) hb3; clear hb3) | (go_at_call 190; refine (changing_any _ _ (by decide) _ (Lib.hid rfl)).mono ?_; rintro e w4 ⟨rfl, hb4⟩; have hB4 : Below w.heap.size w w4 := below_on (by go_grown) hb4; clear hb4))
  go_ret
  refine ⟨?_, by go_grown⟩
  rfl
theorem sw_8 {k a b c : Int} {s : Bool} (hp : placeZ k a b c s = (-1)) (hw : writesB k a b c s = false) (hl : lockZ k a b c s = (-1)) (hc : chanZ k a b c s = 0) (w : World) : Calls Try.prog 174 #[St k a b c s] w fun e w' => e = .returned (.int .u64 ((262400 : Nat) : Int)) ∧ Below w.heap.size w w' := by
  have hS : Fr w [(w.heap.size, #[.int .i64 k, .int .i64 a, .int .i64 b, .int .i64 c, .bool s])] (w.alloc (.cells #[.int .i64 k, .int .i64 a, .int .i64 b, .int .i64 c, .bool s] 132)) := fr_one w _ _
  have hc1 := @Ws.cells w [(w.heap.size, #[.int .i64 k, .int .i64 a, .int .i64 b, .int .i64 c, .bool s])] w.heap.size _ (List.mem_cons_self ..)
  haveI hne := Nonempty.intro (Ws.mk _ hS)
  have HS := Lib.hid hS
  clear hS
  have hl' : numZ k a b c s 5 = (-1) := (lock_eq k a b c s).trans hl
  have hc' : numZ k a b c s 6 = 0 := (chan_eq k a b c s).trans hc
  go_enter Try.func174, Try.ntmps174
  go_wp2_with fail
  refine region_in (by kernel_rfl) HS.out.drew ?_
  repeat (go_big_quiet_step (first | (go_at_call 144; exact call_in (ret_int hp (iplace_any k a b c s _))) | (go_at_call 179; first | (with_reducible exact call_in (ret_int hl' (numin_any k a b c s 5 _))) | (with_reducible exact call_in (ret_int hc' (numin_any k a b c s 6 _))))))
  refine wpQuiet_nil ?_
  rintro _ ⟨⟨w2, hw2⟩, rfl⟩
  have hB := hw2.below
  have hc2 := (hw2.blocks w.heap.size _ (List.mem_cons_self ..)).2
  have hz2 := (hw2.blocks w.heap.size _ (List.mem_cons_self ..)).1
  go_wp2_with (first | (go_at_call 146; refine (ret_bool hw (iwrites_any k a b c s _)).mono ?_; rintro e w3 ⟨rfl, hb3⟩; have hB3 : Below w.heap.size w w3 := below_on (by go_grown) hb3; clear hb3) | (go_at_call 190; refine (changing_any _ _ (by decide) _ (Lib.hid rfl)).mono ?_; rintro e w4 ⟨rfl, hb4⟩; have hB4 : Below w.heap.size w w4 := below_on (by go_grown) hb4; clear hb4))
  go_ret
  refine ⟨?_, by go_grown⟩
  rfl
theorem sw_9 {k a b c : Int} {s : Bool} (hp : placeZ k a b c s = (-1)) (hw : writesB k a b c s = false) (hl : lockZ k a b c s = (-1)) (hc : chanZ k a b c s = 1) (w : World) : Calls Try.prog 174 #[St k a b c s] w fun e w' => e = .returned (.int .u64 ((524800 : Nat) : Int)) ∧ Below w.heap.size w w' := by
  have hS : Fr w [(w.heap.size, #[.int .i64 k, .int .i64 a, .int .i64 b, .int .i64 c, .bool s])] (w.alloc (.cells #[.int .i64 k, .int .i64 a, .int .i64 b, .int .i64 c, .bool s] 132)) := fr_one w _ _
  have hc1 := @Ws.cells w [(w.heap.size, #[.int .i64 k, .int .i64 a, .int .i64 b, .int .i64 c, .bool s])] w.heap.size _ (List.mem_cons_self ..)
  haveI hne := Nonempty.intro (Ws.mk _ hS)
  have HS := Lib.hid hS
  clear hS
  have hl' : numZ k a b c s 5 = (-1) := (lock_eq k a b c s).trans hl
  have hc' : numZ k a b c s 6 = 1 := (chan_eq k a b c s).trans hc
  go_enter Try.func174, Try.ntmps174
  go_wp2_with fail
  refine region_in (by kernel_rfl) HS.out.drew ?_
  repeat (go_big_quiet_step (first | (go_at_call 144; exact call_in (ret_int hp (iplace_any k a b c s _))) | (go_at_call 179; first | (with_reducible exact call_in (ret_int hl' (numin_any k a b c s 5 _))) | (with_reducible exact call_in (ret_int hc' (numin_any k a b c s 6 _))))))
  refine wpQuiet_nil ?_
  rintro _ ⟨⟨w2, hw2⟩, rfl⟩
  have hB := hw2.below
  have hc2 := (hw2.blocks w.heap.size _ (List.mem_cons_self ..)).2
  have hz2 := (hw2.blocks w.heap.size _ (List.mem_cons_self ..)).1
  go_wp2_with (first | (go_at_call 146; refine (ret_bool hw (iwrites_any k a b c s _)).mono ?_; rintro e w3 ⟨rfl, hb3⟩; have hB3 : Below w.heap.size w w3 := below_on (by go_grown) hb3; clear hb3) | (go_at_call 190; refine (changing_any _ _ (by decide) _ (Lib.hid rfl)).mono ?_; rintro e w4 ⟨rfl, hb4⟩; have hB4 : Below w.heap.size w w4 := below_on (by go_grown) hb4; clear hb4))
  go_ret
  refine ⟨?_, by go_grown⟩
  rfl
theorem sw_10 {k a b c : Int} {s : Bool} (hp : placeZ k a b c s = (-1)) (hw : writesB k a b c s = false) (hl : lockZ k a b c s = (-1)) (hc : chanZ k a b c s = (-1)) (w : World) : Calls Try.prog 174 #[St k a b c s] w fun e w' => e = .returned (.int .u64 ((0 : Nat) : Int)) ∧ Below w.heap.size w w' := by
  have hS : Fr w [(w.heap.size, #[.int .i64 k, .int .i64 a, .int .i64 b, .int .i64 c, .bool s])] (w.alloc (.cells #[.int .i64 k, .int .i64 a, .int .i64 b, .int .i64 c, .bool s] 132)) := fr_one w _ _
  have hc1 := @Ws.cells w [(w.heap.size, #[.int .i64 k, .int .i64 a, .int .i64 b, .int .i64 c, .bool s])] w.heap.size _ (List.mem_cons_self ..)
  haveI hne := Nonempty.intro (Ws.mk _ hS)
  have HS := Lib.hid hS
  clear hS
  have hl' : numZ k a b c s 5 = (-1) := (lock_eq k a b c s).trans hl
  have hc' : numZ k a b c s 6 = (-1) := (chan_eq k a b c s).trans hc
  go_enter Try.func174, Try.ntmps174
  go_wp2_with fail
  refine region_in (by kernel_rfl) HS.out.drew ?_
  repeat (go_big_quiet_step (first | (go_at_call 144; exact call_in (ret_int hp (iplace_any k a b c s _))) | (go_at_call 179; first | (with_reducible exact call_in (ret_int hl' (numin_any k a b c s 5 _))) | (with_reducible exact call_in (ret_int hc' (numin_any k a b c s 6 _))))))
  refine wpQuiet_nil ?_
  rintro _ ⟨⟨w2, hw2⟩, rfl⟩
  have hB := hw2.below
  have hc2 := (hw2.blocks w.heap.size _ (List.mem_cons_self ..)).2
  have hz2 := (hw2.blocks w.heap.size _ (List.mem_cons_self ..)).1
  go_wp2_with (first | (go_at_call 146; refine (ret_bool hw (iwrites_any k a b c s _)).mono ?_; rintro e w3 ⟨rfl, hb3⟩; have hB3 : Below w.heap.size w w3 := below_on (by go_grown) hb3; clear hb3) | (go_at_call 190; refine (changing_any _ _ (by decide) _ (Lib.hid rfl)).mono ?_; rintro e w4 ⟨rfl, hb4⟩; have hB4 : Below w.heap.size w w4 := below_on (by go_grown) hb4; clear hb4))
  go_ret
  refine ⟨?_, by go_grown⟩
  rfl
theorem q_0 : qP 0 = 0 ∧ qW 0 = false ∧ qL 0 = (-1) ∧ qC 0 = (-1) ∧ qN 0 = 8 := by decide +kernel
theorem q_1 : qP 1 = 1 ∧ qW 1 = false ∧ qL 1 = (-1) ∧ qC 1 = (-1) ∧ qN 1 = 16 := by decide +kernel
theorem q_2 : qP 2 = 2 ∧ qW 2 = false ∧ qL 2 = (-1) ∧ qC 2 = (-1) ∧ qN 2 = 32 := by decide +kernel
theorem q_3 : qP 3 = 0 ∧ qW 3 = true ∧ qL 3 = (-1) ∧ qC 3 = (-1) ∧ qN 3 = 8200 := by decide +kernel
theorem q_4 : qP 4 = 1 ∧ qW 4 = true ∧ qL 4 = (-1) ∧ qC 4 = (-1) ∧ qN 4 = 16400 := by decide +kernel
theorem q_5 : qP 5 = 2 ∧ qW 5 = true ∧ qL 5 = (-1) ∧ qC 5 = (-1) ∧ qN 5 = 32800 := by decide +kernel
theorem q_6 : qP 6 = (-1) ∧ qW 6 = false ∧ qL 6 = 0 ∧ qC 6 = (-1) ∧ qN 6 = 65600 := by decide +kernel
theorem q_7 : qP 7 = (-1) ∧ qW 7 = false ∧ qL 7 = 1 ∧ qC 7 = (-1) ∧ qN 7 = 131200 := by decide +kernel
theorem q_8 : qP 8 = (-1) ∧ qW 8 = false ∧ qL 8 = (-1) ∧ qC 8 = 0 ∧ qN 8 = 262400 := by decide +kernel
theorem q_9 : qP 9 = (-1) ∧ qW 9 = false ∧ qL 9 = (-1) ∧ qC 9 = 1 ∧ qN 9 = 524800 := by decide +kernel
theorem q_10 : qP 10 = (-1) ∧ qW 10 = false ∧ qL 10 = (-1) ∧ qC 10 = (-1) ∧ qN 10 = 0 := by decide +kernel
theorem sw_any {k a b c : Int} {s : Bool} {q : Fin 11} (h : placeZ k a b c s = qP q ∧ writesB k a b c s = qW q ∧ lockZ k a b c s = qL q ∧ chanZ k a b c s = qC q) (w : World) :
    Calls Try.prog 174 #[St k a b c s] w fun e w' => e = .returned (.int .u64 (qN q : Nat)) ∧ Below w.heap.size w w' := by
  obtain ⟨h1, h2, h3, h4⟩ := h
  match q, h1, h2, h3, h4 with
  | ⟨0, hlt⟩, h1, h2, h3, h4 =>
    have e : (⟨0, hlt⟩ : Fin 11) = 0 := rfl
    rw [e] at h1 h2 h3 h4 ⊢
    obtain ⟨a1, a2, a3, a4, a5⟩ := q_0
    rw [a5]
    exact sw_0 (h1.trans a1) (h2.trans a2) (h3.trans a3) (h4.trans a4) w
  | ⟨1, hlt⟩, h1, h2, h3, h4 =>
    have e : (⟨1, hlt⟩ : Fin 11) = 1 := rfl
    rw [e] at h1 h2 h3 h4 ⊢
    obtain ⟨a1, a2, a3, a4, a5⟩ := q_1
    rw [a5]
    exact sw_1 (h1.trans a1) (h2.trans a2) (h3.trans a3) (h4.trans a4) w
  | ⟨2, hlt⟩, h1, h2, h3, h4 =>
    have e : (⟨2, hlt⟩ : Fin 11) = 2 := rfl
    rw [e] at h1 h2 h3 h4 ⊢
    obtain ⟨a1, a2, a3, a4, a5⟩ := q_2
    rw [a5]
    exact sw_2 (h1.trans a1) (h2.trans a2) (h3.trans a3) (h4.trans a4) w
  | ⟨3, hlt⟩, h1, h2, h3, h4 =>
    have e : (⟨3, hlt⟩ : Fin 11) = 3 := rfl
    rw [e] at h1 h2 h3 h4 ⊢
    obtain ⟨a1, a2, a3, a4, a5⟩ := q_3
    rw [a5]
    exact sw_3 (h1.trans a1) (h2.trans a2) (h3.trans a3) (h4.trans a4) w
  | ⟨4, hlt⟩, h1, h2, h3, h4 =>
    have e : (⟨4, hlt⟩ : Fin 11) = 4 := rfl
    rw [e] at h1 h2 h3 h4 ⊢
    obtain ⟨a1, a2, a3, a4, a5⟩ := q_4
    rw [a5]
    exact sw_4 (h1.trans a1) (h2.trans a2) (h3.trans a3) (h4.trans a4) w
  | ⟨5, hlt⟩, h1, h2, h3, h4 =>
    have e : (⟨5, hlt⟩ : Fin 11) = 5 := rfl
    rw [e] at h1 h2 h3 h4 ⊢
    obtain ⟨a1, a2, a3, a4, a5⟩ := q_5
    rw [a5]
    exact sw_5 (h1.trans a1) (h2.trans a2) (h3.trans a3) (h4.trans a4) w
  | ⟨6, hlt⟩, h1, h2, h3, h4 =>
    have e : (⟨6, hlt⟩ : Fin 11) = 6 := rfl
    rw [e] at h1 h2 h3 h4 ⊢
    obtain ⟨a1, a2, a3, a4, a5⟩ := q_6
    rw [a5]
    exact sw_6 (h1.trans a1) (h2.trans a2) (h3.trans a3) (h4.trans a4) w
  | ⟨7, hlt⟩, h1, h2, h3, h4 =>
    have e : (⟨7, hlt⟩ : Fin 11) = 7 := rfl
    rw [e] at h1 h2 h3 h4 ⊢
    obtain ⟨a1, a2, a3, a4, a5⟩ := q_7
    rw [a5]
    exact sw_7 (h1.trans a1) (h2.trans a2) (h3.trans a3) (h4.trans a4) w
  | ⟨8, hlt⟩, h1, h2, h3, h4 =>
    have e : (⟨8, hlt⟩ : Fin 11) = 8 := rfl
    rw [e] at h1 h2 h3 h4 ⊢
    obtain ⟨a1, a2, a3, a4, a5⟩ := q_8
    rw [a5]
    exact sw_8 (h1.trans a1) (h2.trans a2) (h3.trans a3) (h4.trans a4) w
  | ⟨9, hlt⟩, h1, h2, h3, h4 =>
    have e : (⟨9, hlt⟩ : Fin 11) = 9 := rfl
    rw [e] at h1 h2 h3 h4 ⊢
    obtain ⟨a1, a2, a3, a4, a5⟩ := q_9
    rw [a5]
    exact sw_9 (h1.trans a1) (h2.trans a2) (h3.trans a3) (h4.trans a4) w
  | ⟨10, hlt⟩, h1, h2, h3, h4 =>
    have e : (⟨10, hlt⟩ : Fin 11) = 10 := rfl
    rw [e] at h1 h2 h3 h4 ⊢
    obtain ⟨a1, a2, a3, a4, a5⟩ := q_10
    rw [a5]
    exact sw_10 (h1.trans a1) (h2.trans a2) (h3.trans a3) (h4.trans a4) w
end Go.Proofs.Ytiljakbjbiinkaa
namespace Go.Proofs.Ytiljakbjbiinkaa
open Go.RowKit Pl Go.BigFrame
set_option maxHeartbeats 4000000
set_option maxRecDepth 100000
set_option linter.unusedVariables false

def depB (t i k a b c : Int) (s : Bool) (t' i' k' a' b' c' : Int) (s' : Bool) : Bool := t == t' || touB k a b c s k' a' b' c' s'
end Go.Proofs.Ytiljakbjbiinkaa
namespace Go.Proofs.Ytiljakbjbiinkaa
open Go.RowKit Pl Go.BigFrame
set_option maxHeartbeats 4000000
set_option maxRecDepth 100000
set_option linter.unusedVariables false

end Go.Proofs.Ytiljakbjbiinkaa
