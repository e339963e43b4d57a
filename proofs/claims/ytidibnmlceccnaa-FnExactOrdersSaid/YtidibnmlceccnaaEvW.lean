/-
  What eventWord comes to, and that two words clash where two events depend.
-/
import Derived.Test.YtidibnmlceccnaaSBef
import Derived.Test.YtidibnmlceccnaaDep3
namespace Go.Proofs.Ytidibnmlceccnaa
open Go.RowKit Pl Go.BigFrame
set_option maxHeartbeats 4000000
set_option maxRecDepth 100000
set_option linter.unusedVariables false

theorem evw_0 {k a b c : Int} {s : Bool} {q : Fin 11} (h : placeZ k a b c s = qP q ∧ writesB k a b c s = qW q ∧ lockZ k a b c s = qL q ∧ chanZ k a b c s = qC q) (i : Int) (w : World) :
    Calls Try.prog 184 #[Ev 0 i k a b c s] w fun e w' => e = .returned (.int .u64 ((1025 ||| qN q : Nat) : Int)) ∧ Below w.heap.size w w' := by
  have hS : Fr w [(w.heap.size, #[.int .i64 0, .int .i64 i, .int .i64 k, .int .i64 a, .int .i64 b, .int .i64 c, .bool s])] (w.alloc (.cells #[.int .i64 0, .int .i64 i, .int .i64 k, .int .i64 a, .int .i64 b, .int .i64 c, .bool s] 81)) := fr_one w _ _
  have hc1 := @Ws.cells w [(w.heap.size, #[.int .i64 0, .int .i64 i, .int .i64 k, .int .i64 a, .int .i64 b, .int .i64 c, .bool s])] w.heap.size _ (List.mem_cons_self ..)
  haveI hne := Nonempty.intro (Ws.mk _ hS)
  have HS := Lib.hid hS
  clear hS
  have Hor := Lib.hid (or_u64 (a := 1025) (b := qN q) (by decide) (by have := qN_lt q; omega))
  go_enter Try.func184, Try.ntmps184
  go_wp2_with fail
  refine region_in (by kernel_rfl) HS.out.drew ?_
  repeat (go_big_quiet_step (first | (go_at_call 187; exact call_in (changing_any 1 _ (by decide) 1025 (Lib.hid rfl))) | (go_at_call 188; exact call_in (sw_any h _))))
  refine wpQuiet_nil ?_
  rintro _ ⟨⟨w2, hw2⟩, rfl⟩
  have hB := hw2.below
  go_wp2
  go_ret
  refine ⟨?_, hB⟩
  rw [← Hor.out]
  rfl
theorem evw_1 {k a b c : Int} {s : Bool} {q : Fin 11} (h : placeZ k a b c s = qP q ∧ writesB k a b c s = qW q ∧ lockZ k a b c s = qL q ∧ chanZ k a b c s = qC q) (i : Int) (w : World) :
    Calls Try.prog 184 #[Ev 1 i k a b c s] w fun e w' => e = .returned (.int .u64 ((2050 ||| qN q : Nat) : Int)) ∧ Below w.heap.size w w' := by
  have hS : Fr w [(w.heap.size, #[.int .i64 1, .int .i64 i, .int .i64 k, .int .i64 a, .int .i64 b, .int .i64 c, .bool s])] (w.alloc (.cells #[.int .i64 1, .int .i64 i, .int .i64 k, .int .i64 a, .int .i64 b, .int .i64 c, .bool s] 81)) := fr_one w _ _
  have hc1 := @Ws.cells w [(w.heap.size, #[.int .i64 1, .int .i64 i, .int .i64 k, .int .i64 a, .int .i64 b, .int .i64 c, .bool s])] w.heap.size _ (List.mem_cons_self ..)
  haveI hne := Nonempty.intro (Ws.mk _ hS)
  have HS := Lib.hid hS
  clear hS
  have Hor := Lib.hid (or_u64 (a := 2050) (b := qN q) (by decide) (by have := qN_lt q; omega))
  go_enter Try.func184, Try.ntmps184
  go_wp2_with fail
  refine region_in (by kernel_rfl) HS.out.drew ?_
  repeat (go_big_quiet_step (first | (go_at_call 187; exact call_in (changing_any 2 _ (by decide) 2050 (Lib.hid rfl))) | (go_at_call 188; exact call_in (sw_any h _))))
  refine wpQuiet_nil ?_
  rintro _ ⟨⟨w2, hw2⟩, rfl⟩
  have hB := hw2.below
  go_wp2
  go_ret
  refine ⟨?_, hB⟩
  rw [← Hor.out]
  rfl
theorem evw_2 {k a b c : Int} {s : Bool} {q : Fin 11} (h : placeZ k a b c s = qP q ∧ writesB k a b c s = qW q ∧ lockZ k a b c s = qL q ∧ chanZ k a b c s = qC q) (i : Int) (w : World) :
    Calls Try.prog 184 #[Ev 2 i k a b c s] w fun e w' => e = .returned (.int .u64 ((4100 ||| qN q : Nat) : Int)) ∧ Below w.heap.size w w' := by
  have hS : Fr w [(w.heap.size, #[.int .i64 2, .int .i64 i, .int .i64 k, .int .i64 a, .int .i64 b, .int .i64 c, .bool s])] (w.alloc (.cells #[.int .i64 2, .int .i64 i, .int .i64 k, .int .i64 a, .int .i64 b, .int .i64 c, .bool s] 81)) := fr_one w _ _
  have hc1 := @Ws.cells w [(w.heap.size, #[.int .i64 2, .int .i64 i, .int .i64 k, .int .i64 a, .int .i64 b, .int .i64 c, .bool s])] w.heap.size _ (List.mem_cons_self ..)
  haveI hne := Nonempty.intro (Ws.mk _ hS)
  have HS := Lib.hid hS
  clear hS
  have Hor := Lib.hid (or_u64 (a := 4100) (b := qN q) (by decide) (by have := qN_lt q; omega))
  go_enter Try.func184, Try.ntmps184
  go_wp2_with fail
  refine region_in (by kernel_rfl) HS.out.drew ?_
  repeat (go_big_quiet_step (first | (go_at_call 187; exact call_in (changing_any 4 _ (by decide) 4100 (Lib.hid rfl))) | (go_at_call 188; exact call_in (sw_any h _))))
  refine wpQuiet_nil ?_
  rintro _ ⟨⟨w2, hw2⟩, rfl⟩
  have hB := hw2.below
  go_wp2
  go_ret
  refine ⟨?_, hB⟩
  rw [← Hor.out]
  rfl
/-- The word of an event of a thread. -/
def ewN (t : Fin 3) (q : Fin 11) : Nat := chgN (1 <<< t.val) ||| qN q
theorem ew_clash : ∀ (t u : Fin 3) (q r : Fin 11), clN (ewN t q) (ewN u r) = (decide (t = u) || qT q r) := by decide +kernel
theorem ew_lt : ∀ (t : Fin 3) (q : Fin 11), ewN t q < 2 ^ 20 := by decide +kernel
def depE (x y : Evt) : Bool := depB x.t x.i x.x.k x.x.a x.x.b x.x.c x.x.s y.t y.i y.x.k y.x.a y.x.b y.x.c y.x.s
/-- Which word an event has. -/
def EwOf (x : Evt) (W : Nat) : Prop := ∃ (t : Fin 3) (q : Fin 11), x.t = (t.val : Int) ∧ (placeZ x.x.k x.x.a x.x.b x.x.c x.x.s = qP q ∧ writesB x.x.k x.x.a x.x.b x.x.c x.x.s = qW q ∧ lockZ x.x.k x.x.a x.x.b x.x.c x.x.s = qL q ∧ chanZ x.x.k x.x.a x.x.b x.x.c x.x.s = qC q) ∧ W = ewN t q
theorem ew_some {x : Evt} (h0 : 0 ≤ x.t) (h3 : x.t < 3) : ∃ W, EwOf x W := by
  obtain ⟨q, hq⟩ := way x.x.k x.x.a x.x.b x.x.c x.x.s
  exact ⟨_, ⟨x.t.toNat, by omega⟩, q, by show x.t = ((x.t.toNat : Nat) : Int); omega, hq, rfl⟩
theorem ew_dep {x y : Evt} {V W : Nat} (hx : EwOf x V) (hy : EwOf y W) : clN V W = depE x y := by
  obtain ⟨t, q, ht, hq, rfl⟩ := hx
  obtain ⟨u, r, hu, hr, rfl⟩ := hy
  rw [ew_clash]
  unfold depE depB
  rw [tou_eq hq hr, qT_eq, ht, hu]
  congr 1
  rw [Bool.eq_iff_iff, decide_eq_true_eq, beq_iff_eq]
  constructor
  · rintro rfl; rfl
  · intro h; exact Fin.ext (by omega)
theorem evword_any {x : Evt} {W : Nat} (h : EwOf x W) (w : World) : Calls Try.prog 184 #[x.val] w fun e w' => e = .returned (.int .u64 (W : Nat)) ∧ Below w.heap.size w w' := by
  obtain ⟨t, q, ht, hq, rfl⟩ := h
  obtain ⟨xt, xi, k, a, b, c, s⟩ := x
  simp only at ht hq
  subst ht
  match t, hq with
  | ⟨0, h⟩, hq =>
    have e0 : ewN ⟨0, h⟩ q = 1025 ||| qN q := congrArg (fun z => z ||| qN q) (show chgN (1 <<< 0) = 1025 by decide)
    rw [e0]
    exact evw_0 hq xi w
  | ⟨1, h⟩, hq =>
    have e0 : ewN ⟨1, h⟩ q = 2050 ||| qN q := congrArg (fun z => z ||| qN q) (show chgN (1 <<< 1) = 2050 by decide)
    rw [e0]
    exact evw_1 hq xi w
  | ⟨2, h⟩, hq =>
    have e0 : ewN ⟨2, h⟩ q = 4100 ||| qN q := congrArg (fun z => z ||| qN q) (show chgN (1 <<< 2) = 4100 by decide)
    rw [e0]
    exact evw_2 hq xi w
/-- Numbers of the call's own. -/
def AnsN (w : World) (v : List Int) (e : Ending) (w' : World) : Prop :=
  ∃ g cap, e = .returned (.slice (some ⟨g, 0, none⟩) v.length cap) ∧ Below w.heap.size w w' ∧ w.heap.size ≤ g ∧ w'.ownsRow w.heap.size 3 1 (.slice (some ⟨g, 0, none⟩) v.length cap) v.length (ints v)
/-- Numbers in one block. -/
def NumsAt (w : World) (g : Nat) (v : List Int) : Prop := g < w.heap.size ∧ (0 < v.length → ∃ cs, Bk w g 3 cs ∧ ∀ (j : Nat) (u : Value), (ints v)[j]? = some u → cs[j]? = some u)
theorem nums_of {w : World} {base g cap : Nat} {v : List Int} (h : w.ownsRow base 3 1 (.slice (some ⟨g, 0, none⟩) v.length cap) v.length (ints v)) : NumsAt w g v := by
  rcases h.2 with ⟨h1, _⟩ | ⟨g', cap', cur, e1, e2, e3, _⟩
  · cases h1
  · injection e1 with e1 _ _
    injection e1 with e1
    injection e1 with e1
    subst e1
    have hb : Bk w g 3 cur := e3
    refine ⟨hb.lt, fun hn => ?_⟩
    obtain ⟨g'', cs, hA, _, _, hb2, hx⟩ := own_vs h rfl (by rw [ints_length]; exact hn)
    injection hA with hA
    injection hA with hA
    subst hA
    exact ⟨cs, hb2, hx⟩
end Go.Proofs.Ytidibnmlceccnaa
