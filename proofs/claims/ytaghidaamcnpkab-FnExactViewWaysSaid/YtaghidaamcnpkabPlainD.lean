/-
  What chapter 3's Depend comes to, as plain Lean functions over integers, and the words of bits by which the program tells the same: no program is named here.
-/
import Derived.Test.YtaghidaamcnpkabCopy
import Derived.Test.YtaghidaamcnpkabFrame
import Derived.Test.YtaghidaamcnpkabOpen
namespace Go.Proofs.Ytaghidaamcnpkab
open Go.RowKit Pl Go.BigFrame
set_option maxHeartbeats 400000

theorem fr_two (w : World) (cs ds : Array Value) (t u : TypeId) : Fr w [(w.heap.size, cs), (w.heap.size + 1, ds)] ((w.alloc (.cells cs t)).alloc (.cells ds u)) :=
  ⟨by go_grown, fun b cs' hm => by
    simp only [List.mem_cons, Prod.mk.injEq, List.not_mem_nil, or_false] at hm
    rcases hm with ⟨rfl, rfl⟩ | ⟨rfl, rfl⟩
    · refine ⟨by simp; omega, fun i => ?_⟩
      rw [World.cell?_alloc_lt _ _ _ (by simp)]
      simp
    · refine ⟨by simp, fun i => ?_⟩
      have := World.cell?_alloc_mark (w.alloc (.cells cs t)) cs' u (0, 0) i
      rwa [World.size_alloc] at this⟩

end Go.Proofs.Ytaghidaamcnpkab
namespace Go.Proofs.Ytaghidaamcnpkab.Pl

def lockZ (k a b c : Int) (s : Bool) : Int := if okB k a b c s && (k == 6 || k == 7) then a else -1
def chanZ (k a b c : Int) (s : Bool) : Int := if okB k a b c s then (if k = 8 then a else if k = 9 then b else -1) else -1
theorem lock_eq (k a b c : Int) (s : Bool) : numZ k a b c s 5 = lockZ k a b c s := by
  unfold numZ lockZ
  by_cases h : okB k a b c s = true
  · have hr := ok_range h
    rcases kinds k with rfl | rfl | rfl | rfl | rfl | rfl | rfl | rfl | rfl | rfl | rfl | hk
    all_goals first | (simp [nA, nB, h]; done) | omega
  · simp [h]
theorem chan_eq (k a b c : Int) (s : Bool) : numZ k a b c s 6 = chanZ k a b c s := by
  unfold numZ chanZ
  by_cases h : okB k a b c s = true
  · have hr := ok_range h
    rcases kinds k with rfl | rfl | rfl | rfl | rfl | rfl | rfl | rfl | rfl | rfl | rfl | hk
    all_goals first | (simp [nA, nB, h]; done) | omega
  · simp [h]
/-- The eleven ways of a statement: it reads one of three places, writes one of three, is at one of two locks, at one of two channels, or at none of them. -/
def qP (q : Fin 11) : Int := if q.val < 6 then (q.val % 3 : Nat) else -1
def qW (q : Fin 11) : Bool := decide (3 ≤ q.val) && decide (q.val < 6)
def qL (q : Fin 11) : Int := if q.val = 6 then 0 else if q.val = 7 then 1 else -1
def qC (q : Fin 11) : Int := if q.val = 8 then 0 else if q.val = 9 then 1 else -1
def chgN (n : Nat) : Nat := (n <<< 10) ||| n
def qN (q : Fin 11) : Nat := if q.val < 3 then 1 <<< (3 + q.val) else if q.val < 10 then chgN (1 <<< q.val) else 0
def clN (a b : Nat) : Bool := (a / 2 ^ 10 &&& b) != 0 || (b / 2 ^ 10 &&& a) != 0
theorem way (k a b c : Int) (s : Bool) : ∃ q : Fin 11, placeZ k a b c s = qP q ∧ writesB k a b c s = qW q ∧ lockZ k a b c s = qL q ∧ chanZ k a b c s = qC q := by
  by_cases h : okB k a b c s = true
  · have hr := ok_range h
    have h0 := h
    unfold placeZ writesB lockZ chanZ
    rw [h0]
    rcases kinds k with rfl | rfl | rfl | rfl | rfl | rfl | rfl | rfl | rfl | rfl | rfl | hk
    rotate_right
    · omega
    all_goals (cases s <;> simp [okB, inB, valB] at h)
    all_goals first
      | (refine ⟨⟨10, by decide⟩, ?_⟩; simp [qP, qW, qL, qC, inB]; done)
      | (obtain hb | hb | hb : b = 0 ∨ b = 1 ∨ b = 2 := by omega
         · subst hb; first | (refine ⟨⟨0, by decide⟩, ?_⟩; simp [qP, qW, qL, qC, inB]; done) | (refine ⟨⟨3, by decide⟩, ?_⟩; simp [qP, qW, qL, qC, inB]; done) | (refine ⟨⟨8, by decide⟩, ?_⟩; simp [qP, qW, qL, qC, inB]; done)
         · subst hb; first | (refine ⟨⟨1, by decide⟩, ?_⟩; simp [qP, qW, qL, qC, inB]; done) | (refine ⟨⟨4, by decide⟩, ?_⟩; simp [qP, qW, qL, qC, inB]; done) | (refine ⟨⟨9, by decide⟩, ?_⟩; simp [qP, qW, qL, qC, inB]; done)
         · subst hb; first | (refine ⟨⟨2, by decide⟩, ?_⟩; simp [qP, qW, qL, qC, inB]; done) | (refine ⟨⟨5, by decide⟩, ?_⟩; simp [qP, qW, qL, qC, inB]; done))
      | (obtain hb | hb : b = 0 ∨ b = 1 := by omega
         · subst hb; (refine ⟨⟨8, by decide⟩, ?_⟩; simp [qP, qW, qL, qC, inB]; done)
         · subst hb; (refine ⟨⟨9, by decide⟩, ?_⟩; simp [qP, qW, qL, qC, inB]; done))
      | (obtain hb | hb | hb : a = 0 ∨ a = 1 ∨ a = 2 := by omega
         · subst hb; (refine ⟨⟨3, by decide⟩, ?_⟩; simp [qP, qW, qL, qC, inB]; done)
         · subst hb; (refine ⟨⟨4, by decide⟩, ?_⟩; simp [qP, qW, qL, qC, inB]; done)
         · subst hb; (refine ⟨⟨5, by decide⟩, ?_⟩; simp [qP, qW, qL, qC, inB]; done))
      | (obtain hb | hb : a = 0 ∨ a = 1 := by omega
         · subst hb; first | (refine ⟨⟨6, by decide⟩, ?_⟩; simp [qP, qW, qL, qC, inB]; done) | (refine ⟨⟨8, by decide⟩, ?_⟩; simp [qP, qW, qL, qC, inB]; done)
         · subst hb; first | (refine ⟨⟨7, by decide⟩, ?_⟩; simp [qP, qW, qL, qC, inB]; done) | (refine ⟨⟨9, by decide⟩, ?_⟩; simp [qP, qW, qL, qC, inB]; done))
  · rw [Bool.not_eq_true] at h
    exact ⟨⟨10, by decide⟩, by simp [placeZ, writesB, lockZ, chanZ, h, qP, qW, qL, qC]⟩
/-- Whether two statements touch what one of them changes. -/
def touB (k a b c : Int) (s : Bool) (k' a' b' c' : Int) (s' : Bool) : Bool :=
  conB k a b c s k' a' b' c' s' || ((decide (0 ≤ lockZ k a b c s) && lockZ k a b c s == lockZ k' a' b' c' s') || (decide (0 ≤ chanZ k a b c s) && chanZ k a b c s == chanZ k' a' b' c' s'))
def qT (q r : Fin 11) : Bool :=
  (decide (0 ≤ qP q) && qP q == qP r && (qW q || qW r)) || ((decide (0 ≤ qL q) && qL q == qL r) || (decide (0 ≤ qC q) && qC q == qC r))
theorem qT_eq : ∀ q r : Fin 11, qT q r = clN (qN q) (qN r) := by decide +kernel
theorem tou_eq {k a b c : Int} {s : Bool} {q : Fin 11} (h : placeZ k a b c s = qP q ∧ writesB k a b c s = qW q ∧ lockZ k a b c s = qL q ∧ chanZ k a b c s = qC q)
    {k' a' b' c' : Int} {s' : Bool} {r : Fin 11} (h' : placeZ k' a' b' c' s' = qP r ∧ writesB k' a' b' c' s' = qW r ∧ lockZ k' a' b' c' s' = qL r ∧ chanZ k' a' b' c' s' = qC r) :
    touB k a b c s k' a' b' c' s' = clN (qN q) (qN r) := by
  obtain ⟨h1, h2, h3, h4⟩ := h
  obtain ⟨g1, g2, g3, g4⟩ := h'
  rw [← qT_eq, touB, conB, qT, h1, h2, h3, h4, g1, g2, g3, g4]
theorem qN_lt (q : Fin 11) : qN q < 2 ^ 20 := by revert q; decide +kernel
end Go.Proofs.Ytaghidaamcnpkab.Pl
