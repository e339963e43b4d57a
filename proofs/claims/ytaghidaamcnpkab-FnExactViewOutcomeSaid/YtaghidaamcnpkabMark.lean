/-
  Contracts of the laws' marks: they write numbers into a program of the call's own, and touch nothing else; and of what looks whether the numbers still stand.
-/
import Derived.Test.YtaghidaamcnpkabSpecWo
import Derived.Test.YtaghidaamcnpkabVs
namespace Go.Proofs.Ytaghidaamcnpkab
open Go.RowKit Pl
set_option maxHeartbeats 400000
set_option linter.unusedVariables false

/-- What marks have come to in one block behind k statements. -/
def MarkS (w wr : World) (g : Nat) (K : Int) (n k : Nat) : Prop :=
  Only g (g + 1) w wr ∧ ∃ cs, Bk wr g 107 cs ∧ n * 5 ≤ cs.size ∧ ∀ j, j < k → SmCs cs (j * 5) (num5 (K + 5 * (j : Int)))
theorem MarkS.next {w wr : World} {g n k : Nat} {K : Int} (h : MarkS w wr g K n k) (hk : k < n) {x : Sm} (hx : x = num5 (K + 5 * (k : Int))) :
    MarkS w (((((wr.setCell ⟨g, k * 5, none⟩ (.int .i64 x.k)).setCell ⟨g, k * 5 + 1, none⟩ (.int .i64 x.a)).setCell ⟨g, k * 5 + 2, none⟩ (.int .i64 x.b)).setCell ⟨g, k * 5 + 3, none⟩ (.int .i64 x.c)).setCell ⟨g, k * 5 + 4, none⟩ (.bool x.s)) g K n (k + 1) := by
  obtain ⟨h0, cs, hbk, hsz, hc⟩ := h
  refine ⟨((((h0.setCell (Nat.le_refl _) (Nat.lt_succ_self _) _).setCell (Nat.le_refl _) (Nat.lt_succ_self _) _).setCell (Nat.le_refl _) (Nat.lt_succ_self _) _).setCell (Nat.le_refl _) (Nat.lt_succ_self _) _).setCell (Nat.le_refl _) (Nat.lt_succ_self _) _, _, hbk.put5 x, by rw [size_put5]; exact hsz, ?_⟩
  intro j hj
  by_cases e : j = k
  · subst e
    rw [← hx]
    exact put5_at x (by omega)
  · exact put5_other x (hc j (by omega)) (Or.inl (by omega))
theorem MarkS.done {w wr : World} {g n : Nat} {K : Int} (h : MarkS w wr g K n n) : OwnRow wr g (g + 1) (some ⟨g, 0, none⟩) (nums K n) := fun hn => by
  obtain ⟨_, cs, hbk, _, hc⟩ := h
  refine ⟨g, cs, rfl, Nat.le_refl _, by omega, hbk, fun j x hj => ?_⟩
  have hl := (List.getElem?_eq_some_iff.1 hj)
  obtain ⟨h1, h2⟩ := hl
  rw [nums_at] at h2
  rw [← h2]
  exact hc j (by rw [nums_length] at h1; exact h1)

theorem num5_eq (q : Int) : (⟨q, q + 1, q + 1 + 1, q + 1 + 1 + 1, (q + 1 + 1 + 1 + 1) % 3 == 0⟩ : Sm) = num5 q := by
  simp only [num5, Sm.mk.injEq, true_and]
  refine ⟨by omega, by omega, ?_⟩
  rw [show q + 1 + 1 + 1 + 1 = q + 4 by omega]

theorem markS_any (xs : List Sm) (g c : Nat) (cs : Array Value) (K : Int) (w : World) (hbk : Bk w g 107 cs) (hc : ∀ (j : Nat) (x : Sm), xs[j]? = some x → SmCs cs (j * 5) x) (h0 : 0 < xs.length) (hl : xs.length ≤ 1048576) (hK : 0 ≤ K) (hK2 : K ≤ 10000000) :
    Calls Try.prog 78 #[.slice (some ⟨g, 0, none⟩) xs.length c, .int .i64 K] w fun e w' => e = .returned (.int .i64 (K + 5 * (xs.length : Int))) ∧ MarkS w w' g K xs.length xs.length := by
  have hsz : xs.length * 5 ≤ cs.size := by
    obtain ⟨_, _, _, _, h4⟩ := hc (xs.length - 1) _ (List.getElem?_eq_getElem (by omega))
    have := (Array.getElem?_eq_some_iff.1 h4).1
    omega
  have start : Hid (MarkS w w g K xs.length 0) := Lib.hid ⟨Only.refl _ _ _, cs, hbk, hsz, fun j hj => absurd hj (by omega)⟩
  clear hbk hc hsz
  go_enter Try.func78, Try.ntmps78
  go_wp2
  go_loopw [1, 5] (fun q i wr => ∃ k : Nat, k ≤ xs.length ∧ i = .int .i64 k ∧ q = .int .i64 (K + 5 * (k : Int)) ∧ MarkS w wr g K xs.length k) (fun _ i _ => xs.length - (intOf i).toNat)
  case atStart => exact ⟨0, Nat.zero_le _, rfl, by simp, start.out⟩
  case round =>
    obtain ⟨k, hk, rfl, rfl, hmk⟩ := hrel
    clear start
    by_cases hlt : k < xs.length
    · obtain ⟨-, cu, hb, hs, -⟩ := id hmk
      obtain ⟨v0, e0⟩ := hb.some_ (i := k * 5) (by omega)
      obtain ⟨v1, e1⟩ := hb.some_ (i := k * 5 + 1) (by omega)
      obtain ⟨v2, e2⟩ := hb.some_ (i := k * 5 + 2) (by omega)
      obtain ⟨v3, e3⟩ := hb.some_ (i := k * 5 + 3) (by omega)
      obtain ⟨v4, e4⟩ := hb.some_ (i := k * 5 + 4) (by omega)
      have q0 := hb.free (k * 5)
      have q1 := hb.free (k * 5 + 1)
      have q2 := hb.free (k * 5 + 2)
      have q3 := hb.free (k * 5 + 3)
      have q4 := hb.free (k * 5 + 4)
      have Next := Lib.hid (hmk.next hlt (num5_eq (K + 5 * (k : Int))))
      clear hb hs hmk
      go_wp2
      go_roundw
      case rel => exact ⟨k + 1, by omega, by go_num, by go_num, Next.out⟩
      case measure => simp [intOf]; omega
    · have hkl : k = xs.length := by omega
      subst hkl
      go_wp2
      go_ret
      exact ⟨rfl, hmk⟩

/-- An empty thread: nothing is written. -/
theorem markS_none (A : Option Addr) (c : Nat) (K : Int) (w : World) (hK : 0 ≤ K) (hK2 : K ≤ 10000000) :
    Calls Try.prog 78 #[.slice A 0 c, .int .i64 K] w fun e w' => e = .returned (.int .i64 K) ∧ w = w' := by
  go_enter Try.func78, Try.ntmps78
  go_wp2
  refine wp_loop_rounds 1 ?_
  rw [rounds_succ]
  go_wp2
  go_ret
  exact ⟨rfl, rfl⟩

theorem held_ints (K : Int) (n : Nat) {k : Nat} (hk : k < n) : (nums K n)[k]? = some (num5 (K + 5 * (k : Int))) := by
  rw [List.getElem?_eq_getElem (by rw [nums_length]; exact hk), nums_at]

end Go.Proofs.Ytaghidaamcnpkab
