/-
  Contracts of the laws' size functions: they come to plain functions of the lists' lengths and turn nothing.
-/
import Derived.Test.YtaghidaamcnpkabRec0
import Derived.Test.YtaghidaamcnpkabQTail
import Derived.Test.YtaghidaamcnpkabEq
import Derived.Test.YtaghidaamcnpkabNtC
import Derived.Test.YtaghidaamcnpkabFrame
import Derived.LoopTactic
import Derived.Outline
namespace Go.Proofs.Ytaghidaamcnpkab
open Go.RowKit Pl Go.BigFrame
set_option maxHeartbeats 4000000
set_option maxRecDepth 100000
set_option linter.unusedVariables false

/-- Rows of the call's own, put one by one below headers that were made ahead. -/
structure RwsO (w wr : World) (g n : Nat) (F : Nat → List Int) (k : Nat) : Prop where
  bel : Below w.heap.size w wr
  hd : ∃ (cs : Array Value) (D : Nat → Option Addr) (C : Nat → Nat), Bk wr g 25 cs ∧ cs.size = n ∧ (∀ j, j < k → cs[j]? = some (.slice (D j) (F j).length (C j)) ∧ OwnVs wr (g + 1) wr.heap.size 3 (D j) (ints (F j))) ∧ ∀ i j, i < j → j < k → 0 < (F i).length → 0 < (F j).length → D i ≠ D j
theorem own_where {w : World} {lo hi : Nat} {t : TypeId} {A : Option Addr} {xs : List Int} (h : OwnVs w lo hi t A (ints xs)) (hn : 0 < xs.length) : ∃ g, A = some ⟨g, 0, none⟩ ∧ lo ≤ g ∧ g < hi := by
  obtain ⟨g, cs, hA, h1, h2, _⟩ := h (by rw [ints_length]; exact hn)
  exact ⟨g, hA, h1, h2⟩
theorem RwsO.next {w wr w1 : World} {g n k c : Nat} {F : Nat → List Int} {A : Option Addr} (h : RwsO w wr g n F k) (hk : k < n) (hg : w.heap.size ≤ g) (hb : Below wr.heap.size wr w1) (ho : OwnVs w1 wr.heap.size w1.heap.size 3 A (ints (F k))) :
    RwsO w (w1.setCell ⟨g, k, none⟩ (.slice A (F k).length c)) g n F (k + 1) := by
  obtain ⟨h0, cs, D, C, hbk, hsz, hc, hd⟩ := h
  have hlt := hbk.lt
  have hz := hb.size
  have hset : ∀ i, i ≠ g → (w1.setCell ⟨g, k, none⟩ (.slice A (F k).length c)).heap[i]? = w1.heap[i]? := fun i hi => Below.heap_setCell w1 ⟨g, k, none⟩ _ i hi
  have hs2 : (w1.setCell ⟨g, k, none⟩ (.slice A (F k).length c)).heap.size = w1.heap.size := World.size_setCell ..
  refine ⟨(below_on h0 hb).setCell hg _, _, fun i => if i = k then A else D i, fun i => if i = k then c else C i, (hbk.below hb hlt).set _ _, by simpa using hsz, ?_, ?_⟩
  · intro j hj
    by_cases e : j = k
    · subst e
      simp only [if_true]
      refine ⟨by simp [hsz, hk], ?_⟩
      rw [hs2]
      exact ho.keep (by omega) (Nat.le_refl _) fun i h1 h2 => hset i (by omega)
    · simp only [if_neg e]
      obtain ⟨g0, g1⟩ := hc j (by omega)
      refine ⟨by rw [Array.getElem?_setIfInBounds_ne (by omega)]; exact g0, ?_⟩
      rw [hs2]
      exact g1.keep (Nat.le_refl _) hz fun i h1 h2 => (hset i (by omega)).trans (hb.block i h2)
  · intro i j hij hj hi0 hj0
    by_cases e : j = k
    · subst e
      have e' : i ≠ j := by omega
      simp only [if_true, if_neg e']
      obtain ⟨ga, ea, _, h2⟩ := own_where (hc i (by omega)).2 hi0
      obtain ⟨gb, eb, h3, _⟩ := own_where ho hj0
      rw [ea, eb]
      intro e
      injection e with e
      injection e with e
      omega
    · have e' : i ≠ k := by omega
      simp only [if_neg e, if_neg e']
      exact hd i j hij (by omega) hi0 hj0
theorem RwsO.done {w wr : World} {g n lo : Nat} {F : Nat → List Int} (h : RwsO w wr g n F n) (hl : lo ≤ g) (c : Nat) : IssO wr lo wr.heap.size ⟨some ⟨g, 0, none⟩, c⟩ ((List.range n).map F) := ⟨fun _ => by
  obtain ⟨_, cs, D, C, hbk, _, hc, hd⟩ := h
  have at_ : ∀ {i : Nat} {vs : List Value}, (vsIss ((List.range n).map F))[i]? = some vs → i < n ∧ vs = ints (F i) := by
    intro i vs hi
    obtain ⟨xs, hx, rfl⟩ := vsIss_inv hi
    have hl := (List.getElem?_eq_some_iff.1 hx).1
    rw [List.length_map, List.length_range] at hl
    rw [List.getElem?_map, List.getElem?_range hl] at hx
    simp at hx
    exact ⟨hl, by rw [hx]⟩
  refine ⟨g, cs, D, C, rfl, hl, hbk.lt, hbk, ?_, ?_⟩
  · intro i vs hi
    obtain ⟨h1, rfl⟩ := at_ hi
    obtain ⟨g0, g1⟩ := hc i h1
    rw [ints_length]
    exact ⟨g0, g1.keep (by omega) (Nat.le_refl _) fun _ _ _ => rfl⟩
  · intro i j vs us hij hi hj h0 h1
    obtain ⟨_, rfl⟩ := at_ hi
    obtain ⟨h2, rfl⟩ := at_ hj
    rw [ints_length] at h0 h1
    exact hd i j hij h2 h0 h1⟩

end Go.Proofs.Ytaghidaamcnpkab
namespace Go.Proofs.Ytaghidaamcnpkab
open Go.RowKit Pl Go.BigFrame
set_option maxHeartbeats 4000000
set_option maxRecDepth 100000
set_option linter.unusedVariables false

/-- Lists that are the call's own. -/
def MadeLs (w : World) (L : Iss) (e : Ending) (w' : World) : Prop :=
  ∃ k, e = .returned (IssV k L) ∧ Below w.heap.size w w' ∧ w.heap.size < w'.heap.size ∧ IssO w' w.heap.size w'.heap.size k L
end Go.Proofs.Ytaghidaamcnpkab
namespace Go.Proofs.Ytaghidaamcnpkab
open Go.RowKit Pl
set_option maxHeartbeats 400000
set_option linter.unusedVariables false

theorem szS_any (A : Option Addr) (n c : Nat) (left : Int) (w : World) (hn : n ≤ maxLen) (h0 : 0 ≤ left) (h1 : left ≤ 1048576) :
    Calls Try.prog 65 #[.slice A n c, .int .i64 left] w fun e w' => e = .returned (.int .i64 (sz1 left n)) ∧ w = w' := by
  unfold maxLen at hn
  by_cases h : left - n < 0
  all_goals
    have hfin : Hid (sz1 left n = if left - n < 0 then -1 else left - n) := Lib.hid rfl
    go_enter Try.func65, Try.ntmps65
    go_wp2
    go_ret
    refine ⟨?_, rfl⟩
    rw [hfin.out]
    first | (rw [if_pos (by omega)]; rfl) | (rw [if_neg (by omega)]; rfl)

theorem szSS_any (A : Option Addr) (L : List (List Sm)) (c : Nat) (left : Int) (w : World) (B : Nat) (hR : Rows2 w B A L) (hn : L.length ≤ maxLen) (h0 : 0 ≤ left) (h1 : left ≤ 1048576) (r : Int) (hr : Hid (sz2 left L = r)) :
    Calls Try.prog 30 #[.slice A L.length c, .int .i64 left] w fun e w' => e = .returned (.int .i64 r) ∧ w = w' := by
  unfold maxLen at hn
  by_cases h : left - L.length < 0
  · have hfin : Hid (r = -1) := Lib.hid (by rw [← hr.out, sz2, if_pos h])
    go_enter Try.func30, Try.ntmps30
    go_wp2
    go_ret
    exact ⟨by rw [hfin.out]; rfl, rfl⟩
  · have hfin : Hid (szL (left - L.length) L = r) := Lib.hid (by rw [← hr.out, sz2, if_neg h])
    clear hr
    go_enter Try.func30, Try.ntmps30
    go_wp2
    go_loop [1, 5] (fun l i => ∃ (k : Nat) (lf : Int), k ≤ L.length ∧ i = .int .i64 k ∧ l = .int .i64 lf ∧ 0 ≤ lf ∧ lf ≤ 1048576 ∧ Hid (szL lf (L.drop k) = r)) (fun _ i => L.length - (intOf i).toNat)
    case atStart => exact ⟨0, _, Nat.zero_le _, rfl, rfl, by omega, by omega, by simpa using hfin⟩
    case round =>
      obtain ⟨k, lf, hk, rfl, rfl, hl0, hl1, hrest⟩ := hrel
      clear hfin
      by_cases hlt : k < L.length
      · obtain ⟨b, off, xs, Ai, ci, rfl, hb, hx, hd, hc, hlen, hm, hrow⟩ := hR.at_ hlt
        have Hd := Lib.hid hd
        clear hd hx
        unfold maxLen at hm
        by_cases h2 : sz1 lf xs.length < 0
        · have hlast : Hid (r = -1) := Lib.hid (by rw [← hrest.out]; exact szL_stop Hd.out h2)
          go_wp2_with (go_at_call 65; refine (szS_any _ _ _ _ _ (by unfold maxLen; omega) hl0 hl1).mono ?_; rintro e w' ⟨rfl, rfl⟩)
          go_ret
          exact ⟨by rw [hlast.out]; rfl, rfl⟩
        · have hnext : Hid (szL (sz1 lf xs.length) (L.drop (k + 1)) = r) := Lib.hid (by rw [← hrest.out]; exact (szL_on Hd.out h2).symm)
          have hup : sz1 lf xs.length ≤ 1048576 := by unfold sz1; split <;> omega
          go_wp2_with (go_at_call 65; refine (szS_any _ _ _ _ _ (by unfold maxLen; omega) hl0 hl1).mono ?_; rintro e w' ⟨rfl, rfl⟩)
          go_round
          case rel => exact ⟨k + 1, _, by omega, by go_num, rfl, by omega, hup, hnext⟩
          case measure => simp [intOf]; omega
      · have hlast : Hid (r = lf) := Lib.hid (by rw [← hrest.out, List.drop_eq_nil_of_le (by omega)]; rfl)
        go_wp2
        go_ret
        exact ⟨by rw [hlast.out]; rfl, rfl⟩

theorem szP_any (A : Option Addr) (L : List (List Sm)) (c : Nat) (left : Int) (w : World) (B : Nat) (hR : Rows2 w B A L) (hB : B ≤ w.heap.size) (hn : L.length ≤ maxLen) (h0 : 0 ≤ left) (h1 : left ≤ 1048576) (r : Int) (hr : Hid (sz2 left L = r)) (hm : -1 ≤ r) :
    Calls Try.prog 6 #[.agg #[.slice A L.length c], .int .i64 left] w fun e w' => e = .returned (.int .i64 r) ∧ Below w.heap.size w w' := by
  by_cases h : r < 0
  all_goals
    have hfin : Hid (r < 0 → r = -1) := Lib.hid (by omega)
    go_enter Try.func6, Try.ntmps6
    go_wp2_with (go_at_call 30; refine (szSS_any _ _ _ _ _ B (hR.below ((Below.refl _ _).alloc (Nat.le_refl _) _) hB) hn h0 h1 r hr).mono ?_; rintro e w' ⟨rfl, rfl⟩)
    go_ret
    refine ⟨?_, by go_grown⟩
    first | rfl | (rw [hfin.out h]; rfl)

end Go.Proofs.Ytaghidaamcnpkab
