/-
  Lists of lists of numbers as arguments: their sizes, copies of them, and how they read where they came in.
-/
import Derived.Test.YtiljakbjbiinkaaIss
import Derived.Test.YtiljakbjbiinkaaOpenV
import Derived.Laws.MakeOwn
import Derived.Lib.SmallJoins
import Derived.LoopTactic
import Derived.Outline
namespace Go.Proofs.Ytiljakbjbiinkaa
open Go.ChangeShapes Go.WideShapes Go.ChangeAt Go.RowKit Go.Deep Pl
set_option maxHeartbeats 400000
set_option maxRecDepth 100000
set_option linter.unusedVariables false

/-! ### sizes -/
def szIn : Int → Iss → Int
  | left, [] => left
  | left, x :: r => if sz1 left x.length < 0 then -1 else szIn (sz1 left x.length) r
def szIss (left : Int) (L : Iss) : Int := if left - L.length < 0 then -1 else szIn (left - L.length) L
theorem szIn_stop {left : Int} {L : Iss} {x : List Int} {r : Iss} (h : L = x :: r) (hs : sz1 left x.length < 0) : szIn left L = -1 := by rw [h, szIn, if_pos hs]
theorem szIn_on {left : Int} {L : Iss} {x : List Int} {r : Iss} (h : L = x :: r) (hs : ¬ sz1 left x.length < 0) : szIn left L = szIn (sz1 left x.length) r := by rw [h, szIn, if_neg hs]
theorem szIn_tot (L : Iss) : ∀ left : Int, 0 ≤ szIn left L → 0 ≤ left → (tot L : Int) ≤ left := by
  induction L with
  | nil => intro left _ h; simpa [tot] using h
  | cons x r ih =>
    intro left h hl
    unfold szIn at h
    by_cases h1 : sz1 left x.length < 0
    · rw [if_pos h1] at h; omega
    · rw [if_neg h1] at h
      have := ih _ h (by omega)
      unfold sz1 at this h1
      split at this
      · simp at h1; omega
      · simp only [tot, List.map_cons, List.sum_cons] at this ⊢; omega
theorem szIn_ge (L : Iss) : ∀ left : Int, 0 ≤ left → -1 ≤ szIn left L ∧ szIn left L ≤ left := by
  induction L with
  | nil => intro left h; simp [szIn]; omega
  | cons x r ih =>
    intro left h
    unfold szIn
    split
    · omega
    · have := ih (sz1 left x.length) (by omega)
      have : sz1 left x.length ≤ left := by unfold sz1; split <;> omega
      omega
theorem szIss_ge (left : Int) (L : Iss) (h : 0 ≤ left) : -1 ≤ szIss left L ∧ szIss left L ≤ left := by
  unfold szIss
  split
  · omega
  · have := szIn_ge L (left - L.length) (by omega); omega
theorem szIss_tot {L : Iss} {left : Int} (h : 0 ≤ szIss left L) : (tot L : Int) + L.length ≤ left := by
  unfold szIss at h
  split at h
  · omega
  · have := szIn_tot L _ h (by omega); omega

theorem szIss_any (k : IssH) (L : Iss) (left : Int) (w : World) (B : Nat) (hR : IssR w B k L) (hL : IssM L maxLen) (h0 : 0 ≤ left) (h1 : left ≤ 1048576) (r : Int) (hr : Hid (szIss left L = r)) :
    Calls Try.prog 75 #[IssV k L, .int .i64 left] w fun e w' => e = .returned (.int .i64 r) ∧ w = w' := by
  obtain ⟨A, c⟩ := k
  obtain ⟨hn, ht⟩ := hL
  obtain ⟨hv⟩ := hR
  unfold maxLen at hn ht
  have hv : Vss w B A (vsIss L) := hv
  show Calls Try.prog 75 #[.slice A L.length c, .int .i64 left] w _
  by_cases h : left - L.length < 0
  · have hfin : Hid (r = -1) := Lib.hid (by rw [← hr.out, szIss, if_pos h])
    clear hr
    go_enter Try.func75, Try.ntmps75
    go_wp2
    go_ret
    exact ⟨by rw [hfin.out]; rfl, rfl⟩
  · have hfin : Hid (szIn (left - L.length) L = r) := Lib.hid (by rw [← hr.out, szIss, if_neg h])
    clear hr
    go_enter Try.func75, Try.ntmps75
    go_wp2
    go_loop [1, 5] (fun l i => ∃ (k : Nat) (lf : Int), k ≤ L.length ∧ i = .int .i64 k ∧ l = .int .i64 lf ∧ 0 ≤ lf ∧ lf ≤ 1048576 ∧ Hid (szIn lf (L.drop k) = r)) (fun _ i => L.length - (intOf i).toNat)
    case atStart => exact ⟨0, _, Nat.zero_le _, rfl, rfl, by omega, by omega, by simpa using hfin⟩
    case round =>
      obtain ⟨k, lf, hk, rfl, rfl, hl0, hl1, hrest⟩ := hrel
      clear hfin
      by_cases hlt : k < L.length
      · obtain ⟨xs, hxs, hd⟩ := drop_at hlt
        obtain ⟨b, off, Ai, ci, rfl, hb, hx, hrow⟩ := hv.at_ (vsIss_at hxs)
        rw [ints_length] at hx
        have hm : xs.length ≤ 9223372036854775807 := ht xs (List.mem_of_getElem? hxs)
        have Hd := Lib.hid hd
        clear hd hxs hv hrow
        by_cases h2 : sz1 lf xs.length < 0
        · have hlast : Hid (r = -1) := Lib.hid (by rw [← hrest.out]; exact szIn_stop Hd.out h2)
          go_wp2_with (go_at_call 76; refine (szInt_any _ _ _ _ _ (by unfold maxLen; omega) hl0 hl1).mono ?_; rintro e w' ⟨rfl, rfl⟩)
          go_ret
          exact ⟨by rw [hlast.out]; rfl, rfl⟩
        · have hnext : Hid (szIn (sz1 lf xs.length) (L.drop (k + 1)) = r) := Lib.hid (by rw [← hrest.out]; exact (szIn_on Hd.out h2).symm)
          have hup : sz1 lf xs.length ≤ 1048576 := by unfold sz1; split <;> omega
          go_wp2_with (go_at_call 76; refine (szInt_any _ _ _ _ _ (by unfold maxLen; omega) hl0 hl1).mono ?_; rintro e w' ⟨rfl, rfl⟩)
          go_round
          case rel => exact ⟨k + 1, _, by omega, by go_num, rfl, by omega, hup, hnext⟩
          case measure => simp [intOf]; omega
      · have hlast : Hid (r = lf) := Lib.hid (by rw [← hrest.out, List.drop_eq_nil_of_le (by omega)]; rfl)
        go_wp2
        go_ret
        exact ⟨by rw [hlast.out]; rfl, rfl⟩

/-! ### copies -/
/-- What a copy of rows has come to behind k rounds. -/
def CopyII (w wr : World) (L : Iss) (k : Nat) : Prop :=
  Below w.heap.size w wr ∧ ∃ (cs : Array Value) (D : Nat → Nat), Bk wr w.heap.size 39 cs ∧ cs.size = L.length ∧
    (∀ (i : Nat) (xs : List Int), i < k → L[i]? = some xs → cs[i]? = some (.slice (some ⟨D i, 0, none⟩) xs.length xs.length) ∧ D i < wr.heap.size ∧ OwnVs wr (w.heap.size + 1) wr.heap.size 3 (some ⟨D i, 0, none⟩) (ints xs)) ∧
    ∀ i j, i < j → j < k → D i < D j
theorem CopyII.next {w wr w1 : World} {L : Iss} {k : Nat} {xs : List Int} (h : CopyII w wr L k) (hc : CopyV wr w1 3 (ints xs) (ints xs).length) (hx : L[k]? = some xs) :
    CopyII w (w1.setCell ⟨w.heap.size, k, none⟩ (.slice (some ⟨wr.heap.size, 0, none⟩) xs.length xs.length)) L (k + 1) := by
  obtain ⟨h0, cs, D, hbk, hsz, hc0, hd⟩ := h
  have hk : k < L.length := (List.getElem?_eq_some_iff.1 hx).1
  have hlt := hbk.lt
  have hb1 := hc.1
  have hz := hb1.size
  have hdone := hc.done
  have hnew : wr.heap.size < w1.heap.size := hc.lt
  have hset : ∀ i, i ≠ w.heap.size → (w1.setCell ⟨w.heap.size, k, none⟩ (.slice (some ⟨wr.heap.size, 0, none⟩) xs.length xs.length)).heap[i]? = w1.heap[i]? := fun i hi => Below.heap_setCell w1 ⟨w.heap.size, k, none⟩ _ i hi
  have hs2 : (w1.setCell ⟨w.heap.size, k, none⟩ (.slice (some ⟨wr.heap.size, 0, none⟩) xs.length xs.length)).heap.size = w1.heap.size := World.size_setCell ..
  refine ⟨(below_on h0 hb1).setCell (Nat.le_refl _) _, _, fun i => if i = k then wr.heap.size else D i, (hbk.below hb1 hlt).set _ _, by simpa using hsz, ?_, ?_⟩
  · intro i ys hi hy
    by_cases e : i = k
    · subst e
      obtain rfl : xs = ys := by rw [hx] at hy; injection hy
      refine ⟨by simp [hsz, hk], by simp [hs2, hnew], ?_⟩
      simp only [if_true]
      exact hdone.keep (by omega) (by omega) fun j hj _ => hset j (by omega)
    · obtain ⟨g0, g1, g2⟩ := hc0 i ys (by omega) hy
      refine ⟨?_, ?_, ?_⟩
      · simp only [if_neg e]; rw [Array.getElem?_setIfInBounds_ne (by omega)]; exact g0
      · simp only [if_neg e]; omega
      · simp only [if_neg e]
        exact g2.keep (by omega) (by omega) fun j hj hj2 => (hset j (by omega)).trans (hb1.block j hj2)
  · intro i j hij hj
    have hDi : D i < wr.heap.size := by
      have : i < L.length := by omega
      exact (hc0 i _ (by omega) (List.getElem?_eq_getElem this)).2.1
    by_cases e : j = k
    · have e' : i ≠ k := by omega
      simp only [if_pos e, if_neg e']
      exact hDi
    · have e' : i ≠ k := by omega
      simp only [if_neg e, if_neg e']
      exact hd i j hij (by omega)
theorem CopyII.done {w wr : World} {L : Iss} (h : CopyII w wr L L.length) : OwnVss wr w.heap.size wr.heap.size 39 3 (some ⟨w.heap.size, 0, none⟩) (vsIss L) := fun _ => by
  obtain ⟨_, cs, D, hbk, _, hc, hd⟩ := h
  refine ⟨_, cs, fun i => some ⟨D i, 0, none⟩, fun i => (L.getD i []).length, rfl, Nat.le_refl _, hbk.lt, hbk, ?_, ?_⟩
  · intro i vs hi
    obtain ⟨xs, hx, rfl⟩ := vsIss_inv hi
    have hlt := (List.getElem?_eq_some_iff.1 hx).1
    obtain ⟨g0, _, g2⟩ := hc i xs hlt hx
    have e : L.getD i [] = xs := by simp [List.getD, hx]
    simp only [e, ints_length]
    exact ⟨g0, g2.keep (by omega) (Nat.le_refl _) fun _ _ _ => rfl⟩
  · intro i j vs us hij hi hj _ _ e
    have := hd i j hij (by obtain ⟨ys, hy, _⟩ := vsIss_inv hj; exact (List.getElem?_eq_some_iff.1 hy).1)
    injection e with e
    injection e with e
    omega

theorem info_il : (Try.prog.info? 39).map (fun i => (i.zero, i.size, i.bytes)) = some (some (.slice none 0 0), 1, 24) := by kernel_rfl
/-- What a copy comes to. -/
def ToIss (w : World) (L : Iss) (e : Ending) (w' : World) : Prop := ∃ h, e = .returned (IssV h L) ∧ Below w.heap.size w w' ∧ w.heap.size < w'.heap.size ∧ IssO w' w.heap.size w'.heap.size h L
theorem toIss_any (k : IssH) (L : Iss) (w : World) (B : Nat) (hR : IssR w B k L) (hB : B ≤ w.heap.size) (hL : IssL L 1048576) :
    Calls Try.prog 84 #[IssV k L] w (ToIss w L) := by
  obtain ⟨A, c⟩ := k
  obtain ⟨hm, hm2⟩ := hL
  obtain ⟨h⟩ := hR
  have h : Vss w B A (vsIss L) := h
  show Calls Try.prog 84 #[.slice A L.length c] w _
  obtain ⟨i0, hi, hz0, hz1, hz2⟩ := info_parts info_il
  have hmk := make_any Try.underlying43 hi hz0 L.length (by rw [hz2]; omega) (by omega)
  rw [hz1, Nat.mul_one] at hmk
  have start := Lib.hid (show CopyII w (w.alloc (.cells (madeCells #[.slice none 0 0] L.length) 39)) L 0 from
    ⟨(Below.refl _ _).alloc (Nat.le_refl _) _, _, fun _ => 0, Bk.new _ _ _, by simp [size_madeCells], fun j x hj => absurd hj (by omega), fun i j _ hj => absurd hj (by omega)⟩)
  clear hz0 hz1 hz2 hi
  go_enter Try.func84, Try.ntmps84
  go_wp2
  go_loopw [4] (fun i wr => ∃ k : Nat, k ≤ L.length ∧ i = .int .i64 k ∧ CopyII w wr L k) (fun i _ => L.length - (intOf i).toNat)
  case atStart => exact ⟨0, Nat.zero_le _, rfl, start.out⟩
  case round =>
    obtain ⟨k, hk, rfl, hcp⟩ := hrel
    clear start hmk
    by_cases hlt : k < L.length
    · obtain ⟨hbel, cs, D, hbk, hsz, -, -⟩ := id hcp
      obtain ⟨xs, hxs, -⟩ := drop_at hlt
      obtain ⟨b, off, Ai, ci, rfl, hb, hx0, hr⟩ := (h.below hbel hB).at_ (vsIss_at hxs)
      rw [ints_length] at hx0
      have Hx := Lib.hid hxs
      have hg := hbk.lt
      have hz := hbel.size
      have hbw : b < wr.heap.size := by omega
      obtain ⟨v0, e0⟩ := hbk.some_ (i := k) (by omega)
      have q0 := hbk.free k
      have hl : xs.length ≤ 1048576 := by have := tot_mem hxs; omega
      clear hbk hsz h hxs hbel
      have Hcp := Lib.hid hcp
      clear hcp
      go_wp2_with (go_at_call 85; refine (toInt_any _ _ _ _ B hr (by omega) hl).mono ?_; rintro e w1 ⟨rfl, hb1⟩; obtain ⟨hc1, hf1⟩ := bcell hb1.1; have hz1 := Nat.lt_of_lt_of_le hg hb1.1.size)
      go_roundw
      case rel => exact ⟨k + 1, by omega, by go_num, Hcp.out.next hb1 Hx.out⟩
      case measure => simp [intOf]; omega
    · have : k = L.length := by omega
      subst this
      go_wp2
      go_ret
      exact ⟨⟨_, _⟩, rfl, hcp.1, (by obtain ⟨_, cs, D, hbk, _⟩ := hcp; exact hbk.lt), ⟨hcp.done⟩⟩

/-! ### as they came in -/
section
variable {H : Type} {enc : TypeId × Value → H} {w : World} {base : Nat} {spare : Nat → Bool} {held : Bool}
theorem iss_of {fuel : Nat} {v : Value} {y : DataW H × List MemPlace} (h : DataW.trod enc Try.prog w base spare held fuel 43 [v] = some y) :
    ∃ (k : IssH) (L : Iss), v = IssV k L ∧ IssM L maxLen ∧ IssR w w.heap.size k L := by
  rcases open_slice1 Try.underlying43 (by kernel_rfl) h with ⟨h0, _⟩ | ⟨a, len, cap, m, n, V, D, Pl, hcs, hb, hl, hm, hmm, _, hi⟩
  · simp at h0
    exact ⟨⟨none, 0⟩, [], h0, ⟨Nat.zero_le _, fun x hx => by simp at hx⟩, ⟨fun hn => absurd hn (by simp [vsIss])⟩⟩
  · simp at hcs
    have hlm : len ≤ m := by rw [hmm]; split <;> omega
    have key : ∀ i, i < len → ∃ xs : List Int, ∃ Ai ci, w.cell? (a.add i) = some (.slice Ai xs.length ci) ∧ xs.length ≤ maxLen ∧ Vs w w.heap.size Ai (ints xs) := by
      intro i hlt
      obtain ⟨hc, htr⟩ := hi i (by omega)
      obtain ⟨Ai, xs, ci, hv, h1, h2, h20, h3⟩ := ints_of Try.underlying39 htr
      exact ⟨xs, Ai, ci, by rw [hc, hv], Nat.le_trans h1 h2, h3⟩
    obtain ⟨f, hf⟩ := choose_lt key
    refine ⟨⟨some a, cap⟩, (List.range len).map f, by rw [hcs]; simp, ⟨by simp; omega, ?_⟩, ⟨fun hn => ?_⟩⟩
    · intro xs hx
      obtain ⟨i, hi', rfl⟩ := List.mem_map.1 hx
      obtain ⟨_, _, _, h1, _⟩ := hf i (List.mem_range.1 hi')
      exact h1
    have hn' : 0 < len := by simpa [vsIss] using hn
    obtain ⟨_, _, h0, _⟩ := hf 0 hn'
    obtain ⟨b, off, spot⟩ := a
    have hspot : spot = none := by simpa [Addr.add] using World.cell?_spot h0
    subst hspot
    refine ⟨b, off, rfl, by have := World.block_lt_of_cell? w _ h0; simpa [Addr.add] using this, fun j vs hj => ?_⟩
    obtain ⟨xs, hxs, rfl⟩ := vsIss_inv hj
    have hjl : j < len := by
      have := (List.getElem?_eq_some_iff.1 hxs).1
      simpa using this
    have hx : xs = f j := by
      rw [List.getElem?_map, List.getElem?_range hjl] at hxs
      simpa using hxs.symm
    subst hx
    obtain ⟨Ai, ci, g0, g1, g2⟩ := hf j hjl
    rw [addr_add] at g0
    exact ⟨Ai, ci, by rw [ints_length]; exact g0, g2⟩
end
end Go.Proofs.Ytiljakbjbiinkaa
