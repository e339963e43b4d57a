/-
  What records of lists in memory need: rows known to lie between two blocks, marks over rows that may be empty.
-/
import Derived.Test.YtaghidaamcnpkabIss
import Derived.Test.YtaghidaamcnpkabOpenV
import Derived.Laws.MakeOwn
import Derived.Lib.SmallJoins
import Derived.LoopTactic
import Derived.Outline
import Derived.Test.YtaghidaamcnpkabVec
namespace Go.Proofs.Ytaghidaamcnpkab
open Go.ChangeShapes Go.WideShapes Go.ChangeAt Go.RowKit Go.Deep Pl
set_option maxHeartbeats 400000
set_option maxRecDepth 100000
set_option linter.unusedVariables false

/-! ### sizes -/
def szIn : Int → Iss → Int
  | left, [] => left
  | left, x :: r => if sz1 left x.length < 0 then -1 else szIn (sz1 left x.length) r
def szIss (left : Int) (L : Iss) : Int := if left - L.length < 0 then -1 else szIn (left - L.length) L
theorem szIn_stop {left : Int} {L : Iss} {x : List Int} {r : Iss} (h : L = x :: r) (hs : sz1 left x.length < 0) : szIn left L = -1 := by rw [h, szIn, if_pos hs]
theorem szIn_on {left : Int} {L : Iss} {x : List Int} {r : Iss} (h : L = x :: r) (hs : ¬ sz1 left x.length < 0) : szIn left L = szIn (sz1 left x.length) r := by rw [h, szIn, if_neg hs]
theorem szIn_tot (L : Iss) : ∀ left : Int, 0 ≤ szIn left L → 0 ≤ left → (tot L : Int) ≤ left := by
  induction L with
  | nil => intro left _ h; simpa [tot] using h
  | cons x r ih =>
    intro left h hl
    unfold szIn at h
    by_cases h1 : sz1 left x.length < 0
    · rw [if_pos h1] at h; omega
    · rw [if_neg h1] at h
      have := ih _ h (by omega)
      unfold sz1 at this h1
      split at this
      · simp at h1; omega
      · simp only [tot, List.map_cons, List.sum_cons] at this ⊢; omega
theorem szIn_ge (L : Iss) : ∀ left : Int, 0 ≤ left → -1 ≤ szIn left L ∧ szIn left L ≤ left := by
  induction L with
  | nil => intro left h; simp [szIn]; omega
  | cons x r ih =>
    intro left h
    unfold szIn
    split
    · omega
    · have := ih (sz1 left x.length) (by omega)
      have : sz1 left x.length ≤ left := by unfold sz1; split <;> omega
      omega
theorem szIss_ge (left : Int) (L : Iss) (h : 0 ≤ left) : -1 ≤ szIss left L ∧ szIss left L ≤ left := by
  unfold szIss
  split
  · omega
  · have := szIn_ge L (left - L.length) (by omega); omega
theorem szIss_tot {L : Iss} {left : Int} (h : 0 ≤ szIss left L) : (tot L : Int) + L.length ≤ left := by
  unfold szIss at h
  split at h
  · omega
  · have := szIn_tot L _ h (by omega); omega

theorem szIss_any (k : IssH) (L : Iss) (left : Int) (w : World) (B : Nat) (hR : IssR w B k L) (hL : IssM L maxLen) (h0 : 0 ≤ left) (h1 : left ≤ 1048576) (r : Int) (hr : Hid (szIss left L = r)) :
    Calls Try.prog 44 #[IssV k L, .int .i64 left] w fun e w' => e = .returned (.int .i64 r) ∧ w = w' := by
  obtain ⟨A, c⟩ := k
  obtain ⟨hn, ht⟩ := hL
  obtain ⟨hv⟩ := hR
  unfold maxLen at hn ht
  have hv : Vss w B A (vsIss L) := hv
  show Calls Try.prog 44 #[.slice A L.length c, .int .i64 left] w _
  by_cases h : left - L.length < 0
  · have hfin : Hid (r = -1) := Lib.hid (by rw [← hr.out, szIss, if_pos h])
    clear hr
    go_enter Try.func44, Try.ntmps44
    go_wp2
    go_ret
    exact ⟨by rw [hfin.out]; rfl, rfl⟩
  · have hfin : Hid (szIn (left - L.length) L = r) := Lib.hid (by rw [← hr.out, szIss, if_neg h])
    clear hr
    go_enter Try.func44, Try.ntmps44
    go_wp2
    go_loop [1, 5] (fun l i => ∃ (k : Nat) (lf : Int), k ≤ L.length ∧ i = .int .i64 k ∧ l = .int .i64 lf ∧ 0 ≤ lf ∧ lf ≤ 1048576 ∧ Hid (szIn lf (L.drop k) = r)) (fun _ i => L.length - (intOf i).toNat)
    case atStart => exact ⟨0, _, Nat.zero_le _, rfl, rfl, by omega, by omega, by simpa using hfin⟩
    case round =>
      obtain ⟨k, lf, hk, rfl, rfl, hl0, hl1, hrest⟩ := hrel
      clear hfin
      by_cases hlt : k < L.length
      · obtain ⟨xs, hxs, hd⟩ := drop_at hlt
        obtain ⟨b, off, Ai, ci, rfl, hb, hx, hrow⟩ := hv.at_ (vsIss_at hxs)
        rw [ints_length] at hx
        have hm : xs.length ≤ 9223372036854775807 := ht xs (List.mem_of_getElem? hxs)
        have Hd := Lib.hid hd
        clear hd hxs hv hrow
        by_cases h2 : sz1 lf xs.length < 0
        · have hlast : Hid (r = -1) := Lib.hid (by rw [← hrest.out]; exact szIn_stop Hd.out h2)
          go_wp2_with (go_at_call 45; refine (szInt_any _ _ _ _ _ (by unfold maxLen; omega) hl0 hl1).mono ?_; rintro e w' ⟨rfl, rfl⟩)
          go_ret
          exact ⟨by rw [hlast.out]; rfl, rfl⟩
        · have hnext : Hid (szIn (sz1 lf xs.length) (L.drop (k + 1)) = r) := Lib.hid (by rw [← hrest.out]; exact (szIn_on Hd.out h2).symm)
          have hup : sz1 lf xs.length ≤ 1048576 := by unfold sz1; split <;> omega
          go_wp2_with (go_at_call 45; refine (szInt_any _ _ _ _ _ (by unfold maxLen; omega) hl0 hl1).mono ?_; rintro e w' ⟨rfl, rfl⟩)
          go_round
          case rel => exact ⟨k + 1, _, by omega, by go_num, rfl, by omega, hup, hnext⟩
          case measure => simp [intOf]; omega
      · have hlast : Hid (r = lf) := Lib.hid (by rw [← hrest.out, List.drop_eq_nil_of_le (by omega)]; rfl)
        go_wp2
        go_ret
        exact ⟨by rw [hlast.out]; rfl, rfl⟩

/-! ### copies -/
/-- What a copy of rows has come to behind k rounds. -/
def CopyII (w wr : World) (L : Iss) (k : Nat) : Prop :=
  Below w.heap.size w wr ∧ ∃ (cs : Array Value) (D : Nat → Nat), Bk wr w.heap.size 25 cs ∧ cs.size = L.length ∧
    (∀ (i : Nat) (xs : List Int), i < k → L[i]? = some xs → cs[i]? = some (.slice (some ⟨D i, 0, none⟩) xs.length xs.length) ∧ D i < wr.heap.size ∧ OwnVs wr (w.heap.size + 1) wr.heap.size 3 (some ⟨D i, 0, none⟩) (ints xs)) ∧
    ∀ i j, i < j → j < k → D i < D j
theorem CopyII.next {w wr w1 : World} {L : Iss} {k : Nat} {xs : List Int} (h : CopyII w wr L k) (hc : CopyV wr w1 3 (ints xs) (ints xs).length) (hx : L[k]? = some xs) :
    CopyII w (w1.setCell ⟨w.heap.size, k, none⟩ (.slice (some ⟨wr.heap.size, 0, none⟩) xs.length xs.length)) L (k + 1) := by
  obtain ⟨h0, cs, D, hbk, hsz, hc0, hd⟩ := h
  have hk : k < L.length := (List.getElem?_eq_some_iff.1 hx).1
  have hlt := hbk.lt
  have hb1 := hc.1
  have hz := hb1.size
  have hdone := hc.done
  have hnew : wr.heap.size < w1.heap.size := hc.lt
  have hset : ∀ i, i ≠ w.heap.size → (w1.setCell ⟨w.heap.size, k, none⟩ (.slice (some ⟨wr.heap.size, 0, none⟩) xs.length xs.length)).heap[i]? = w1.heap[i]? := fun i hi => Below.heap_setCell w1 ⟨w.heap.size, k, none⟩ _ i hi
  have hs2 : (w1.setCell ⟨w.heap.size, k, none⟩ (.slice (some ⟨wr.heap.size, 0, none⟩) xs.length xs.length)).heap.size = w1.heap.size := World.size_setCell ..
  refine ⟨(below_on h0 hb1).setCell (Nat.le_refl _) _, _, fun i => if i = k then wr.heap.size else D i, (hbk.below hb1 hlt).set _ _, by simpa using hsz, ?_, ?_⟩
  · intro i ys hi hy
    by_cases e : i = k
    · subst e
      obtain rfl : xs = ys := by rw [hx] at hy; injection hy
      refine ⟨by simp [hsz, hk], by simp [hs2, hnew], ?_⟩
      simp only [if_true]
      exact hdone.keep (by omega) (by omega) fun j hj _ => hset j (by omega)
    · obtain ⟨g0, g1, g2⟩ := hc0 i ys (by omega) hy
      refine ⟨?_, ?_, ?_⟩
      · simp only [if_neg e]; rw [Array.getElem?_setIfInBounds_ne (by omega)]; exact g0
      · simp only [if_neg e]; omega
      · simp only [if_neg e]
        exact g2.keep (by omega) (by omega) fun j hj hj2 => (hset j (by omega)).trans (hb1.block j hj2)
  · intro i j hij hj
    have hDi : D i < wr.heap.size := by
      have : i < L.length := by omega
      exact (hc0 i _ (by omega) (List.getElem?_eq_getElem this)).2.1
    by_cases e : j = k
    · have e' : i ≠ k := by omega
      simp only [if_pos e, if_neg e']
      exact hDi
    · have e' : i ≠ k := by omega
      simp only [if_neg e, if_neg e']
      exact hd i j hij (by omega)
theorem CopyII.done {w wr : World} {L : Iss} (h : CopyII w wr L L.length) : OwnVss wr w.heap.size wr.heap.size 25 3 (some ⟨w.heap.size, 0, none⟩) (vsIss L) := fun _ => by
  obtain ⟨_, cs, D, hbk, _, hc, hd⟩ := h
  refine ⟨_, cs, fun i => some ⟨D i, 0, none⟩, fun i => (L.getD i []).length, rfl, Nat.le_refl _, hbk.lt, hbk, ?_, ?_⟩
  · intro i vs hi
    obtain ⟨xs, hx, rfl⟩ := vsIss_inv hi
    have hlt := (List.getElem?_eq_some_iff.1 hx).1
    obtain ⟨g0, _, g2⟩ := hc i xs hlt hx
    have e : L.getD i [] = xs := by simp [List.getD, hx]
    simp only [e, ints_length]
    exact ⟨g0, g2.keep (by omega) (Nat.le_refl _) fun _ _ _ => rfl⟩
  · intro i j vs us hij hi hj _ _ e
    have := hd i j hij (by obtain ⟨ys, hy, _⟩ := vsIss_inv hj; exact (List.getElem?_eq_some_iff.1 hy).1)
    injection e with e
    injection e with e
    omega

theorem info_il : (Try.prog.info? 25).map (fun i => (i.zero, i.size, i.bytes)) = some (some (.slice none 0 0), 1, 24) := by kernel_rfl
/-- What a copy comes to. -/
def ToIss (w : World) (L : Iss) (e : Ending) (w' : World) : Prop := ∃ h, e = .returned (IssV h L) ∧ Below w.heap.size w w' ∧ w.heap.size < w'.heap.size ∧ IssO w' w.heap.size w'.heap.size h L
theorem toIss_any (k : IssH) (L : Iss) (w : World) (B : Nat) (hR : IssR w B k L) (hB : B ≤ w.heap.size) (hL : IssL L 1048576) :
    Calls Try.prog 51 #[IssV k L] w (ToIss w L) := by
  obtain ⟨A, c⟩ := k
  obtain ⟨hm, hm2⟩ := hL
  obtain ⟨h⟩ := hR
  have h : Vss w B A (vsIss L) := h
  show Calls Try.prog 51 #[.slice A L.length c] w _
  obtain ⟨i0, hi, hz0, hz1, hz2⟩ := info_parts info_il
  have hmk := make_any Try.underlying45 hi hz0 L.length (by rw [hz2]; omega) (by omega)
  rw [hz1, Nat.mul_one] at hmk
  have start := Lib.hid (show CopyII w (w.alloc (.cells (madeCells #[.slice none 0 0] L.length) 25)) L 0 from
    ⟨(Below.refl _ _).alloc (Nat.le_refl _) _, _, fun _ => 0, Bk.new _ _ _, by simp [size_madeCells], fun j x hj => absurd hj (by omega), fun i j _ hj => absurd hj (by omega)⟩)
  clear hz0 hz1 hz2 hi
  go_enter Try.func51, Try.ntmps51
  go_wp2
  go_loopw [4] (fun i wr => ∃ k : Nat, k ≤ L.length ∧ i = .int .i64 k ∧ CopyII w wr L k) (fun i _ => L.length - (intOf i).toNat)
  case atStart => exact ⟨0, Nat.zero_le _, rfl, start.out⟩
  case round =>
    obtain ⟨k, hk, rfl, hcp⟩ := hrel
    clear start hmk
    by_cases hlt : k < L.length
    · obtain ⟨hbel, cs, D, hbk, hsz, -, -⟩ := id hcp
      obtain ⟨xs, hxs, -⟩ := drop_at hlt
      obtain ⟨b, off, Ai, ci, rfl, hb, hx0, hr⟩ := (h.below hbel hB).at_ (vsIss_at hxs)
      rw [ints_length] at hx0
      have Hx := Lib.hid hxs
      have hg := hbk.lt
      have hz := hbel.size
      have hbw : b < wr.heap.size := by omega
      obtain ⟨v0, e0⟩ := hbk.some_ (i := k) (by omega)
      have q0 := hbk.free k
      have hl : xs.length ≤ 1048576 := by have := tot_mem hxs; omega
      clear hbk hsz h hxs hbel
      have Hcp := Lib.hid hcp
      clear hcp
      go_wp2_with (go_at_call 9; refine (toInt_any _ _ _ _ B hr (by omega) hl).mono ?_; rintro e w1 ⟨rfl, hb1⟩; obtain ⟨hc1, hf1⟩ := bcell hb1.1; have hz1 := Nat.lt_of_lt_of_le hg hb1.1.size)
      go_roundw
      case rel => exact ⟨k + 1, by omega, by go_num, Hcp.out.next hb1 Hx.out⟩
      case measure => simp [intOf]; omega
    · have : k = L.length := by omega
      subst this
      go_wp2
      go_ret
      exact ⟨⟨_, _⟩, rfl, hcp.1, (by obtain ⟨_, cs, D, hbk, _⟩ := hcp; exact hbk.lt), ⟨hcp.done⟩⟩

/-! ### as they came in -/
section
variable {H : Type} {enc : TypeId × Value → H} {w : World} {base : Nat} {spare : Nat → Bool} {held : Bool}
theorem iss_of {fuel : Nat} {v : Value} {y : DataW H × List MemPlace} (h : DataW.trod enc Try.prog w base spare held fuel 45 [v] = some y) :
    ∃ (k : IssH) (L : Iss), v = IssV k L ∧ IssM L maxLen ∧ IssR w w.heap.size k L := by
  rcases open_slice1 Try.underlying45 (by kernel_rfl) h with ⟨h0, _⟩ | ⟨a, len, cap, m, n, V, D, Pl, hcs, hb, hl, hm, hmm, _, hi⟩
  · simp at h0
    exact ⟨⟨none, 0⟩, [], h0, ⟨Nat.zero_le _, fun x hx => by simp at hx⟩, ⟨fun hn => absurd hn (by simp [vsIss])⟩⟩
  · simp at hcs
    have hlm : len ≤ m := by rw [hmm]; split <;> omega
    have key : ∀ i, i < len → ∃ xs : List Int, ∃ Ai ci, w.cell? (a.add i) = some (.slice Ai xs.length ci) ∧ xs.length ≤ maxLen ∧ Vs w w.heap.size Ai (ints xs) := by
      intro i hlt
      obtain ⟨hc, htr⟩ := hi i (by omega)
      obtain ⟨Ai, xs, ci, hv, h1, h2, h20, h3⟩ := ints_of Try.underlying25 htr
      exact ⟨xs, Ai, ci, by rw [hc, hv], Nat.le_trans h1 h2, h3⟩
    obtain ⟨f, hf⟩ := choose_lt key
    refine ⟨⟨some a, cap⟩, (List.range len).map f, by rw [hcs]; simp, ⟨by simp; omega, ?_⟩, ⟨fun hn => ?_⟩⟩
    · intro xs hx
      obtain ⟨i, hi', rfl⟩ := List.mem_map.1 hx
      obtain ⟨_, _, _, h1, _⟩ := hf i (List.mem_range.1 hi')
      exact h1
    have hn' : 0 < len := by simpa [vsIss] using hn
    obtain ⟨_, _, h0, _⟩ := hf 0 hn'
    obtain ⟨b, off, spot⟩ := a
    have hspot : spot = none := by simpa [Addr.add] using World.cell?_spot h0
    subst hspot
    refine ⟨b, off, rfl, by have := World.block_lt_of_cell? w _ h0; simpa [Addr.add] using this, fun j vs hj => ?_⟩
    obtain ⟨xs, hxs, rfl⟩ := vsIss_inv hj
    have hjl : j < len := by
      have := (List.getElem?_eq_some_iff.1 hxs).1
      simpa using this
    have hx : xs = f j := by
      rw [List.getElem?_map, List.getElem?_range hjl] at hxs
      simpa using hxs.symm
    subst hx
    obtain ⟨Ai, ci, g0, g1, g2⟩ := hf j hjl
    rw [addr_add] at g0
    exact ⟨Ai, ci, by rw [ints_length]; exact g0, g2⟩
end
end Go.Proofs.Ytaghidaamcnpkab
namespace Go.Proofs.Ytaghidaamcnpkab
open Go.RowKit Pl
set_option maxHeartbeats 400000
set_option linter.unusedVariables false

theorem szInt_any' (A : Option Addr) (n c : Nat) (left : Int) (w : World) (hn : n ≤ maxLen) (h0 : 0 ≤ left) (h1 : left ≤ 1048576) (r : Int) (hr : Hid (sz1 left n = r)) :
    Calls Try.prog 45 #[.slice A n c, .int .i64 left] w fun e w' => e = .returned (.int .i64 r) ∧ w = w' := by rw [← hr.out]; exact szInt_any A n c left w hn h0 h1
/-- What a size function over several lists comes to. -/
def szN : Int → List Nat → Int
  | a, [] => a
  | a, n :: r => if sz1 a n < 0 then -1 else szN (sz1 a n) r
theorem szN_ge (ns : List Nat) : ∀ a : Int, 0 ≤ a → -1 ≤ szN a ns ∧ szN a ns ≤ a := by
  induction ns with
  | nil => intro a h; simp [szN]; omega
  | cons n r ih =>
    intro a h
    unfold szN
    split
    · omega
    · have := ih _ (show 0 ≤ sz1 a n by omega)
      have h2 : sz1 a n ≤ a := by unfold sz1; split <;> omega
      omega
theorem szN_len (ns : List Nat) : ∀ a : Int, 0 ≤ szN a ns → 0 ≤ a → (ns.sum : Int) ≤ a := by
  induction ns with
  | nil => intro a h h0; simpa using h0
  | cons n r ih =>
    intro a h h0
    unfold szN at h
    split at h
    · omega
    · rename_i h1
      have := ih _ h (by omega)
      have h2 : sz1 a n = a - n := by
        unfold sz1 at h1 ⊢
        split
        · rename_i h3; rw [if_pos h3] at h1; omega
        · rfl
      rw [List.sum_cons]; push_cast; omega

/-- Values that lie from block lo on, below hi. -/
def InVs (w : World) (lo hi : Nat) (A : Option Addr) (vs : List Value) : Prop :=
  0 < vs.length → ∃ b off, A = some ⟨b, off, none⟩ ∧ lo ≤ b ∧ b < hi ∧ ∀ (j : Nat) (v : Value), vs[j]? = some v → w.cell? ⟨b, off + j, none⟩ = some v
theorem InVs.vs {w : World} {lo hi : Nat} {A : Option Addr} {vs : List Value} (h : InVs w lo hi A vs) : Vs w hi A vs := fun hn => by
  obtain ⟨b, off, hA, _, hb, hx⟩ := h hn
  exact ⟨b, off, hA, hb, hx⟩
theorem InVs.keep {w w' : World} {lo hi lo' hi' : Nat} {A : Option Addr} {vs : List Value} (h : InVs w lo hi A vs) (hl : lo' ≤ lo) (hh : hi ≤ hi') (hk : ∀ i, lo ≤ i → i < hi → w'.heap[i]? = w.heap[i]?) : InVs w' lo' hi' A vs := fun hn => by
  obtain ⟨b, off, hA, h0, hb, hx⟩ := h hn
  exact ⟨b, off, hA, by omega, by omega, fun j v hj => (World.cell?_of_block (a := ⟨b, off + j, none⟩) (hk b h0 hb)).trans (hx j v hj)⟩
theorem InVs.below {w w' : World} {lo hi B : Nat} {A : Option Addr} {vs : List Value} (h : InVs w lo hi A vs) (hb : Below B w w') (hB : hi ≤ B) : InVs w' lo hi A vs :=
  h.keep (Nat.le_refl _) (Nat.le_refl _) fun i _ hi => hb.block i (by omega)
theorem OwnVs.in_ {w : World} {lo hi : Nat} {t : TypeId} {A : Option Addr} {vs : List Value} (h : OwnVs w lo hi t A vs) : InVs w lo hi A vs := fun hn => by
  obtain ⟨g, cs, hA, h0, hg, hb, hx⟩ := h hn
  exact ⟨g, 0, hA, h0, hg, fun j v hj => by rw [Nat.zero_add]; exact (hb.cell j).trans (hx j v hj)⟩
theorem Vs.keepV {w w' : World} {B : Nat} {A : Option Addr} {vs : List Value} (h : Vs w B A vs) (hk : ∀ b o, b < B → w'.cell? ⟨b, o, none⟩ = w.cell? ⟨b, o, none⟩) : Vs w' B A vs := h.keep (Nat.le_refl _) hk
/-- Another row, whose block is not the one that was written over, is as it was. -/
theorem OwnVs.same {w w' : World} {lo hi : Nat} {t : TypeId} {A A' : Option Addr} {vs : List Value} {m : Nat} (h : OwnVs w lo hi t A vs) (hs : hi ≤ w.heap.size) (hk : ∀ i, i < w.heap.size → (0 < m → A' ≠ some ⟨i, 0, none⟩) → w'.heap[i]? = w.heap[i]?)
    (hd : 0 < vs.length → 0 < m → A' ≠ A) : OwnVs w' lo hi t A vs := fun hn => by
  obtain ⟨g, cs, hA, h0, hg, hb, hx⟩ := h hn
  exact ⟨g, cs, hA, h0, hg, (hk g (by omega) (fun hm e => hd hn hm (by rw [e, hA]))).trans hb, hx⟩
theorem own_size {w : World} {lo hi : Nat} {t : TypeId} {A : Option Addr} {vs : List Value} (h : OwnVs w lo hi t A vs) (hn : 0 < vs.length) : ∃ g cs, A = some ⟨g, 0, none⟩ ∧ lo ≤ g ∧ g < hi ∧ Bk w g t cs ∧ vs.length ≤ cs.size := by
  obtain ⟨g, cs, hA, h0, hg, hb, hx⟩ := h hn
  refine ⟨g, cs, hA, h0, hg, hb, ?_⟩
  have := hx (vs.length - 1) _ (List.getElem?_eq_getElem (by omega))
  have := (Array.getElem?_eq_some_iff.1 this).1
  omega
theorem markInt_own (A : Option Addr) (xs : List Int) (c : Nat) (K : Int) (w : World) (lo hi : Nat) (h : OwnVs w lo hi 3 A (ints xs)) (hl : xs.length ≤ 1048576) (hK : 0 ≤ K) (hK2 : K ≤ 1000000000) :
    Calls Try.prog 15 #[.slice A xs.length c, .int .i64 K] w fun e w' => e = .returned (.int .i64 (K + (xs.length : Int))) ∧ Only lo hi w w' ∧ OwnVs w' lo hi 3 A (ints (upI K xs.length)) ∧ (∀ i, i < w.heap.size → (0 < xs.length → A ≠ some ⟨i, 0, none⟩) → w'.heap[i]? = w.heap[i]?) := by
  by_cases hn : 0 < xs.length
  · obtain ⟨g, cs, rfl, h0, hg, hb, hs⟩ := own_size h (by simpa using hn)
    rw [ints_length] at hs
    refine (markInt_any xs.length g c cs K w hb hs hl hK hK2).mono ?_
    rintro e w' ⟨rfl, hm⟩
    exact ⟨rfl, hm.1.mono h0 (by omega), hm.done.more h0 (by omega), fun i hi hne => hm.1.block i hi (by
      rcases Nat.lt_trichotomy i g with h1 | h1 | h1
      · exact Or.inl h1
      · subst h1; exact absurd rfl (hne hn)
      · exact Or.inr h1)⟩
  · have e : xs.length = 0 := by omega
    rw [e]
    refine (markInt_none A c K w hK hK2).mono ?_
    rintro e w' ⟨rfl, rfl⟩
    exact ⟨by simp, Only.refl _ _ _, fun hh => absurd hh (by simp), fun _ _ _ => rfl⟩
theorem markBool_own (A : Option Addr) (xs : List Bool) (c : Nat) (K : Int) (w : World) (lo hi : Nat) (h : OwnVs w lo hi 4 A (bools xs)) (hl : xs.length ≤ 1048576) (hK : 0 ≤ K) (hK2 : K ≤ 1000000000) :
    Calls Try.prog 40 #[.slice A xs.length c, .int .i64 K] w fun e w' => e = .returned (.int .i64 (K + (xs.length : Int))) ∧ Only lo hi w w' ∧ OwnVs w' lo hi 4 A (bools (upB K xs.length)) ∧ (∀ i, i < w.heap.size → (0 < xs.length → A ≠ some ⟨i, 0, none⟩) → w'.heap[i]? = w.heap[i]?) := by
  by_cases hn : 0 < xs.length
  · obtain ⟨g, cs, rfl, h0, hg, hb, hs⟩ := own_size h (by simpa using hn)
    rw [bools_length] at hs
    refine (markBool_any xs.length g c cs K w hb hs hl hK hK2).mono ?_
    rintro e w' ⟨rfl, hm⟩
    exact ⟨rfl, hm.1.mono h0 (by omega), hm.done.more h0 (by omega), fun i hi hne => hm.1.block i hi (by
      rcases Nat.lt_trichotomy i g with h1 | h1 | h1
      · exact Or.inl h1
      · subst h1; exact absurd rfl (hne hn)
      · exact Or.inr h1)⟩
  · have e : xs.length = 0 := by omega
    rw [e]
    refine (markBool_none A c K w hK hK2).mono ?_
    rintro e w' ⟨rfl, rfl⟩
    exact ⟨by simp, Only.refl _ _ _, fun hh => absurd hh (by simp), fun _ _ _ => rfl⟩
end Go.Proofs.Ytaghidaamcnpkab
