/-
  Blocks of a call's own that hold statements: how they are written and read. No walk is made here.
-/
import Derived.Test.YtaghidaamcnpkaaMem
import Derived.Test.YtaghidaamcnpkaaFrame
import Derived.Lib.SmallJoins
namespace Go.Proofs.Ytaghidaamcnpkaa
open Go.RowKit Pl

/-- Block g is just these cells, none of them frozen. -/
def Bk (w : World) (g : Nat) (t : TypeId) (cs : Array Value) : Prop := w.heap[g]? = some (.cells cs t (0, 0))
section
variable {w w' : World} {g : Nat} {t : TypeId} {cs : Array Value}
theorem Bk.lt (h : Bk w g t cs) : g < w.heap.size := by
  rcases Nat.lt_or_ge g w.heap.size with h1 | h1
  · exact h1
  · unfold Bk at h; rw [Array.getElem?_eq_none h1] at h; cases h
theorem Bk.cell (h : Bk w g t cs) (i : Nat) : w.cell? ⟨g, i, none⟩ = cs[i]? := cell_of_row w g i cs t (0, 0) h
theorem Bk.some_ (h : Bk w g t cs) {i : Nat} (hi : i < cs.size) : ∃ v, w.cell? ⟨g, i, none⟩ = some v := ⟨_, (h.cell i).trans (Array.getElem?_eq_getElem hi)⟩
theorem Bk.free (h : Bk w g t cs) (i : Nat) : w.frozen? ⟨g, i, none⟩ = false := Joins.unfrozen_of_block h i
theorem Bk.new (w : World) (cs : Array Value) (t : TypeId) : Bk (w.alloc (.cells cs t)) w.heap.size t cs := heap_alloc_new w _
theorem Bk.set (h : Bk w g t cs) (i : Nat) (v : Value) : Bk (w.setCell ⟨g, i, none⟩ v) g t (cs.setIfInBounds i v) := Joins.block_setCell h v
theorem Bk.below {B : Nat} (h : Bk w g t cs) (hb : Below B w w') (hg : g < B) : Bk w' g t cs := (hb.block g hg).trans h
theorem Bk.alloc (h : Bk w g t cs) (o : Obj) : Bk (w.alloc o) g t cs := h.below (Below.refl w.heap.size w |>.alloc (Nat.le_refl _) o) h.lt
theorem Bk.far (h : Bk w g t cs) {p : Addr} (hp : g ≠ p.block) (v : Value) : Bk (w.setCell p v) g t cs := (Below.heap_setCell w p v g hp).trans h
end

/-- A statement stands in an array from o on. -/
def SmCs (cs : Array Value) (o : Nat) (x : Sm) : Prop :=
  cs[o]? = some (.int .i64 x.k) ∧ cs[o + 1]? = some (.int .i64 x.a) ∧ cs[o + 2]? = some (.int .i64 x.b) ∧ cs[o + 3]? = some (.int .i64 x.c) ∧ cs[o + 4]? = some (.bool x.s)
def put5 (cs : Array Value) (o : Nat) (x : Sm) : Array Value :=
  ((((cs.setIfInBounds o (.int .i64 x.k)).setIfInBounds (o + 1) (.int .i64 x.a)).setIfInBounds (o + 2) (.int .i64 x.b)).setIfInBounds (o + 3) (.int .i64 x.c)).setIfInBounds (o + 4) (.bool x.s)
theorem size_put5 (cs : Array Value) (o : Nat) (x : Sm) : (put5 cs o x).size = cs.size := by simp [put5]
theorem put5_at {cs : Array Value} {o : Nat} (x : Sm) (h : o + 5 ≤ cs.size) : SmCs (put5 cs o x) o x := by
  refine ⟨?_, ?_, ?_, ?_, ?_⟩ <;> (simp [put5, Array.getElem?_setIfInBounds]; omega)
theorem put5_other {cs : Array Value} {o o' : Nat} {y : Sm} (x : Sm) (h : SmCs cs o' y) (ha : o' + 5 ≤ o ∨ o + 5 ≤ o') : SmCs (put5 cs o x) o' y := by
  obtain ⟨h0, h1, h2, h3, h4⟩ := h
  have e : ∀ i, (i < o ∨ o + 5 ≤ i) → (put5 cs o x)[i]? = cs[i]? := by
    intro i hi
    unfold put5
    rw [Array.getElem?_setIfInBounds_ne (by omega), Array.getElem?_setIfInBounds_ne (by omega), Array.getElem?_setIfInBounds_ne (by omega), Array.getElem?_setIfInBounds_ne (by omega), Array.getElem?_setIfInBounds_ne (by omega)]
  exact ⟨(e _ (by omega)).trans h0, (e _ (by omega)).trans h1, (e _ (by omega)).trans h2, (e _ (by omega)).trans h3, (e _ (by omega)).trans h4⟩
theorem Bk.put5 {w : World} {g o : Nat} {t : TypeId} {cs : Array Value} (h : Bk w g t cs) (x : Sm) :
    Bk (((((w.setCell ⟨g, o, none⟩ (.int .i64 x.k)).setCell ⟨g, o + 1, none⟩ (.int .i64 x.a)).setCell ⟨g, o + 2, none⟩ (.int .i64 x.b)).setCell ⟨g, o + 3, none⟩ (.int .i64 x.c)).setCell ⟨g, o + 4, none⟩ (.bool x.s)) g t (Go.Proofs.Ytaghidaamcnpkaa.put5 cs o x) :=
  ((((h.set _ _).set _ _).set _ _).set _ _).set _ _
theorem SmCs.at_ {w : World} {g o : Nat} {t : TypeId} {cs : Array Value} {x : Sm} (hs : SmCs cs o x) (h : Bk w g t cs) : SmAt w g o x := by
  obtain ⟨h0, h1, h2, h3, h4⟩ := hs
  exact ⟨(h.cell _).trans h0, (h.cell _).trans h1, (h.cell _).trans h2, (h.cell _).trans h3, (h.cell _).trans h4⟩

/-- A thread of the call's own: its block lies from lo on, below hi. -/
def OwnRow (w : World) (lo hi : Nat) (A : Option Addr) (xs : List Sm) : Prop :=
  0 < xs.length → ∃ g cs, A = some ⟨g, 0, none⟩ ∧ lo ≤ g ∧ g < hi ∧ Bk w g 46 cs ∧ ∀ (j : Nat) (x : Sm), xs[j]? = some x → SmCs cs (j * 5) x
/-- The threads of a program of the call's own: each in a block that no other one has. -/
def OwnRows2 (w : World) (lo hi : Nat) (A : Option Addr) (L : List (List Sm)) : Prop :=
  0 < L.length → ∃ (g : Nat) (cs : Array Value) (D : Nat → Option Addr) (C : Nat → Nat), A = some ⟨g, 0, none⟩ ∧ lo ≤ g ∧ g < hi ∧ Bk w g 44 cs ∧
    (∀ (i : Nat) (xs : List Sm), L[i]? = some xs → cs[i]? = some (.slice (D i) xs.length (C i)) ∧ xs.length ≤ C i ∧ C i ≤ maxLen ∧ (D i = none → C i = 0) ∧ OwnRow w lo hi (D i) xs) ∧
    ∀ i j xs ys, i < j → L[i]? = some xs → L[j]? = some ys → 0 < xs.length → 0 < ys.length → D i ≠ D j
theorem OwnRow.row {w : World} {lo hi : Nat} {A : Option Addr} {xs : List Sm} (h : OwnRow w lo hi A xs) : Row w hi A xs := fun hn => by
  obtain ⟨g, cs, hA, _, hg, hb, hx⟩ := h hn
  exact ⟨g, 0, hA, hg, fun j x hj => by rw [Nat.zero_add]; exact (hx j x hj).at_ hb⟩
theorem OwnRows2.rows {w : World} {lo hi : Nat} {A : Option Addr} {L : List (List Sm)} (h : OwnRows2 w lo hi A L) : Rows2 w hi A L := fun hn => by
  obtain ⟨g, cs, D, C, hA, _, hg, hb, hx, _⟩ := h hn
  exact ⟨g, 0, hA, hg, fun i xs hi => ⟨D i, C i, by rw [Nat.zero_add]; exact (hb.cell i).trans (hx i xs hi).1, (hx i xs hi).2.1, (hx i xs hi).2.2.1, (hx i xs hi).2.2.2.1, (hx i xs hi).2.2.2.2.row⟩⟩
theorem OwnRow.keep {w w' : World} {lo hi lo' hi' : Nat} {A : Option Addr} {xs : List Sm} (h : OwnRow w lo hi A xs) (hl : lo' ≤ lo) (hh : hi ≤ hi') (hk : ∀ i, lo ≤ i → i < hi → w'.heap[i]? = w.heap[i]?) : OwnRow w' lo' hi' A xs := fun hn => by
  obtain ⟨g, cs, hA, h0, hg, hb, hx⟩ := h hn
  exact ⟨g, cs, hA, by omega, by omega, (hk g h0 hg).trans hb, hx⟩
theorem OwnRows2.keep {w w' : World} {lo hi lo' hi' : Nat} {A : Option Addr} {L : List (List Sm)} (h : OwnRows2 w lo hi A L) (hl : lo' ≤ lo) (hh : hi ≤ hi') (hk : ∀ i, lo ≤ i → i < hi → w'.heap[i]? = w.heap[i]?) : OwnRows2 w' lo' hi' A L := fun hn => by
  obtain ⟨g, cs, D, C, hA, h0, hg, hb, hx, hd⟩ := h hn
  exact ⟨g, cs, D, C, hA, by omega, by omega, (hk g h0 hg).trans hb, fun i xs hi => ⟨(hx i xs hi).1, (hx i xs hi).2.1, (hx i xs hi).2.2.1, (hx i xs hi).2.2.2.1, (hx i xs hi).2.2.2.2.keep hl hh hk⟩, hd⟩
theorem OwnRow.below {w w' : World} {lo hi : Nat} {A : Option Addr} {xs : List Sm} {B : Nat} (h : OwnRow w lo hi A xs) (hb : Below B w w') (hB : hi ≤ B) : OwnRow w' lo hi A xs :=
  h.keep (Nat.le_refl _) (Nat.le_refl _) fun i _ hi => hb.block i (by omega)
theorem OwnRows2.below {w w' : World} {lo hi : Nat} {A : Option Addr} {L : List (List Sm)} {B : Nat} (h : OwnRows2 w lo hi A L) (hb : Below B w w') (hB : hi ≤ B) : OwnRows2 w' lo hi A L :=
  h.keep (Nat.le_refl _) (Nat.le_refl _) fun i _ hi => hb.block i (by omega)

/-- What a copy of a thread has come to behind k rounds. -/
def CopyS (w wr : World) (xs : List Sm) (k : Nat) : Prop :=
  Below w.heap.size w wr ∧ ∃ cs, Bk wr w.heap.size 46 cs ∧ cs.size = xs.length * 5 ∧ ∀ (j : Nat) (x : Sm), j < k → xs[j]? = some x → SmCs cs (j * 5) x
theorem CopyS.next {w wr w1 : World} {xs : List Sm} {k : Nat} {x : Sm} (h : CopyS w wr xs k) (hb : Below wr.heap.size wr w1) (hx : xs[k]? = some x) :
    CopyS w (((((w1.setCell ⟨w.heap.size, k * 5, none⟩ (.int .i64 x.k)).setCell ⟨w.heap.size, k * 5 + 1, none⟩ (.int .i64 x.a)).setCell ⟨w.heap.size, k * 5 + 2, none⟩ (.int .i64 x.b)).setCell ⟨w.heap.size, k * 5 + 3, none⟩ (.int .i64 x.c)).setCell ⟨w.heap.size, k * 5 + 4, none⟩ (.bool x.s)) xs (k + 1) := by
  obtain ⟨h0, cs, hbk, hsz, hc⟩ := h
  have hk : k < xs.length := (List.getElem?_eq_some_iff.1 hx).1
  refine ⟨((((((below_on h0 hb).setCell (Nat.le_refl _) _).setCell (Nat.le_refl _) _).setCell (Nat.le_refl _) _).setCell (Nat.le_refl _) _).setCell (Nat.le_refl _) _), _, (hbk.below hb hbk.lt).put5 x, by rw [size_put5]; exact hsz, ?_⟩
  intro j y hj hy
  by_cases e : j = k
  · subst e
    obtain rfl : x = y := by rw [hx] at hy; injection hy
    exact put5_at x (by rw [hsz]; omega)
  · exact put5_other x (hc j y (by omega) hy) (Or.inl (by omega))
theorem CopyS.done {w wr : World} {xs : List Sm} (h : CopyS w wr xs xs.length) : OwnRow wr w.heap.size (w.heap.size + 1) (some ⟨w.heap.size, 0, none⟩) xs := fun _ => by
  obtain ⟨_, cs, hbk, _, hc⟩ := h
  exact ⟨_, cs, rfl, Nat.le_refl _, by omega, hbk, fun j x hj => hc j x (List.getElem?_eq_some_iff.1 hj).1 hj⟩

/-- What a copy of a program's threads has come to behind k rounds. -/
def CopySS (w wr : World) (L : List (List Sm)) (k : Nat) : Prop :=
  Below w.heap.size w wr ∧ ∃ (cs : Array Value) (D : Nat → Nat), Bk wr w.heap.size 44 cs ∧ cs.size = L.length ∧
    (∀ (i : Nat) (xs : List Sm), i < k → L[i]? = some xs → cs[i]? = some (.slice (some ⟨D i, 0, none⟩) xs.length xs.length) ∧ D i < wr.heap.size ∧ OwnRow wr (w.heap.size + 1) wr.heap.size (some ⟨D i, 0, none⟩) xs) ∧
    ∀ i j, i < j → j < k → D i < D j
theorem CopySS.next {w wr w1 : World} {L : List (List Sm)} {k : Nat} {xs : List Sm} (h : CopySS w wr L k) (hc : CopyS wr w1 xs xs.length) (hx : L[k]? = some xs) :
    CopySS w (w1.setCell ⟨w.heap.size, k, none⟩ (.slice (some ⟨wr.heap.size, 0, none⟩) xs.length xs.length)) L (k + 1) := by
  obtain ⟨h0, cs, D, hbk, hsz, hc0, hd⟩ := h
  have hk : k < L.length := (List.getElem?_eq_some_iff.1 hx).1
  have hlt := hbk.lt
  have hb1 := hc.1
  have hz := hb1.size
  have hdone := hc.done
  have hnew : wr.heap.size < w1.heap.size := by obtain ⟨_, cs1, hb, _⟩ := hc; exact hb.lt
  have hset : ∀ i, i ≠ w.heap.size → (w1.setCell ⟨w.heap.size, k, none⟩ (.slice (some ⟨wr.heap.size, 0, none⟩) xs.length xs.length)).heap[i]? = w1.heap[i]? := fun i hi => Below.heap_setCell w1 ⟨w.heap.size, k, none⟩ _ i hi
  have hs2 : (w1.setCell ⟨w.heap.size, k, none⟩ (.slice (some ⟨wr.heap.size, 0, none⟩) xs.length xs.length)).heap.size = w1.heap.size := World.size_setCell ..
  refine ⟨(below_on h0 hb1).setCell (Nat.le_refl _) _, _, fun i => if i = k then wr.heap.size else D i, (hbk.below hb1 hlt).set _ _, by simpa using hsz, ?_, ?_⟩
  · intro i ys hi hy
    by_cases e : i = k
    · subst e
      obtain rfl : xs = ys := by rw [hx] at hy; injection hy
      refine ⟨by simp [hsz, hk], by simp [hs2, hnew], ?_⟩
      simp only [if_true]
      exact hdone.keep (by omega) (by omega) fun j hj _ => hset j (by omega)
    · obtain ⟨g0, g1, g2⟩ := hc0 i ys (by omega) hy
      refine ⟨?_, ?_, ?_⟩
      · simp only [if_neg e]; rw [Array.getElem?_setIfInBounds_ne (by omega)]; exact g0
      · simp only [if_neg e]; omega
      · simp only [if_neg e]
        exact g2.keep (by omega) (by omega) fun j hj hj2 => (hset j (by omega)).trans (hb1.block j hj2)
  · intro i j hij hj
    have hDi : D i < wr.heap.size := by
      have : i < L.length := by omega
      exact (hc0 i _ (by omega) (List.getElem?_eq_getElem this)).2.1
    by_cases e : j = k
    · have e' : i ≠ k := by omega
      simp only [if_pos e, if_neg e']
      exact hDi
    · have e' : i ≠ k := by omega
      simp only [if_neg e, if_neg e']
      exact hd i j hij (by omega)
theorem CopySS.done {w wr : World} {L : List (List Sm)} (h : CopySS w wr L L.length) (hm : ∀ xs ∈ L, xs.length ≤ maxLen) : OwnRows2 wr w.heap.size wr.heap.size (some ⟨w.heap.size, 0, none⟩) L := fun _ => by
  obtain ⟨_, cs, D, hbk, _, hc, hd⟩ := h
  refine ⟨_, cs, fun i => some ⟨D i, 0, none⟩, fun i => (L.getD i []).length, rfl, Nat.le_refl _, hbk.lt, hbk, ?_, ?_⟩
  · intro i xs hi
    have hlt := (List.getElem?_eq_some_iff.1 hi).1
    obtain ⟨g0, _, g2⟩ := hc i xs hlt hi
    have e : L.getD i [] = xs := by simp [List.getD, hi]
    simp only [e]
    exact ⟨g0, Nat.le_refl _, hm xs (List.mem_of_getElem? hi), (fun e0 => by cases e0), g2.keep (by omega) (Nat.le_refl _) fun _ _ _ => rfl⟩
  · intro i j xs ys hij hi hj _ _ e
    have := hd i j hij (List.getElem?_eq_some_iff.1 hj).1
    injection e with e
    injection e with e
    omega

end Go.Proofs.Ytaghidaamcnpkaa
