/-
  Lists of numbers and of truths in memory: how they read, and what it means that a call owns them. No walk is made here.
-/
import Derived.Test.YtaghidaamcnpkabFrame
import Derived.Lib.SmallJoins
import Derived.Deep.QuietTactic
import Derived.BigQuiet
import Derived.Deep.AppendLies
namespace Go.Proofs.Ytaghidaamcnpkab
open Go.RowKit Pl

/-- Block g is just these cells, none of them frozen. -/
def Bk (w : World) (g : Nat) (t : TypeId) (cs : Array Value) : Prop := w.heap[g]? = some (.cells cs t (0, 0))
section
variable {w w' : World} {g : Nat} {t : TypeId} {cs : Array Value}
theorem Bk.lt (h : Bk w g t cs) : g < w.heap.size := by
  rcases Nat.lt_or_ge g w.heap.size with h1 | h1
  · exact h1
  · unfold Bk at h; rw [Array.getElem?_eq_none h1] at h; cases h
theorem Bk.cell (h : Bk w g t cs) (i : Nat) : w.cell? ⟨g, i, none⟩ = cs[i]? := cell_of_row w g i cs t (0, 0) h
theorem Bk.some_ (h : Bk w g t cs) {i : Nat} (hi : i < cs.size) : ∃ v, w.cell? ⟨g, i, none⟩ = some v := ⟨_, (h.cell i).trans (Array.getElem?_eq_getElem hi)⟩
theorem Bk.free (h : Bk w g t cs) (i : Nat) : w.frozen? ⟨g, i, none⟩ = false := Joins.unfrozen_of_block h i
theorem Bk.new (w : World) (cs : Array Value) (t : TypeId) : Bk (w.alloc (.cells cs t)) w.heap.size t cs := heap_alloc_new w _
theorem Bk.set (h : Bk w g t cs) (i : Nat) (v : Value) : Bk (w.setCell ⟨g, i, none⟩ v) g t (cs.setIfInBounds i v) := Joins.block_setCell h v
theorem Bk.below {B : Nat} (h : Bk w g t cs) (hb : Below B w w') (hg : g < B) : Bk w' g t cs := (hb.block g hg).trans h
theorem Bk.alloc (h : Bk w g t cs) (o : Obj) : Bk (w.alloc o) g t cs := h.below (Below.refl w.heap.size w |>.alloc (Nat.le_refl _) o) h.lt
theorem Bk.far (h : Bk w g t cs) {p : Addr} (hp : g ≠ p.block) (v : Value) : Bk (w.setCell p v) g t cs := (Below.heap_setCell w p v g hp).trans h
end

/-- A statement stands in an array from o on. -/
def SmCs (cs : Array Value) (o : Nat) (x : Sm) : Prop :=
  cs[o]? = some (.int .i64 x.k) ∧ cs[o + 1]? = some (.int .i64 x.a) ∧ cs[o + 2]? = some (.int .i64 x.b) ∧ cs[o + 3]? = some (.int .i64 x.c) ∧ cs[o + 4]? = some (.bool x.s)
def put5 (cs : Array Value) (o : Nat) (x : Sm) : Array Value :=
  ((((cs.setIfInBounds o (.int .i64 x.k)).setIfInBounds (o + 1) (.int .i64 x.a)).setIfInBounds (o + 2) (.int .i64 x.b)).setIfInBounds (o + 3) (.int .i64 x.c)).setIfInBounds (o + 4) (.bool x.s)
theorem size_put5 (cs : Array Value) (o : Nat) (x : Sm) : (put5 cs o x).size = cs.size := by simp [put5]
theorem put5_at {cs : Array Value} {o : Nat} (x : Sm) (h : o + 5 ≤ cs.size) : SmCs (put5 cs o x) o x := by
  refine ⟨?_, ?_, ?_, ?_, ?_⟩ <;> (simp [put5, Array.getElem?_setIfInBounds]; omega)
theorem put5_other {cs : Array Value} {o o' : Nat} {y : Sm} (x : Sm) (h : SmCs cs o' y) (ha : o' + 5 ≤ o ∨ o + 5 ≤ o') : SmCs (put5 cs o x) o' y := by
  obtain ⟨h0, h1, h2, h3, h4⟩ := h
  have e : ∀ i, (i < o ∨ o + 5 ≤ i) → (put5 cs o x)[i]? = cs[i]? := by
    intro i hi
    unfold put5
    rw [Array.getElem?_setIfInBounds_ne (by omega), Array.getElem?_setIfInBounds_ne (by omega), Array.getElem?_setIfInBounds_ne (by omega), Array.getElem?_setIfInBounds_ne (by omega), Array.getElem?_setIfInBounds_ne (by omega)]
  exact ⟨(e _ (by omega)).trans h0, (e _ (by omega)).trans h1, (e _ (by omega)).trans h2, (e _ (by omega)).trans h3, (e _ (by omega)).trans h4⟩
theorem Bk.put5 {w : World} {g o : Nat} {t : TypeId} {cs : Array Value} (h : Bk w g t cs) (x : Sm) :
    Bk (((((w.setCell ⟨g, o, none⟩ (.int .i64 x.k)).setCell ⟨g, o + 1, none⟩ (.int .i64 x.a)).setCell ⟨g, o + 2, none⟩ (.int .i64 x.b)).setCell ⟨g, o + 3, none⟩ (.int .i64 x.c)).setCell ⟨g, o + 4, none⟩ (.bool x.s)) g t (Go.Proofs.Ytaghidaamcnpkab.put5 cs o x) :=
  ((((h.set _ _).set _ _).set _ _).set _ _).set _ _
theorem SmCs.at_ {w : World} {g o : Nat} {t : TypeId} {cs : Array Value} {x : Sm} (hs : SmCs cs o x) (h : Bk w g t cs) : SmAt w g o x := by
  obtain ⟨h0, h1, h2, h3, h4⟩ := hs
  exact ⟨(h.cell _).trans h0, (h.cell _).trans h1, (h.cell _).trans h2, (h.cell _).trans h3, (h.cell _).trans h4⟩

/-- A thread of the call's own: its block lies from lo on, below hi. -/
def OwnRow (w : World) (lo hi : Nat) (A : Option Addr) (xs : List Sm) : Prop :=
  0 < xs.length → ∃ g cs, A = some ⟨g, 0, none⟩ ∧ lo ≤ g ∧ g < hi ∧ Bk w g 107 cs ∧ ∀ (j : Nat) (x : Sm), xs[j]? = some x → SmCs cs (j * 5) x
/-- The threads of a program of the call's own: each in a block that no other one has. -/
def OwnRows2 (w : World) (lo hi : Nat) (A : Option Addr) (L : List (List Sm)) : Prop :=
  0 < L.length → ∃ (g : Nat) (cs : Array Value) (D : Nat → Option Addr) (C : Nat → Nat), A = some ⟨g, 0, none⟩ ∧ lo ≤ g ∧ g < hi ∧ Bk w g 111 cs ∧
    (∀ (i : Nat) (xs : List Sm), L[i]? = some xs → cs[i]? = some (.slice (D i) xs.length (C i)) ∧ xs.length ≤ C i ∧ C i ≤ maxLen ∧ (D i = none → C i = 0) ∧ OwnRow w lo hi (D i) xs) ∧
    ∀ i j xs ys, i < j → L[i]? = some xs → L[j]? = some ys → 0 < xs.length → 0 < ys.length → D i ≠ D j
theorem OwnRow.row {w : World} {lo hi : Nat} {A : Option Addr} {xs : List Sm} (h : OwnRow w lo hi A xs) : Row w hi A xs := fun hn => by
  obtain ⟨g, cs, hA, _, hg, hb, hx⟩ := h hn
  exact ⟨g, 0, hA, hg, fun j x hj => by rw [Nat.zero_add]; exact (hx j x hj).at_ hb⟩
theorem OwnRows2.rows {w : World} {lo hi : Nat} {A : Option Addr} {L : List (List Sm)} (h : OwnRows2 w lo hi A L) : Rows2 w hi A L := fun hn => by
  obtain ⟨g, cs, D, C, hA, _, hg, hb, hx, _⟩ := h hn
  exact ⟨g, 0, hA, hg, fun i xs hi => ⟨D i, C i, by rw [Nat.zero_add]; exact (hb.cell i).trans (hx i xs hi).1, (hx i xs hi).2.1, (hx i xs hi).2.2.1, (hx i xs hi).2.2.2.1, (hx i xs hi).2.2.2.2.row⟩⟩
theorem OwnRow.keep {w w' : World} {lo hi lo' hi' : Nat} {A : Option Addr} {xs : List Sm} (h : OwnRow w lo hi A xs) (hl : lo' ≤ lo) (hh : hi ≤ hi') (hk : ∀ i, lo ≤ i → i < hi → w'.heap[i]? = w.heap[i]?) : OwnRow w' lo' hi' A xs := fun hn => by
  obtain ⟨g, cs, hA, h0, hg, hb, hx⟩ := h hn
  exact ⟨g, cs, hA, by omega, by omega, (hk g h0 hg).trans hb, hx⟩
theorem OwnRows2.keep {w w' : World} {lo hi lo' hi' : Nat} {A : Option Addr} {L : List (List Sm)} (h : OwnRows2 w lo hi A L) (hl : lo' ≤ lo) (hh : hi ≤ hi') (hk : ∀ i, lo ≤ i → i < hi → w'.heap[i]? = w.heap[i]?) : OwnRows2 w' lo' hi' A L := fun hn => by
  obtain ⟨g, cs, D, C, hA, h0, hg, hb, hx, hd⟩ := h hn
  exact ⟨g, cs, D, C, hA, by omega, by omega, (hk g h0 hg).trans hb, fun i xs hi => ⟨(hx i xs hi).1, (hx i xs hi).2.1, (hx i xs hi).2.2.1, (hx i xs hi).2.2.2.1, (hx i xs hi).2.2.2.2.keep hl hh hk⟩, hd⟩
theorem OwnRow.below {w w' : World} {lo hi : Nat} {A : Option Addr} {xs : List Sm} {B : Nat} (h : OwnRow w lo hi A xs) (hb : Below B w w') (hB : hi ≤ B) : OwnRow w' lo hi A xs :=
  h.keep (Nat.le_refl _) (Nat.le_refl _) fun i _ hi => hb.block i (by omega)
theorem OwnRows2.below {w w' : World} {lo hi : Nat} {A : Option Addr} {L : List (List Sm)} {B : Nat} (h : OwnRows2 w lo hi A L) (hb : Below B w w') (hB : hi ≤ B) : OwnRows2 w' lo hi A L :=
  h.keep (Nat.le_refl _) (Nat.le_refl _) fun i _ hi => hb.block i (by omega)

/-- What a copy of a thread has come to behind k rounds. -/
def CopyS (w wr : World) (xs : List Sm) (k : Nat) : Prop :=
  Below w.heap.size w wr ∧ ∃ cs, Bk wr w.heap.size 107 cs ∧ cs.size = xs.length * 5 ∧ ∀ (j : Nat) (x : Sm), j < k → xs[j]? = some x → SmCs cs (j * 5) x
theorem CopyS.next {w wr w1 : World} {xs : List Sm} {k : Nat} {x : Sm} (h : CopyS w wr xs k) (hb : Below wr.heap.size wr w1) (hx : xs[k]? = some x) :
    CopyS w (((((w1.setCell ⟨w.heap.size, k * 5, none⟩ (.int .i64 x.k)).setCell ⟨w.heap.size, k * 5 + 1, none⟩ (.int .i64 x.a)).setCell ⟨w.heap.size, k * 5 + 2, none⟩ (.int .i64 x.b)).setCell ⟨w.heap.size, k * 5 + 3, none⟩ (.int .i64 x.c)).setCell ⟨w.heap.size, k * 5 + 4, none⟩ (.bool x.s)) xs (k + 1) := by
  obtain ⟨h0, cs, hbk, hsz, hc⟩ := h
  have hk : k < xs.length := (List.getElem?_eq_some_iff.1 hx).1
  refine ⟨((((((below_on h0 hb).setCell (Nat.le_refl _) _).setCell (Nat.le_refl _) _).setCell (Nat.le_refl _) _).setCell (Nat.le_refl _) _).setCell (Nat.le_refl _) _), _, (hbk.below hb hbk.lt).put5 x, by rw [size_put5]; exact hsz, ?_⟩
  intro j y hj hy
  by_cases e : j = k
  · subst e
    obtain rfl : x = y := by rw [hx] at hy; injection hy
    exact put5_at x (by rw [hsz]; omega)
  · exact put5_other x (hc j y (by omega) hy) (Or.inl (by omega))
theorem CopyS.done {w wr : World} {xs : List Sm} (h : CopyS w wr xs xs.length) : OwnRow wr w.heap.size (w.heap.size + 1) (some ⟨w.heap.size, 0, none⟩) xs := fun _ => by
  obtain ⟨_, cs, hbk, _, hc⟩ := h
  exact ⟨_, cs, rfl, Nat.le_refl _, by omega, hbk, fun j x hj => hc j x (List.getElem?_eq_some_iff.1 hj).1 hj⟩

/-- What a copy of a program's threads has come to behind k rounds. -/
def CopySS (w wr : World) (L : List (List Sm)) (k : Nat) : Prop :=
  Below w.heap.size w wr ∧ ∃ (cs : Array Value) (D : Nat → Nat), Bk wr w.heap.size 111 cs ∧ cs.size = L.length ∧
    (∀ (i : Nat) (xs : List Sm), i < k → L[i]? = some xs → cs[i]? = some (.slice (some ⟨D i, 0, none⟩) xs.length xs.length) ∧ D i < wr.heap.size ∧ OwnRow wr (w.heap.size + 1) wr.heap.size (some ⟨D i, 0, none⟩) xs) ∧
    ∀ i j, i < j → j < k → D i < D j
theorem CopySS.next {w wr w1 : World} {L : List (List Sm)} {k : Nat} {xs : List Sm} (h : CopySS w wr L k) (hc : CopyS wr w1 xs xs.length) (hx : L[k]? = some xs) :
    CopySS w (w1.setCell ⟨w.heap.size, k, none⟩ (.slice (some ⟨wr.heap.size, 0, none⟩) xs.length xs.length)) L (k + 1) := by
  obtain ⟨h0, cs, D, hbk, hsz, hc0, hd⟩ := h
  have hk : k < L.length := (List.getElem?_eq_some_iff.1 hx).1
  have hlt := hbk.lt
  have hb1 := hc.1
  have hz := hb1.size
  have hdone := hc.done
  have hnew : wr.heap.size < w1.heap.size := by obtain ⟨_, cs1, hb, _⟩ := hc; exact hb.lt
  have hset : ∀ i, i ≠ w.heap.size → (w1.setCell ⟨w.heap.size, k, none⟩ (.slice (some ⟨wr.heap.size, 0, none⟩) xs.length xs.length)).heap[i]? = w1.heap[i]? := fun i hi => Below.heap_setCell w1 ⟨w.heap.size, k, none⟩ _ i hi
  have hs2 : (w1.setCell ⟨w.heap.size, k, none⟩ (.slice (some ⟨wr.heap.size, 0, none⟩) xs.length xs.length)).heap.size = w1.heap.size := World.size_setCell ..
  refine ⟨(below_on h0 hb1).setCell (Nat.le_refl _) _, _, fun i => if i = k then wr.heap.size else D i, (hbk.below hb1 hlt).set _ _, by simpa using hsz, ?_, ?_⟩
  · intro i ys hi hy
    by_cases e : i = k
    · subst e
      obtain rfl : xs = ys := by rw [hx] at hy; injection hy
      refine ⟨by simp [hsz, hk], by simp [hs2, hnew], ?_⟩
      simp only [if_true]
      exact hdone.keep (by omega) (by omega) fun j hj _ => hset j (by omega)
    · obtain ⟨g0, g1, g2⟩ := hc0 i ys (by omega) hy
      refine ⟨?_, ?_, ?_⟩
      · simp only [if_neg e]; rw [Array.getElem?_setIfInBounds_ne (by omega)]; exact g0
      · simp only [if_neg e]; omega
      · simp only [if_neg e]
        exact g2.keep (by omega) (by omega) fun j hj hj2 => (hset j (by omega)).trans (hb1.block j hj2)
  · intro i j hij hj
    have hDi : D i < wr.heap.size := by
      have : i < L.length := by omega
      exact (hc0 i _ (by omega) (List.getElem?_eq_getElem this)).2.1
    by_cases e : j = k
    · have e' : i ≠ k := by omega
      simp only [if_pos e, if_neg e']
      exact hDi
    · have e' : i ≠ k := by omega
      simp only [if_neg e, if_neg e']
      exact hd i j hij (by omega)
theorem CopySS.done {w wr : World} {L : List (List Sm)} (h : CopySS w wr L L.length) (hm : ∀ xs ∈ L, xs.length ≤ maxLen) : OwnRows2 wr w.heap.size wr.heap.size (some ⟨w.heap.size, 0, none⟩) L := fun _ => by
  obtain ⟨_, cs, D, hbk, _, hc, hd⟩ := h
  refine ⟨_, cs, fun i => some ⟨D i, 0, none⟩, fun i => (L.getD i []).length, rfl, Nat.le_refl _, hbk.lt, hbk, ?_, ?_⟩
  · intro i xs hi
    have hlt := (List.getElem?_eq_some_iff.1 hi).1
    obtain ⟨g0, _, g2⟩ := hc i xs hlt hi
    have e : L.getD i [] = xs := by simp [List.getD, hi]
    simp only [e]
    exact ⟨g0, Nat.le_refl _, hm xs (List.mem_of_getElem? hi), (fun e0 => by cases e0), g2.keep (by omega) (Nat.le_refl _) fun _ _ _ => rfl⟩
  · intro i j xs ys hij hi hj _ _ e
    have := hd i j hij (List.getElem?_eq_some_iff.1 hj).1
    injection e with e
    injection e with e
    omega

end Go.Proofs.Ytaghidaamcnpkab
namespace Go.Proofs.Ytaghidaamcnpkab
open Go.RowKit Pl
set_option linter.unusedVariables false

/-- Only blocks from lo on, below hi, have turned (and what is new). -/
structure Only (lo hi : Nat) (w w' : World) : Prop where
  os : w'.os = w.os
  tape : w'.tape = w.tape
  output : w'.output = w.output
  size : w.heap.size ≤ w'.heap.size
  block : ∀ i, i < w.heap.size → (i < lo ∨ hi ≤ i) → w'.heap[i]? = w.heap[i]?
theorem Only.refl (lo hi : Nat) (w : World) : Only lo hi w w := ⟨rfl, rfl, rfl, Nat.le_refl _, fun _ _ _ => rfl⟩
theorem Only.trans {lo hi : Nat} {a b c : World} (h : Only lo hi a b) (k : Only lo hi b c) : Only lo hi a c :=
  ⟨k.os.trans h.os, k.tape.trans h.tape, k.output.trans h.output, Nat.le_trans h.size k.size, fun i hi ho => (k.block i (Nat.lt_of_lt_of_le hi h.size) ho).trans (h.block i hi ho)⟩
theorem Only.of_below {lo hi : Nat} {a b : World} (h : Below a.heap.size a b) : Only lo hi a b := ⟨h.os, h.tape, h.output, h.size, fun i hi _ => h.block i hi⟩
theorem Only.setCell {lo hi : Nat} {a b : World} (h : Only lo hi a b) {p : Addr} (h1 : lo ≤ p.block) (h2 : p.block < hi) (v : Value) : Only lo hi a (b.setCell p v) :=
  h.trans ⟨rfl, rfl, rfl, by rw [World.size_setCell]; exact Nat.le_refl _, fun i _ ho => Below.heap_setCell b p v i (by omega)⟩
theorem Only.to_below {lo hi B : Nat} {a b : World} (h : Only lo hi a b) (hB : B ≤ lo) (hs : B ≤ a.heap.size) : Below B a b := ⟨h.os, h.tape, h.output, h.size, fun i hi => h.block i (by omega) (Or.inl (by omega))⟩

theorem Only.mono {lo hi lo' hi' : Nat} {a b : World} (h : Only lo hi a b) (h1 : lo' ≤ lo) (h2 : hi ≤ hi') : Only lo' hi' a b := ⟨h.os, h.tape, h.output, h.size, fun i hi0 ho => h.block i hi0 (by omega)⟩
theorem only_bk {lo hi b : Nat} {t : TypeId} {cs : Array Value} {a w : World} (h : Bk a b t cs) (ho : Only lo hi a w) (hb : b < lo ∨ hi ≤ b) : Bk w b t cs := (ho.block b h.lt hb).trans h
theorem box_at {w : World} {b : Nat} {v : Value} {t : TypeId} (h : Bk w b t #[v]) : w.cell? ⟨b, 0, none⟩ = some v := h.cell 0
theorem box_kept {W V : World} {b : Nat} {v : Value} {t : TypeId} (k : Bk W b t #[v]) (h : Below W.heap.size W V) : V.cell? ⟨b, 0, none⟩ = some v := (k.below h k.lt).cell 0

theorem below_drewN {B : Nat} {w w' : World} (h : Below B w w') (q : Nat) : Below B w (w'.drewN q) := ⟨h.os, h.tape, h.output, h.size, h.block⟩
end Go.Proofs.Ytaghidaamcnpkab
namespace Go.Proofs.Ytaghidaamcnpkab
open Go.RowKit Pl

def ints (xs : List Int) : List Value := xs.map (Value.int .i64)
def bools (xs : List Bool) : List Value := xs.map Value.bool
@[simp] theorem ints_length (xs : List Int) : (ints xs).length = xs.length := by simp [ints]
@[simp] theorem bools_length (xs : List Bool) : (bools xs).length = xs.length := by simp [bools]
theorem ints_at {xs : List Int} {k : Nat} {x : Int} (h : xs[k]? = some x) : (ints xs)[k]? = some (.int .i64 x) := by simp [ints, h]
theorem bools_at {xs : List Bool} {k : Nat} {x : Bool} (h : xs[k]? = some x) : (bools xs)[k]? = some (.bool x) := by simp [bools, h]

/-- A slice's address leads to these values, below block B. -/
def Vs (w : World) (B : Nat) (A : Option Addr) (vs : List Value) : Prop :=
  0 < vs.length → ∃ b off, A = some ⟨b, off, none⟩ ∧ b < B ∧ ∀ (j : Nat) (v : Value), vs[j]? = some v → w.cell? ⟨b, off + j, none⟩ = some v
theorem Vs.keep {w w' : World} {B B' : Nat} {A : Option Addr} {vs : List Value} (h : Vs w B A vs) (hB : B ≤ B') (hk : ∀ b o, b < B → w'.cell? ⟨b, o, none⟩ = w.cell? ⟨b, o, none⟩) : Vs w' B' A vs := fun hn => by
  obtain ⟨b, off, hA, hb, hx⟩ := h hn
  exact ⟨b, off, hA, by omega, fun j v hj => (hk b _ hb).trans (hx j v hj)⟩
theorem Vs.below {w w' : World} {B B' : Nat} {A : Option Addr} {vs : List Value} (h : Vs w B A vs) (hb : Below B' w w') (hB : B ≤ B') : Vs w' B A vs :=
  h.keep (Nat.le_refl _) fun b o hlt => hb.cell (p := ⟨b, o, none⟩) (by show b < B'; omega)
theorem Vs.up {w w' : World} {B B' B'' : Nat} {A : Option Addr} {vs : List Value} (h : Vs w B A vs) (hb : Below B' w w') (hB : B ≤ B') (hB2 : B ≤ B'') : Vs w' B'' A vs :=
  h.keep hB2 fun b o hlt => hb.cell (p := ⟨b, o, none⟩) (by show b < B'; omega)
theorem Vs.nil (w : World) (B : Nat) (A : Option Addr) : Vs w B A [] := fun h => absurd h (by simp)
theorem Vs.int_ {w : World} {B : Nat} {A : Option Addr} {xs : List Int} (h : Vs w B A (ints xs)) {k : Nat} (hk : k < xs.length) :
    ∃ b off x, A = some ⟨b, off, none⟩ ∧ b < B ∧ xs[k]? = some x ∧ xs.drop k = x :: xs.drop (k + 1) ∧ w.cell? ⟨b, off + k, none⟩ = some (.int .i64 x) := by
  obtain ⟨b, off, hA, hb, hx⟩ := h (by rw [ints_length]; omega)
  obtain ⟨x, h1, h2⟩ := drop_at hk
  exact ⟨b, off, x, hA, hb, h1, h2, hx k _ (ints_at h1)⟩
theorem Vs.bool_ {w : World} {B : Nat} {A : Option Addr} {xs : List Bool} (h : Vs w B A (bools xs)) {k : Nat} (hk : k < xs.length) :
    ∃ b off x, A = some ⟨b, off, none⟩ ∧ b < B ∧ xs[k]? = some x ∧ xs.drop k = x :: xs.drop (k + 1) ∧ w.cell? ⟨b, off + k, none⟩ = some (.bool x) := by
  obtain ⟨b, off, hA, hb, hx⟩ := h (by rw [bools_length]; omega)
  obtain ⟨x, h1, h2⟩ := drop_at hk
  exact ⟨b, off, x, hA, hb, h1, h2, hx k _ (bools_at h1)⟩

/-- Values of the call's own: their block lies from lo on, below hi. -/
def OwnVs (w : World) (lo hi : Nat) (t : TypeId) (A : Option Addr) (vs : List Value) : Prop :=
  0 < vs.length → ∃ g cs, A = some ⟨g, 0, none⟩ ∧ lo ≤ g ∧ g < hi ∧ Bk w g t cs ∧ ∀ (j : Nat) (v : Value), vs[j]? = some v → cs[j]? = some v
theorem OwnVs.vs {w : World} {lo hi : Nat} {t : TypeId} {A : Option Addr} {vs : List Value} (h : OwnVs w lo hi t A vs) : Vs w hi A vs := fun hn => by
  obtain ⟨g, cs, hA, _, hg, hb, hx⟩ := h hn
  exact ⟨g, 0, hA, hg, fun j v hj => by rw [Nat.zero_add]; exact (hb.cell j).trans (hx j v hj)⟩
theorem OwnVs.keep {w w' : World} {lo hi lo' hi' : Nat} {t : TypeId} {A : Option Addr} {vs : List Value} (h : OwnVs w lo hi t A vs) (hl : lo' ≤ lo) (hh : hi ≤ hi') (hk : ∀ i, lo ≤ i → i < hi → w'.heap[i]? = w.heap[i]?) : OwnVs w' lo' hi' t A vs := fun hn => by
  obtain ⟨g, cs, hA, h0, hg, hb, hx⟩ := h hn
  exact ⟨g, cs, hA, by omega, by omega, (hk g h0 hg).trans hb, hx⟩
theorem OwnVs.below {w w' : World} {lo hi : Nat} {t : TypeId} {A : Option Addr} {vs : List Value} {B : Nat} (h : OwnVs w lo hi t A vs) (hb : Below B w w') (hB : hi ≤ B) : OwnVs w' lo hi t A vs :=
  h.keep (Nat.le_refl _) (Nat.le_refl _) fun i _ hi => hb.block i (by omega)
theorem OwnVs.nil (w : World) (lo hi : Nat) (t : TypeId) (A : Option Addr) : OwnVs w lo hi t A [] := fun h => absurd h (by simp)
theorem OwnVs.more {w : World} {lo hi lo' hi' : Nat} {t : TypeId} {A : Option Addr} {vs : List Value} (h : OwnVs w lo hi t A vs) (hl : lo' ≤ lo) (hh : hi ≤ hi') : OwnVs w lo' hi' t A vs := h.keep hl hh fun _ _ _ => rfl
/-- What a row that appends have made owns. -/
theorem own_vs {w : World} {base : Nat} {t : TypeId} {v : Value} {n : Nat} {vs : List Value} (h : w.ownsRow base t 1 v n vs) {A : Option Addr} {c : Nat} (hv : v = .slice A n c) : OwnVs w base w.heap.size t A vs := fun hn => by
  rcases h.2 with ⟨_, h0⟩ | ⟨g, cap, cur, hv', hb, hh, _, _, _, htake⟩
  · have := h.1; omega
  · rw [hv] at hv'
    injection hv' with hA
    subst hA
    have hg : g < w.heap.size := Bk.lt (t := t) (cs := cur) hh
    refine ⟨g, cur, rfl, hb, hg, hh, fun j u hj => ?_⟩
    rw [← htake, List.getElem?_take] at hj
    split at hj
    · simpa using hj
    · cases hj

/-- What a copy of values has come to behind k rounds. -/
def CopyV (w wr : World) (t : TypeId) (vs : List Value) (k : Nat) : Prop :=
  Below w.heap.size w wr ∧ ∃ cs, Bk wr w.heap.size t cs ∧ cs.size = vs.length ∧ ∀ (j : Nat) (v : Value), j < k → vs[j]? = some v → cs[j]? = some v
theorem CopyV.next {w wr : World} {t : TypeId} {vs : List Value} {k : Nat} {v : Value} (h : CopyV w wr t vs k) (hx : vs[k]? = some v) :
    CopyV w (wr.setCell ⟨w.heap.size, k, none⟩ v) t vs (k + 1) := by
  obtain ⟨h0, cs, hbk, hsz, hc⟩ := h
  have hk : k < vs.length := (List.getElem?_eq_some_iff.1 hx).1
  refine ⟨h0.setCell (Nat.le_refl _) _, _, hbk.set k v, by simpa using hsz, fun j u hj hu => ?_⟩
  by_cases e : j = k
  · subst e
    rw [hx] at hu
    simp [hsz, hk]
    injection hu
  · rw [Array.getElem?_setIfInBounds_ne (by omega)]
    exact hc j u (by omega) hu
theorem CopyV.done {w wr : World} {t : TypeId} {vs : List Value} (h : CopyV w wr t vs vs.length) : OwnVs wr w.heap.size (w.heap.size + 1) t (some ⟨w.heap.size, 0, none⟩) vs := fun _ => by
  obtain ⟨_, cs, hbk, _, hc⟩ := h
  exact ⟨_, cs, rfl, Nat.le_refl _, by omega, hbk, fun j v hj => hc j v (List.getElem?_eq_some_iff.1 hj).1 hj⟩
theorem CopyV.lt {w wr : World} {t : TypeId} {vs : List Value} {k : Nat} (h : CopyV w wr t vs k) : w.heap.size < wr.heap.size := by
  obtain ⟨_, cs, hbk, _⟩ := h
  exact hbk.lt

/-- The numbers that the laws' marks write into a row of numbers, and of truths. -/
def upI (K : Int) (n : Nat) : List Int := (List.range n).map fun j : Nat => K + (j : Int)
def upB (K : Int) (n : Nat) : List Bool := (List.range n).map fun j : Nat => (K + (j : Int)) % 3 == 0
@[simp] theorem upI_length (K : Int) (n : Nat) : (upI K n).length = n := by simp [upI]
@[simp] theorem upB_length (K : Int) (n : Nat) : (upB K n).length = n := by simp [upB]
theorem upI_at (K : Int) {n k : Nat} (h : k < n) : (upI K n)[k]? = some (K + (k : Int)) := by simp [upI, h]
theorem upB_at (K : Int) {n k : Nat} (h : k < n) : (upB K n)[k]? = some ((K + (k : Int)) % 3 == 0) := by simp [upB, h]
/-- What marks have come to in one block behind k values. -/
def MarkV (w wr : World) (g : Nat) (t : TypeId) (vs : List Value) (k : Nat) : Prop :=
  Only g (g + 1) w wr ∧ ∃ cs, Bk wr g t cs ∧ vs.length ≤ cs.size ∧ ∀ (j : Nat) (v : Value), j < k → vs[j]? = some v → cs[j]? = some v
theorem MarkV.next {w wr : World} {g : Nat} {t : TypeId} {vs : List Value} {k : Nat} {v : Value} (h : MarkV w wr g t vs k) (hx : vs[k]? = some v) :
    MarkV w (wr.setCell ⟨g, k, none⟩ v) g t vs (k + 1) := by
  obtain ⟨h0, cs, hbk, hsz, hc⟩ := h
  have hk : k < vs.length := (List.getElem?_eq_some_iff.1 hx).1
  refine ⟨h0.setCell (Nat.le_refl _) (Nat.lt_succ_self _) _, _, hbk.set k v, by simpa using hsz, fun j u hj hu => ?_⟩
  by_cases e : j = k
  · subst e
    rw [hx] at hu
    have : j < cs.size := by omega
    simp [this]
    injection hu
  · rw [Array.getElem?_setIfInBounds_ne (by omega)]
    exact hc j u (by omega) hu
theorem MarkV.done {w wr : World} {g : Nat} {t : TypeId} {vs : List Value} (h : MarkV w wr g t vs vs.length) : OwnVs wr g (g + 1) t (some ⟨g, 0, none⟩) vs := fun _ => by
  obtain ⟨_, cs, hbk, _, hc⟩ := h
  exact ⟨g, cs, rfl, Nat.le_refl _, by omega, hbk, fun j v hj => hc j v (List.getElem?_eq_some_iff.1 hj).1 hj⟩

theorem cell1_new (w : World) (v : Value) (t : TypeId) : ∀ j u, [v][j]? = some u → (w.alloc (.cells #[v] t)).cell? ((⟨w.heap.size, 0, none⟩ : Addr).add j) = some u := by
  intro j u hj
  have e : (⟨w.heap.size, 0, none⟩ : Addr).add j = ⟨w.heap.size, j, none⟩ := by unfold Addr.add; split <;> simp_all
  have := (Bk.new w #[v] t).cell j
  rw [e, this, ← hj]
  simp
end Go.Proofs.Ytaghidaamcnpkab
