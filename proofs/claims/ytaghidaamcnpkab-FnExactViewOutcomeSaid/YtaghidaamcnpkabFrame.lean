/-
  A class of worlds for regions whose operations read known blocks and call functions that only make memory: all worlds in which what was there is as it was, and some blocks of the call's own hold known cells.
-/
import Derived.Test.YtaghidaamcnpkabOpen
import Derived.Laws.OwnMore
import Derived.Laws.Rows
import Derived.Deep.Draws
import Derived.Deep.QuietTactic
import Derived.BigQuiet
namespace Go.Proofs.Ytaghidaamcnpkab
open Go.RowKit Pl

/-- A statement. -/
structure Sm where
  k : Int
  a : Int
  b : Int
  c : Int
  s : Bool
deriving DecidableEq, Inhabited
abbrev Sm.val (x : Sm) : Value := St x.k x.a x.b x.c x.s
def Sm.cells (x : Sm) : List Value := [.int .i64 x.k, .int .i64 x.a, .int .i64 x.b, .int .i64 x.c, .bool x.s]
def Sm.okb (x : Sm) : Bool := okB x.k x.a x.b x.c x.s

/-- A statement lies at the five cells from o on. -/
def SmAt (w : World) (b o : Nat) (x : Sm) : Prop :=
  w.cell? ⟨b, o, none⟩ = some (.int .i64 x.k) ∧ w.cell? ⟨b, o + 1, none⟩ = some (.int .i64 x.a) ∧ w.cell? ⟨b, o + 2, none⟩ = some (.int .i64 x.b) ∧ w.cell? ⟨b, o + 3, none⟩ = some (.int .i64 x.c) ∧ w.cell? ⟨b, o + 4, none⟩ = some (.bool x.s)
/-- A slice's address leads to the statements of a thread, below block B. -/
def Row (w : World) (B : Nat) (A : Option Addr) (xs : List Sm) : Prop :=
  0 < xs.length → ∃ b off, A = some ⟨b, off, none⟩ ∧ b < B ∧ ∀ (j : Nat) (x : Sm), xs[j]? = some x → SmAt w b (off + j * 5) x
/-- A slice's address leads to the threads of a program, below block B. -/
def Rows2 (w : World) (B : Nat) (A : Option Addr) (L : List (List Sm)) : Prop :=
  0 < L.length → ∃ b off, A = some ⟨b, off, none⟩ ∧ b < B ∧ ∀ (i : Nat) (xs : List Sm), L[i]? = some xs → ∃ Ai ci, w.cell? ⟨b, off + i, none⟩ = some (.slice Ai xs.length ci) ∧ xs.length ≤ ci ∧ ci ≤ maxLen ∧ (Ai = none → ci = 0) ∧ Row w B Ai xs

theorem SmAt.keep {w w' : World} {b o : Nat} {x : Sm} (h : SmAt w b o x) (hk : ∀ o, w'.cell? ⟨b, o, none⟩ = w.cell? ⟨b, o, none⟩) : SmAt w' b o x := by
  obtain ⟨h0, h1, h2, h3, h4⟩ := h
  exact ⟨(hk _).trans h0, (hk _).trans h1, (hk _).trans h2, (hk _).trans h3, (hk _).trans h4⟩
theorem Row.keep {w w' : World} {B B' : Nat} {A : Option Addr} {xs : List Sm} (h : Row w B A xs) (hB : B ≤ B') (hk : ∀ b o, b < B → w'.cell? ⟨b, o, none⟩ = w.cell? ⟨b, o, none⟩) : Row w' B' A xs := fun hn => by
  obtain ⟨b, off, hA, hb, hx⟩ := h hn
  exact ⟨b, off, hA, by omega, fun j x hj => (hx j x hj).keep fun o => hk b o hb⟩
theorem Rows2.keep {w w' : World} {B B' : Nat} {A : Option Addr} {L : List (List Sm)} (h : Rows2 w B A L) (hB : B ≤ B') (hk : ∀ b o, b < B → w'.cell? ⟨b, o, none⟩ = w.cell? ⟨b, o, none⟩) : Rows2 w' B' A L := fun hn => by
  obtain ⟨b, off, hA, hb, hx⟩ := h hn
  refine ⟨b, off, hA, by omega, fun i xs hi => ?_⟩
  obtain ⟨Ai, ci, hc, hl, hm, h0, hr⟩ := hx i xs hi
  exact ⟨Ai, ci, (hk b _ hb).trans hc, hl, hm, h0, hr.keep hB hk⟩
theorem Row.below {w w' : World} {B B' : Nat} {A : Option Addr} {xs : List Sm} (h : Row w B A xs) (hb : Below B' w w') (hB : B ≤ B') : Row w' B A xs :=
  h.keep (Nat.le_refl _) fun b o hlt => hb.cell (p := ⟨b, o, none⟩) (by show b < B'; omega)
theorem Rows2.below {w w' : World} {B B' : Nat} {A : Option Addr} {L : List (List Sm)} (h : Rows2 w B A L) (hb : Below B' w w') (hB : B ≤ B') : Rows2 w' B A L :=
  h.keep (Nat.le_refl _) fun b o hlt => hb.cell (p := ⟨b, o, none⟩) (by show b < B'; omega)
theorem Rows2.up {w w' : World} {B B' B'' : Nat} {A : Option Addr} {L : List (List Sm)} (h : Rows2 w B A L) (hb : Below B' w w') (hB : B ≤ B') (hB2 : B ≤ B'') : Rows2 w' B'' A L :=
  h.keep hB2 fun b o hlt => hb.cell (p := ⟨b, o, none⟩) (by show b < B'; omega)
theorem drop_at {α : Type} {L : List α} {i : Nat} (hi : i < L.length) : ∃ x, L[i]? = some x ∧ L.drop i = x :: L.drop (i + 1) :=
  ⟨L[i], List.getElem?_eq_getElem hi, List.drop_eq_getElem_cons hi⟩
theorem Row.at_ {w : World} {B : Nat} {A : Option Addr} {xs : List Sm} (h : Row w B A xs) {j : Nat} (hj : j < xs.length) : ∃ b off x, A = some ⟨b, off, none⟩ ∧ b < B ∧ xs[j]? = some x ∧ xs.drop j = x :: xs.drop (j + 1) ∧ SmAt w b (off + j * 5) x := by
  obtain ⟨b, off, hA, hb, hx⟩ := h (by omega)
  obtain ⟨x, h1, h2⟩ := drop_at hj
  exact ⟨b, off, x, hA, hb, h1, h2, hx j x h1⟩
theorem Rows2.at_ {w : World} {B : Nat} {A : Option Addr} {L : List (List Sm)} (h : Rows2 w B A L) {i : Nat} (hi : i < L.length) :
    ∃ b off xs Ai ci, A = some ⟨b, off, none⟩ ∧ b < B ∧ L[i]? = some xs ∧ L.drop i = xs :: L.drop (i + 1) ∧ w.cell? ⟨b, off + i, none⟩ = some (.slice Ai xs.length ci) ∧ xs.length ≤ ci ∧ ci ≤ maxLen ∧ Row w B Ai xs := by
  obtain ⟨b, off, hA, hb, hx⟩ := h (by omega)
  obtain ⟨xs, h1, h2⟩ := drop_at hi
  obtain ⟨Ai, ci, hc, hl, hm, _, hr⟩ := hx i xs h1
  exact ⟨b, off, xs, Ai, ci, hA, hb, h1, h2, hc, hl, hm, hr⟩
/-- .. and of a thread without an address: it has no room. -/
theorem Rows2.cap_ {w : World} {B : Nat} {A : Option Addr} {L : List (List Sm)} (h : Rows2 w B A L) {i : Nat} (hi : i < L.length) :
    ∃ b off xs Ai ci, A = some ⟨b, off, none⟩ ∧ b < B ∧ L[i]? = some xs ∧ w.cell? ⟨b, off + i, none⟩ = some (.slice Ai xs.length ci) ∧ xs.length ≤ ci ∧ ci ≤ maxLen ∧ (Ai = none → ci = 0) ∧ Row w B Ai xs := by
  obtain ⟨b, off, hA, hb, hx⟩ := h (by omega)
  obtain ⟨xs, h1, _⟩ := drop_at hi
  obtain ⟨Ai, ci, hc, hl, hm, h0, hr⟩ := hx i xs h1
  exact ⟨b, off, xs, Ai, ci, hA, hb, h1, hc, hl, hm, h0, hr⟩

/-! ### what the laws' size function comes to -/
def sz1 (left n : Int) : Int := if left - n < 0 then -1 else left - n
def szL : Int → List (List Sm) → Int
  | left, [] => left
  | left, x :: r => if sz1 left x.length < 0 then -1 else szL (sz1 left x.length) r
def sz2 (left : Int) (L : List (List Sm)) : Int := if left - L.length < 0 then -1 else szL (left - L.length) L
def total (L : List (List Sm)) : Nat := (L.map List.length).sum
theorem szL_stop {left : Int} {L : List (List Sm)} {x : List Sm} {r : List (List Sm)} (h : L = x :: r) (hs : sz1 left x.length < 0) : szL left L = -1 := by rw [h, szL, if_pos hs]
theorem szL_on {left : Int} {L : List (List Sm)} {x : List Sm} {r : List (List Sm)} (h : L = x :: r) (hs : ¬ sz1 left x.length < 0) : szL left L = szL (sz1 left x.length) r := by rw [h, szL, if_neg hs]
theorem szL_total (L : List (List Sm)) : ∀ left : Int, 0 ≤ szL left L → 0 ≤ left → (total L : Int) ≤ left := by
  induction L with
  | nil => intro left _ h; simpa [total] using h
  | cons x r ih =>
    intro left h hl
    unfold szL at h
    by_cases h1 : sz1 left x.length < 0
    · rw [if_pos h1] at h; omega
    · rw [if_neg h1] at h
      have := ih _ h (by omega)
      unfold sz1 at this h1
      split at this
      · simp at h1; omega
      · simp only [total, List.map_cons, List.sum_cons] at this ⊢; omega
theorem szL_ge (L : List (List Sm)) : ∀ left : Int, 0 ≤ left → -1 ≤ szL left L := by
  induction L with
  | nil => intro left h; simp [szL]; omega
  | cons x r ih =>
    intro left h
    unfold szL
    split
    · omega
    · exact ih _ (by omega)
theorem sz2_ge (left : Int) (L : List (List Sm)) : -1 ≤ sz2 left L := by
  unfold sz2
  split
  · omega
  · exact szL_ge _ _ (by omega)
theorem sz2_total {L : List (List Sm)} {left : Int} (h : 0 ≤ sz2 left L) : (total L : Int) + L.length ≤ left := by
  unfold sz2 at h
  split at h
  · omega
  · have := szL_total L _ h (by omega); omega
theorem mem_le_total {L : List (List Sm)} {xs : List Sm} (h : xs ∈ L) : xs.length ≤ total L := by
  have key : ∀ (l : List Nat) (x : Nat), x ∈ l → x ≤ l.sum := by
    intro l x hx
    induction l with
    | nil => simp at hx
    | cons y r ih =>
      rw [List.sum_cons]
      rcases List.mem_cons.1 hx with rfl | hr
      · omega
      · have := ih hr; omega
  exact key _ _ (List.mem_map.2 ⟨xs, h, rfl⟩)
theorem small_of_sz {L : List (List Sm)} (h : 0 ≤ sz2 1048576 L) : L.length ≤ 1048576 ∧ ∀ xs ∈ L, xs.length ≤ 1048576 := by
  have h1 := sz2_total h
  exact ⟨by omega, fun xs hx => by have := mem_le_total hx; omega⟩
theorem len_le_total {L : List (List Sm)} {i : Nat} (h : i < L.length) : L[i].length ≤ total L := by
  have key : ∀ (l : List Nat) (x : Nat), x ∈ l → x ≤ l.sum := by
    intro l x hx
    induction l with
    | nil => simp at hx
    | cons y r ih =>
      rw [List.sum_cons]
      rcases List.mem_cons.1 hx with rfl | hr
      · omega
      · have := ih hr; omega
  exact key _ _ (List.mem_map.2 ⟨L[i], List.getElem_mem h, rfl⟩)

/-! ### the numbers that the laws' marks write -/
def num5 (k : Int) : Sm := ⟨k, k + 1, k + 2, k + 3, (k + 4) % 3 == 0⟩
def nums (k : Int) (n : Nat) : List Sm := (List.range n).map fun j : Nat => num5 (k + 5 * (j : Int))
theorem nums_length (k : Int) (n : Nat) : (nums k n).length = n := by simp [nums]
theorem nums_at (k : Int) (n j : Nat) (h : j < (nums k n).length) : (nums k n)[j] = num5 (k + 5 * (j : Int)) := by simp [nums]
/-- the marks over a whole program -/
def numsL : Int → List Nat → List (List Sm)
  | _, [] => []
  | k, n :: r => nums k n :: numsL (k + 5 * (n : Int)) r

/-! ### what is a thread, what is a program -/
def thrB (xs : List Sm) : Bool := decide (xs.length ≤ 6) && xs.all Sm.okb
def progB (L : List (List Sm)) : Bool := (decide (1 ≤ L.length) && decide (L.length ≤ 3)) && (L.all thrB && decide (total L ≤ 9))
theorem total_cons (x : List Sm) (r : List (List Sm)) : total (x :: r) = x.length + total r := by simp [total]

end Go.Proofs.Ytaghidaamcnpkab
namespace Go.Proofs.Ytaghidaamcnpkab
open Go.RowKit Pl

/-- Below w0's heap nothing has turned, and each listed block lies in memory with its cells. -/
structure Fr (w0 : World) (bs : List (Nat × Array Value)) (w' : World) : Prop where
  below : Below w0.heap.size w0 w'
  blocks : ∀ b cs, (b, cs) ∈ bs → b < w'.heap.size ∧ ∀ i, w'.cell? ⟨b, i, none⟩ = cs[i]?
theorem Fr.step {w0 V w1 : World} {bs : List (Nat × Array Value)} (h : Fr w0 bs V) (hb : Below V.heap.size V w1) : Fr w0 bs w1 :=
  ⟨h.below.trans (hb.mono h.below.size), fun b cs hm => by
    obtain ⟨hl, hc⟩ := h.blocks b cs hm
    exact ⟨Nat.lt_of_lt_of_le hl hb.size, fun i => (hb.cell (p := ⟨b, i, none⟩) hl).trans (hc i)⟩⟩
theorem Fr.drew {w0 V : World} {bs : List (Nat × Array Value)} (h : Fr w0 bs V) : Fr w0 bs V.drew :=
  h.step (V := V) ((Below.refl _ _).drew)
theorem below_on {W V w1 : World} (h : Below W.heap.size W V) (hb : Below V.heap.size V w1) : Below W.heap.size W w1 := h.trans (hb.mono h.size)
/-- A world of the class S. -/
structure Ws (S : World → Prop) where
  val : World
  ok : S val
/-- The class. -/
abbrev In (S : World → Prop) : World → Prop := fun w' => ∃ x : Ws S, w' = x.val
theorem In.mk {S : World → Prop} {w : World} (h : S w) : In S w := ⟨⟨w, h⟩, rfl⟩
/-- A region that draws its order, over the class. -/
theorem region_in {S : World → Prop} {id : Nat} {l : List Oper} {Q : Exit → Act → World → Prop} {a : Act} {w : World} (hB : Region.lexB .any l.toArray = true) (hC : S w.drew)
    (h : wpQuiet Try.prog l.toArray (In S) (fun a' => ∀ w', In S w' → Q .normal a' w') l a) : (Code.region id l.toArray true).wp Try.prog Q a w :=
  wp_region_quiet (by kernel_rfl) hB (In.mk hC) h
/-- A callee that makes memory and no more, met in the class. -/
theorem call_in {w0 : World} {bs : List (Nat × Array Value)} {f : FuncId} {args : Array Value} {v : Value} {x : Ws (Fr w0 bs)}
    (h : Calls Try.prog f args x.val fun e w' => e = .returned v ∧ Below x.val.heap.size x.val w') : Calls Try.prog f args x.val fun e w'' => e = .returned v ∧ ∃ y : Ws (Fr w0 bs), w'' = y.val :=
  h.mono fun _ w' ⟨he, hb⟩ => ⟨he, ⟨w', x.ok.step hb⟩, rfl⟩

/-- A contract's bool, written out. -/
theorem ret_bool {f : FuncId} {args : Array Value} {v b : Bool} {w : World} {R : World → Prop} (h : v = b) (c : Calls Try.prog f args w fun e w' => e = .returned (.bool v) ∧ R w') :
    Calls Try.prog f args w fun e w' => e = .returned (.bool b) ∧ R w' := by rw [← h]; exact c
theorem Ws.cells {w0 : World} {bs : List (Nat × Array Value)} (b : Nat) (cs : Array Value) (hm : (b, cs) ∈ bs) : ∀ (x : Ws (Fr w0 bs)) (i : Nat), x.val.cell? ⟨b, i, none⟩ = cs[i]? := fun x i => (x.ok.blocks _ _ hm).2 i

/-- In each world of the class what was there is as it was. -/
theorem Ws.same {w0 : World} {bs : List (Nat × Array Value)} {b o : Nat} {v : Value} (hb : b < w0.heap.size) (h : w0.cell? ⟨b, o, none⟩ = some v) : ∀ x : Ws (Fr w0 bs), x.val.cell? ⟨b, o, none⟩ = some v :=
  fun x => (x.ok.below.cell (p := ⟨b, o, none⟩) hb).trans h
theorem fr_none (w : World) : Fr w [] w := ⟨Below.refl _ _, fun _ _ hm => absurd hm (by simp)⟩

end Go.Proofs.Ytaghidaamcnpkab
