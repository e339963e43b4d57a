/-
  Lists of numbers and of truths in memory: how they read, and what it means that a call owns them. No walk is made here.
-/
import Derived.Test.YtaghidaamcnpkaaOnly
import Derived.Deep.AppendLies
namespace Go.Proofs.Ytaghidaamcnpkaa
open Go.RowKit Pl

def ints (xs : List Int) : List Value := xs.map (Value.int .i64)
def bools (xs : List Bool) : List Value := xs.map Value.bool
@[simp] theorem ints_length (xs : List Int) : (ints xs).length = xs.length := by simp [ints]
@[simp] theorem bools_length (xs : List Bool) : (bools xs).length = xs.length := by simp [bools]
theorem ints_at {xs : List Int} {k : Nat} {x : Int} (h : xs[k]? = some x) : (ints xs)[k]? = some (.int .i64 x) := by simp [ints, h]
theorem bools_at {xs : List Bool} {k : Nat} {x : Bool} (h : xs[k]? = some x) : (bools xs)[k]? = some (.bool x) := by simp [bools, h]

/-- A slice's address leads to these values, below block B. -/
def Vs (w : World) (B : Nat) (A : Option Addr) (vs : List Value) : Prop :=
  0 < vs.length → ∃ b off, A = some ⟨b, off, none⟩ ∧ b < B ∧ ∀ (j : Nat) (v : Value), vs[j]? = some v → w.cell? ⟨b, off + j, none⟩ = some v
theorem Vs.keep {w w' : World} {B B' : Nat} {A : Option Addr} {vs : List Value} (h : Vs w B A vs) (hB : B ≤ B') (hk : ∀ b o, b < B → w'.cell? ⟨b, o, none⟩ = w.cell? ⟨b, o, none⟩) : Vs w' B' A vs := fun hn => by
  obtain ⟨b, off, hA, hb, hx⟩ := h hn
  exact ⟨b, off, hA, by omega, fun j v hj => (hk b _ hb).trans (hx j v hj)⟩
theorem Vs.below {w w' : World} {B B' : Nat} {A : Option Addr} {vs : List Value} (h : Vs w B A vs) (hb : Below B' w w') (hB : B ≤ B') : Vs w' B A vs :=
  h.keep (Nat.le_refl _) fun b o hlt => hb.cell (p := ⟨b, o, none⟩) (by show b < B'; omega)
theorem Vs.up {w w' : World} {B B' B'' : Nat} {A : Option Addr} {vs : List Value} (h : Vs w B A vs) (hb : Below B' w w') (hB : B ≤ B') (hB2 : B ≤ B'') : Vs w' B'' A vs :=
  h.keep hB2 fun b o hlt => hb.cell (p := ⟨b, o, none⟩) (by show b < B'; omega)
theorem Vs.nil (w : World) (B : Nat) (A : Option Addr) : Vs w B A [] := fun h => absurd h (by simp)
theorem Vs.int_ {w : World} {B : Nat} {A : Option Addr} {xs : List Int} (h : Vs w B A (ints xs)) {k : Nat} (hk : k < xs.length) :
    ∃ b off x, A = some ⟨b, off, none⟩ ∧ b < B ∧ xs[k]? = some x ∧ xs.drop k = x :: xs.drop (k + 1) ∧ w.cell? ⟨b, off + k, none⟩ = some (.int .i64 x) := by
  obtain ⟨b, off, hA, hb, hx⟩ := h (by rw [ints_length]; omega)
  obtain ⟨x, h1, h2⟩ := drop_at hk
  exact ⟨b, off, x, hA, hb, h1, h2, hx k _ (ints_at h1)⟩
theorem Vs.bool_ {w : World} {B : Nat} {A : Option Addr} {xs : List Bool} (h : Vs w B A (bools xs)) {k : Nat} (hk : k < xs.length) :
    ∃ b off x, A = some ⟨b, off, none⟩ ∧ b < B ∧ xs[k]? = some x ∧ xs.drop k = x :: xs.drop (k + 1) ∧ w.cell? ⟨b, off + k, none⟩ = some (.bool x) := by
  obtain ⟨b, off, hA, hb, hx⟩ := h (by rw [bools_length]; omega)
  obtain ⟨x, h1, h2⟩ := drop_at hk
  exact ⟨b, off, x, hA, hb, h1, h2, hx k _ (bools_at h1)⟩

/-- Values of the call's own: their block lies from lo on, below hi. -/
def OwnVs (w : World) (lo hi : Nat) (t : TypeId) (A : Option Addr) (vs : List Value) : Prop :=
  0 < vs.length → ∃ g cs, A = some ⟨g, 0, none⟩ ∧ lo ≤ g ∧ g < hi ∧ Bk w g t cs ∧ ∀ (j : Nat) (v : Value), vs[j]? = some v → cs[j]? = some v
theorem OwnVs.vs {w : World} {lo hi : Nat} {t : TypeId} {A : Option Addr} {vs : List Value} (h : OwnVs w lo hi t A vs) : Vs w hi A vs := fun hn => by
  obtain ⟨g, cs, hA, _, hg, hb, hx⟩ := h hn
  exact ⟨g, 0, hA, hg, fun j v hj => by rw [Nat.zero_add]; exact (hb.cell j).trans (hx j v hj)⟩
theorem OwnVs.keep {w w' : World} {lo hi lo' hi' : Nat} {t : TypeId} {A : Option Addr} {vs : List Value} (h : OwnVs w lo hi t A vs) (hl : lo' ≤ lo) (hh : hi ≤ hi') (hk : ∀ i, lo ≤ i → i < hi → w'.heap[i]? = w.heap[i]?) : OwnVs w' lo' hi' t A vs := fun hn => by
  obtain ⟨g, cs, hA, h0, hg, hb, hx⟩ := h hn
  exact ⟨g, cs, hA, by omega, by omega, (hk g h0 hg).trans hb, hx⟩
theorem OwnVs.below {w w' : World} {lo hi : Nat} {t : TypeId} {A : Option Addr} {vs : List Value} {B : Nat} (h : OwnVs w lo hi t A vs) (hb : Below B w w') (hB : hi ≤ B) : OwnVs w' lo hi t A vs :=
  h.keep (Nat.le_refl _) (Nat.le_refl _) fun i _ hi => hb.block i (by omega)
theorem OwnVs.nil (w : World) (lo hi : Nat) (t : TypeId) (A : Option Addr) : OwnVs w lo hi t A [] := fun h => absurd h (by simp)
theorem OwnVs.more {w : World} {lo hi lo' hi' : Nat} {t : TypeId} {A : Option Addr} {vs : List Value} (h : OwnVs w lo hi t A vs) (hl : lo' ≤ lo) (hh : hi ≤ hi') : OwnVs w lo' hi' t A vs := h.keep hl hh fun _ _ _ => rfl
/-- What a row that appends have made owns. -/
theorem own_vs {w : World} {base : Nat} {t : TypeId} {v : Value} {n : Nat} {vs : List Value} (h : w.ownsRow base t 1 v n vs) {A : Option Addr} {c : Nat} (hv : v = .slice A n c) : OwnVs w base w.heap.size t A vs := fun hn => by
  rcases h.2 with ⟨_, h0⟩ | ⟨g, cap, cur, hv', hb, hh, _, _, _, htake⟩
  · have := h.1; omega
  · rw [hv] at hv'
    injection hv' with hA
    subst hA
    have hg : g < w.heap.size := Bk.lt (t := t) (cs := cur) hh
    refine ⟨g, cur, rfl, hb, hg, hh, fun j u hj => ?_⟩
    rw [← htake, List.getElem?_take] at hj
    split at hj
    · simpa using hj
    · cases hj

/-- What a copy of values has come to behind k rounds. -/
def CopyV (w wr : World) (t : TypeId) (vs : List Value) (k : Nat) : Prop :=
  Below w.heap.size w wr ∧ ∃ cs, Bk wr w.heap.size t cs ∧ cs.size = vs.length ∧ ∀ (j : Nat) (v : Value), j < k → vs[j]? = some v → cs[j]? = some v
theorem CopyV.next {w wr : World} {t : TypeId} {vs : List Value} {k : Nat} {v : Value} (h : CopyV w wr t vs k) (hx : vs[k]? = some v) :
    CopyV w (wr.setCell ⟨w.heap.size, k, none⟩ v) t vs (k + 1) := by
  obtain ⟨h0, cs, hbk, hsz, hc⟩ := h
  have hk : k < vs.length := (List.getElem?_eq_some_iff.1 hx).1
  refine ⟨h0.setCell (Nat.le_refl _) _, _, hbk.set k v, by simpa using hsz, fun j u hj hu => ?_⟩
  by_cases e : j = k
  · subst e
    rw [hx] at hu
    simp [hsz, hk]
    injection hu
  · rw [Array.getElem?_setIfInBounds_ne (by omega)]
    exact hc j u (by omega) hu
theorem CopyV.done {w wr : World} {t : TypeId} {vs : List Value} (h : CopyV w wr t vs vs.length) : OwnVs wr w.heap.size (w.heap.size + 1) t (some ⟨w.heap.size, 0, none⟩) vs := fun _ => by
  obtain ⟨_, cs, hbk, _, hc⟩ := h
  exact ⟨_, cs, rfl, Nat.le_refl _, by omega, hbk, fun j v hj => hc j v (List.getElem?_eq_some_iff.1 hj).1 hj⟩
theorem CopyV.lt {w wr : World} {t : TypeId} {vs : List Value} {k : Nat} (h : CopyV w wr t vs k) : w.heap.size < wr.heap.size := by
  obtain ⟨_, cs, hbk, _⟩ := h
  exact hbk.lt

/-- The numbers that the laws' marks write into a row of numbers, and of truths. -/
def upI (K : Int) (n : Nat) : List Int := (List.range n).map fun j : Nat => K + (j : Int)
def upB (K : Int) (n : Nat) : List Bool := (List.range n).map fun j : Nat => (K + (j : Int)) % 3 == 0
@[simp] theorem upI_length (K : Int) (n : Nat) : (upI K n).length = n := by simp [upI]
@[simp] theorem upB_length (K : Int) (n : Nat) : (upB K n).length = n := by simp [upB]
theorem upI_at (K : Int) {n k : Nat} (h : k < n) : (upI K n)[k]? = some (K + (k : Int)) := by simp [upI, h]
theorem upB_at (K : Int) {n k : Nat} (h : k < n) : (upB K n)[k]? = some ((K + (k : Int)) % 3 == 0) := by simp [upB, h]
/-- What marks have come to in one block behind k values. -/
def MarkV (w wr : World) (g : Nat) (t : TypeId) (vs : List Value) (k : Nat) : Prop :=
  Only g (g + 1) w wr ∧ ∃ cs, Bk wr g t cs ∧ vs.length ≤ cs.size ∧ ∀ (j : Nat) (v : Value), j < k → vs[j]? = some v → cs[j]? = some v
theorem MarkV.next {w wr : World} {g : Nat} {t : TypeId} {vs : List Value} {k : Nat} {v : Value} (h : MarkV w wr g t vs k) (hx : vs[k]? = some v) :
    MarkV w (wr.setCell ⟨g, k, none⟩ v) g t vs (k + 1) := by
  obtain ⟨h0, cs, hbk, hsz, hc⟩ := h
  have hk : k < vs.length := (List.getElem?_eq_some_iff.1 hx).1
  refine ⟨h0.setCell (Nat.le_refl _) (Nat.lt_succ_self _) _, _, hbk.set k v, by simpa using hsz, fun j u hj hu => ?_⟩
  by_cases e : j = k
  · subst e
    rw [hx] at hu
    have : j < cs.size := by omega
    simp [this]
    injection hu
  · rw [Array.getElem?_setIfInBounds_ne (by omega)]
    exact hc j u (by omega) hu
theorem MarkV.done {w wr : World} {g : Nat} {t : TypeId} {vs : List Value} (h : MarkV w wr g t vs vs.length) : OwnVs wr g (g + 1) t (some ⟨g, 0, none⟩) vs := fun _ => by
  obtain ⟨_, cs, hbk, _, hc⟩ := h
  exact ⟨g, cs, rfl, Nat.le_refl _, by omega, hbk, fun j v hj => hc j v (List.getElem?_eq_some_iff.1 hj).1 hj⟩

theorem cell1_new (w : World) (v : Value) (t : TypeId) : ∀ j u, [v][j]? = some u → (w.alloc (.cells #[v] t)).cell? ((⟨w.heap.size, 0, none⟩ : Addr).add j) = some u := by
  intro j u hj
  have e : (⟨w.heap.size, 0, none⟩ : Addr).add j = ⟨w.heap.size, j, none⟩ := by unfold Addr.add; split <;> simp_all
  have := (Bk.new w #[v] t).cell j
  rw [e, this, ← hj]
  simp
end Go.Proofs.Ytaghidaamcnpkaa
