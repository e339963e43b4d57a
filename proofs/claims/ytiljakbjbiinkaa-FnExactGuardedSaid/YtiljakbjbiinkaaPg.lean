/-
  Programs under the names that the walks of the exact laws use: headers, reading, owning, sizes, copies, equality, marks.
-/
import Derived.Test.YtiljakbjbiinkaaVec
import Derived.Test.YtiljakbjbiinkaaEq
import Derived.Test.YtiljakbjbiinkaaCopy
import Derived.Test.YtiljakbjbiinkaaMarkP
import Derived.Test.YtiljakbjbiinkaaSpecOk
namespace Go.Proofs.Ytiljakbjbiinkaa
open Go.RowKit Pl
set_option maxHeartbeats 400000
set_option linter.unusedVariables false

theorem szInt_any' (A : Option Addr) (n c : Nat) (left : Int) (w : World) (hn : n ≤ maxLen) (h0 : 0 ≤ left) (h1 : left ≤ 1048576) (r : Int) (hr : Hid (sz1 left n = r)) :
    Calls Try.prog 76 #[.slice A n c, .int .i64 left] w fun e w' => e = .returned (.int .i64 r) ∧ w = w' := by rw [← hr.out]; exact szInt_any A n c left w hn h0 h1
/-- What a size function over several lists comes to. -/
def szN : Int → List Nat → Int
  | a, [] => a
  | a, n :: r => if sz1 a n < 0 then -1 else szN (sz1 a n) r
theorem szN_ge (ns : List Nat) : ∀ a : Int, 0 ≤ a → -1 ≤ szN a ns ∧ szN a ns ≤ a := by
  induction ns with
  | nil => intro a h; simp [szN]; omega
  | cons n r ih =>
    intro a h
    unfold szN
    split
    · omega
    · have := ih _ (show 0 ≤ sz1 a n by omega)
      have h2 : sz1 a n ≤ a := by unfold sz1; split <;> omega
      omega
theorem szN_len (ns : List Nat) : ∀ a : Int, 0 ≤ szN a ns → 0 ≤ a → (ns.sum : Int) ≤ a := by
  induction ns with
  | nil => intro a h h0; simpa using h0
  | cons n r ih =>
    intro a h h0
    unfold szN at h
    split at h
    · omega
    · rename_i h1
      have := ih _ h (by omega)
      have h2 : sz1 a n = a - n := by
        unfold sz1 at h1 ⊢
        split
        · rename_i h3; rw [if_pos h3] at h1; omega
        · rfl
      rw [List.sum_cons]; push_cast; omega

/-- Values that lie from block lo on, below hi. -/
def InVs (w : World) (lo hi : Nat) (A : Option Addr) (vs : List Value) : Prop :=
  0 < vs.length → ∃ b off, A = some ⟨b, off, none⟩ ∧ lo ≤ b ∧ b < hi ∧ ∀ (j : Nat) (v : Value), vs[j]? = some v → w.cell? ⟨b, off + j, none⟩ = some v
theorem InVs.vs {w : World} {lo hi : Nat} {A : Option Addr} {vs : List Value} (h : InVs w lo hi A vs) : Vs w hi A vs := fun hn => by
  obtain ⟨b, off, hA, _, hb, hx⟩ := h hn
  exact ⟨b, off, hA, hb, hx⟩
theorem InVs.keep {w w' : World} {lo hi lo' hi' : Nat} {A : Option Addr} {vs : List Value} (h : InVs w lo hi A vs) (hl : lo' ≤ lo) (hh : hi ≤ hi') (hk : ∀ i, lo ≤ i → i < hi → w'.heap[i]? = w.heap[i]?) : InVs w' lo' hi' A vs := fun hn => by
  obtain ⟨b, off, hA, h0, hb, hx⟩ := h hn
  exact ⟨b, off, hA, by omega, by omega, fun j v hj => (World.cell?_of_block (a := ⟨b, off + j, none⟩) (hk b h0 hb)).trans (hx j v hj)⟩
theorem InVs.below {w w' : World} {lo hi B : Nat} {A : Option Addr} {vs : List Value} (h : InVs w lo hi A vs) (hb : Below B w w') (hB : hi ≤ B) : InVs w' lo hi A vs :=
  h.keep (Nat.le_refl _) (Nat.le_refl _) fun i _ hi => hb.block i (by omega)
theorem OwnVs.in_ {w : World} {lo hi : Nat} {t : TypeId} {A : Option Addr} {vs : List Value} (h : OwnVs w lo hi t A vs) : InVs w lo hi A vs := fun hn => by
  obtain ⟨g, cs, hA, h0, hg, hb, hx⟩ := h hn
  exact ⟨g, 0, hA, h0, hg, fun j v hj => by rw [Nat.zero_add]; exact (hb.cell j).trans (hx j v hj)⟩
theorem Vs.keepV {w w' : World} {B : Nat} {A : Option Addr} {vs : List Value} (h : Vs w B A vs) (hk : ∀ b o, b < B → w'.cell? ⟨b, o, none⟩ = w.cell? ⟨b, o, none⟩) : Vs w' B A vs := h.keep (Nat.le_refl _) hk
/-- Another row, whose block is not the one that was written over, is as it was. -/
theorem OwnVs.same {w w' : World} {lo hi : Nat} {t : TypeId} {A A' : Option Addr} {vs : List Value} {m : Nat} (h : OwnVs w lo hi t A vs) (hs : hi ≤ w.heap.size) (hk : ∀ i, i < w.heap.size → (0 < m → A' ≠ some ⟨i, 0, none⟩) → w'.heap[i]? = w.heap[i]?)
    (hd : 0 < vs.length → 0 < m → A' ≠ A) : OwnVs w' lo hi t A vs := fun hn => by
  obtain ⟨g, cs, hA, h0, hg, hb, hx⟩ := h hn
  exact ⟨g, cs, hA, h0, hg, (hk g (by omega) (fun hm e => hd hn hm (by rw [e, hA]))).trans hb, hx⟩
theorem own_size {w : World} {lo hi : Nat} {t : TypeId} {A : Option Addr} {vs : List Value} (h : OwnVs w lo hi t A vs) (hn : 0 < vs.length) : ∃ g cs, A = some ⟨g, 0, none⟩ ∧ lo ≤ g ∧ g < hi ∧ Bk w g t cs ∧ vs.length ≤ cs.size := by
  obtain ⟨g, cs, hA, h0, hg, hb, hx⟩ := h hn
  refine ⟨g, cs, hA, h0, hg, hb, ?_⟩
  have := hx (vs.length - 1) _ (List.getElem?_eq_getElem (by omega))
  have := (Array.getElem?_eq_some_iff.1 this).1
  omega
theorem markInt_own (A : Option Addr) (xs : List Int) (c : Nat) (K : Int) (w : World) (lo hi : Nat) (h : OwnVs w lo hi 3 A (ints xs)) (hl : xs.length ≤ 1048576) (hK : 0 ≤ K) (hK2 : K ≤ 1000000000) :
    Calls Try.prog 35 #[.slice A xs.length c, .int .i64 K] w fun e w' => e = .returned (.int .i64 (K + (xs.length : Int))) ∧ Only lo hi w w' ∧ OwnVs w' lo hi 3 A (ints (upI K xs.length)) ∧ (∀ i, i < w.heap.size → (0 < xs.length → A ≠ some ⟨i, 0, none⟩) → w'.heap[i]? = w.heap[i]?) := by
  by_cases hn : 0 < xs.length
  · obtain ⟨g, cs, rfl, h0, hg, hb, hs⟩ := own_size h (by simpa using hn)
    rw [ints_length] at hs
    refine (markInt_any xs.length g c cs K w hb hs hl hK hK2).mono ?_
    rintro e w' ⟨rfl, hm⟩
    exact ⟨rfl, hm.1.mono h0 (by omega), hm.done.more h0 (by omega), fun i hi hne => hm.1.block i hi (by
      rcases Nat.lt_trichotomy i g with h1 | h1 | h1
      · exact Or.inl h1
      · subst h1; exact absurd rfl (hne hn)
      · exact Or.inr h1)⟩
  · have e : xs.length = 0 := by omega
    rw [e]
    refine (markInt_none A c K w hK hK2).mono ?_
    rintro e w' ⟨rfl, rfl⟩
    exact ⟨by simp, Only.refl _ _ _, fun hh => absurd hh (by simp), fun _ _ _ => rfl⟩
theorem markBool_own (A : Option Addr) (xs : List Bool) (c : Nat) (K : Int) (w : World) (lo hi : Nat) (h : OwnVs w lo hi 4 A (bools xs)) (hl : xs.length ≤ 1048576) (hK : 0 ≤ K) (hK2 : K ≤ 1000000000) :
    Calls Try.prog 52 #[.slice A xs.length c, .int .i64 K] w fun e w' => e = .returned (.int .i64 (K + (xs.length : Int))) ∧ Only lo hi w w' ∧ OwnVs w' lo hi 4 A (bools (upB K xs.length)) ∧ (∀ i, i < w.heap.size → (0 < xs.length → A ≠ some ⟨i, 0, none⟩) → w'.heap[i]? = w.heap[i]?) := by
  by_cases hn : 0 < xs.length
  · obtain ⟨g, cs, rfl, h0, hg, hb, hs⟩ := own_size h (by simpa using hn)
    rw [bools_length] at hs
    refine (markBool_any xs.length g c cs K w hb hs hl hK hK2).mono ?_
    rintro e w' ⟨rfl, hm⟩
    exact ⟨rfl, hm.1.mono h0 (by omega), hm.done.more h0 (by omega), fun i hi hne => hm.1.block i hi (by
      rcases Nat.lt_trichotomy i g with h1 | h1 | h1
      · exact Or.inl h1
      · subst h1; exact absurd rfl (hne hn)
      · exact Or.inr h1)⟩
  · have e : xs.length = 0 := by omega
    rw [e]
    refine (markBool_none A c K w hK hK2).mono ?_
    rintro e w' ⟨rfl, rfl⟩
    exact ⟨by simp, Only.refl _ _ _, fun hh => absurd hh (by simp), fun _ _ _ => rfl⟩
end Go.Proofs.Ytiljakbjbiinkaa
namespace Go.Proofs.Ytiljakbjbiinkaa
open Go.RowKit Pl
set_option maxHeartbeats 400000
set_option linter.unusedVariables false

abbrev Pg := List (List Sm)
structure PgH where
  A : Option Addr
  c : Nat
deriving Inhabited
abbrev PgV (h : PgH) (o : Pg) : Value := .agg #[.slice h.A o.length h.c]
def PgR (w : World) (B : Nat) (h : PgH) (o : Pg) : Prop := Rows2 w B h.A o
structure PgL (o : Pg) (m : Nat) : Prop where
  l : o.length ≤ m
structure PgO (w : World) (lo hi : Nat) (h : PgH) (o : Pg) : Prop where
  o : OwnRows2 w lo hi h.A o
section
variable {w w' : World} {B B' B'' lo hi lo' hi' : Nat} {h : PgH} {o : Pg}
theorem PgR.below (r : PgR w B h o) (hb : Below B' w w') (hB : B ≤ B') : PgR w' B h o := Rows2.below r hb hB
theorem PgR.up (r : PgR w B h o) (hb : Below B' w w') (hB : B ≤ B') (hB2 : B ≤ B'') : PgR w' B'' h o := Rows2.up r hb hB hB2
theorem PgO.keep (r : PgO w lo hi h o) (hl : lo' ≤ lo) (hh : hi ≤ hi') (hk : ∀ i, lo ≤ i → i < hi → w'.heap[i]? = w.heap[i]?) : PgO w' lo' hi' h o := ⟨r.o.keep hl hh hk⟩
theorem PgO.below (r : PgO w lo hi h o) (hb : Below B w w') (hB : hi ≤ B) : PgO w' lo hi h o := ⟨r.o.below hb hB⟩
theorem PgO.rd (r : PgO w lo hi h o) : PgR w hi h o := r.o.rows
end
/-- A program that is small enough for the laws: how long, how long each thread, how long together. -/
structure PgS (o : Pg) : Prop where
  l : o.length ≤ 1048576
  e : ∀ xs ∈ o, xs.length ≤ 1048576
  t : total o ≤ 1048576
def szPg (a : Int) (o : Pg) : Int := sz2 a o
theorem szPg_ge (a : Int) (o : Pg) (ha : 0 ≤ a) : -1 ≤ szPg a o ∧ szPg a o ≤ a := by
  refine ⟨sz2_ge _ _, ?_⟩
  have key : ∀ (L : Pg) (x : Int), 0 ≤ x → szL x L ≤ x := by
    intro L
    induction L with
    | nil => intro x _; simp [szL]
    | cons y r ih =>
      intro x hx
      unfold szL
      split
      · omega
      · have := ih _ (show 0 ≤ sz1 x y.length by omega)
        have h2 : sz1 x y.length ≤ x := by unfold sz1; split <;> omega
        omega
  unfold szPg sz2
  split
  · omega
  · have := key o (a - o.length) (by omega); omega
theorem szPg_small {a : Int} {o : Pg} (h : 0 ≤ szPg a o) (ha : 0 ≤ a) (ha2 : a ≤ 1048576) : PgS o := by
  have h1 := sz2_total h
  exact ⟨by omega, fun xs hx => by have := mem_le_total hx; omega, by omega⟩
theorem szPg_any (h : PgH) (o : Pg) (left : Int) (w : World) (B : Nat) (hR : PgR w B h o) (hB : B ≤ w.heap.size) (hL : PgL o maxLen) (h0 : 0 ≤ left) (h1 : left ≤ 1048576) (r : Int) (hr : Hid (szPg left o = r)) :
    Calls Try.prog 10 #[PgV h o, .int .i64 left] w fun e w' => e = .returned (.int .i64 r) ∧ Below w.heap.size w w' :=
  szP_any h.A o h.c left w B hR hB hL.l h0 h1 r hr (by rw [← hr.out]; exact (szPg_ge _ _ h0).1)
def ToPg (w : World) (o : Pg) (e : Ending) (w' : World) : Prop := ∃ h, e = .returned (PgV h o) ∧ Below w.heap.size w w' ∧ w.heap.size ≤ w'.heap.size ∧ PgO w' w.heap.size w'.heap.size h o
theorem toPg_any (h : PgH) (o : Pg) (w : World) (B : Nat) (hR : PgR w B h o) (hB : B ≤ w.heap.size) (hS : PgS o) :
    Calls Try.prog 12 #[PgV h o] w (ToPg w o) :=
  (toP_any h.A o h.c w B hR hB hS.l (Lib.hid hS.e)).mono fun e w' ⟨A, c, he, hb, ho⟩ => ⟨⟨A, c⟩, he, hb, hb.size, ⟨ho⟩⟩
theorem eqPg_any (h1 h2 : PgH) (o1 o2 : Pg) (w : World) (B : Nat) (r1 : PgR w B h1 o1) (r2 : PgR w B h2 o2) (hB : B ≤ w.heap.size) (L1 : PgL o1 maxLen) (L2 : PgL o2 maxLen) (r : Bool) (hr : Hid (decide (o1 = o2) = r)) :
    Calls Try.prog 15 #[PgV h1 o1, PgV h2 o2] w fun e w' => e = .returned (.bool r) ∧ Below w.heap.size w w' :=
  eqP_any h1.A h2.A o1 o2 h1.c h2.c w B r1 r2 hB L1.l L2.l r hr
theorem markPg_any (h : PgH) (o : Pg) (K : Int) (w : World) (lo hi : Nat) (hO : PgO w lo hi h o) (hhi : hi ≤ w.heap.size) (hS : PgS o) (hK : 0 ≤ K) (hK2 : K ≤ 10) :
    Calls Try.prog 16 #[PgV h o, .int .i64 K] w fun e w' => e = .returned (.int .i64 (K + 5 * (total o : Int))) ∧ Only lo hi w w' :=
  (markP_any h.A o h.c K w lo hi hO.o hhi hS.l hS.t hK hK2).mono fun e w' ⟨he, ho, _⟩ => ⟨he, ho⟩
theorem PgS_L {o : Pg} (s : PgS o) : PgL o maxLen := ⟨by unfold maxLen; have := s.l; omega⟩
end Go.Proofs.Ytiljakbjbiinkaa
