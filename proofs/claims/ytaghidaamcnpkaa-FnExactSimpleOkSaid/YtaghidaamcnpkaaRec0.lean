/-
  What records of lists in memory need: rows known to lie between two blocks, marks over rows that may be empty.
-/
import Derived.Test.YtaghidaamcnpkaaVec
namespace Go.Proofs.Ytaghidaamcnpkaa
open Go.RowKit Pl
set_option maxHeartbeats 400000
set_option linter.unusedVariables false

theorem szInt_any' (A : Option Addr) (n c : Nat) (left : Int) (w : World) (hn : n ≤ maxLen) (h0 : 0 ≤ left) (h1 : left ≤ 1048576) (r : Int) (hr : Hid (sz1 left n = r)) :
    Calls Try.prog 26 #[.slice A n c, .int .i64 left] w fun e w' => e = .returned (.int .i64 r) ∧ w = w' := by rw [← hr.out]; exact szInt_any A n c left w hn h0 h1
/-- What a size function over several lists comes to. -/
def szN : Int → List Nat → Int
  | a, [] => a
  | a, n :: r => if sz1 a n < 0 then -1 else szN (sz1 a n) r
theorem szN_ge (ns : List Nat) : ∀ a : Int, 0 ≤ a → -1 ≤ szN a ns ∧ szN a ns ≤ a := by
  induction ns with
  | nil => intro a h; simp [szN]; omega
  | cons n r ih =>
    intro a h
    unfold szN
    split
    · omega
    · have := ih _ (show 0 ≤ sz1 a n by omega)
      have h2 : sz1 a n ≤ a := by unfold sz1; split <;> omega
      omega
theorem szN_len (ns : List Nat) : ∀ a : Int, 0 ≤ szN a ns → 0 ≤ a → (ns.sum : Int) ≤ a := by
  induction ns with
  | nil => intro a h h0; simpa using h0
  | cons n r ih =>
    intro a h h0
    unfold szN at h
    split at h
    · omega
    · rename_i h1
      have := ih _ h (by omega)
      have h2 : sz1 a n = a - n := by
        unfold sz1 at h1 ⊢
        split
        · rename_i h3; rw [if_pos h3] at h1; omega
        · rfl
      rw [List.sum_cons]; push_cast; omega

/-- Values that lie from block lo on, below hi. -/
def InVs (w : World) (lo hi : Nat) (A : Option Addr) (vs : List Value) : Prop :=
  0 < vs.length → ∃ b off, A = some ⟨b, off, none⟩ ∧ lo ≤ b ∧ b < hi ∧ ∀ (j : Nat) (v : Value), vs[j]? = some v → w.cell? ⟨b, off + j, none⟩ = some v
theorem InVs.vs {w : World} {lo hi : Nat} {A : Option Addr} {vs : List Value} (h : InVs w lo hi A vs) : Vs w hi A vs := fun hn => by
  obtain ⟨b, off, hA, _, hb, hx⟩ := h hn
  exact ⟨b, off, hA, hb, hx⟩
theorem InVs.keep {w w' : World} {lo hi lo' hi' : Nat} {A : Option Addr} {vs : List Value} (h : InVs w lo hi A vs) (hl : lo' ≤ lo) (hh : hi ≤ hi') (hk : ∀ i, lo ≤ i → i < hi → w'.heap[i]? = w.heap[i]?) : InVs w' lo' hi' A vs := fun hn => by
  obtain ⟨b, off, hA, h0, hb, hx⟩ := h hn
  exact ⟨b, off, hA, by omega, by omega, fun j v hj => (World.cell?_of_block (a := ⟨b, off + j, none⟩) (hk b h0 hb)).trans (hx j v hj)⟩
theorem InVs.below {w w' : World} {lo hi B : Nat} {A : Option Addr} {vs : List Value} (h : InVs w lo hi A vs) (hb : Below B w w') (hB : hi ≤ B) : InVs w' lo hi A vs :=
  h.keep (Nat.le_refl _) (Nat.le_refl _) fun i _ hi => hb.block i (by omega)
theorem OwnVs.in_ {w : World} {lo hi : Nat} {t : TypeId} {A : Option Addr} {vs : List Value} (h : OwnVs w lo hi t A vs) : InVs w lo hi A vs := fun hn => by
  obtain ⟨g, cs, hA, h0, hg, hb, hx⟩ := h hn
  exact ⟨g, 0, hA, h0, hg, fun j v hj => by rw [Nat.zero_add]; exact (hb.cell j).trans (hx j v hj)⟩
theorem Vs.keepV {w w' : World} {B : Nat} {A : Option Addr} {vs : List Value} (h : Vs w B A vs) (hk : ∀ b o, b < B → w'.cell? ⟨b, o, none⟩ = w.cell? ⟨b, o, none⟩) : Vs w' B A vs := h.keep (Nat.le_refl _) hk
/-- Another row, whose block is not the one that was written over, is as it was. -/
theorem OwnVs.same {w w' : World} {lo hi : Nat} {t : TypeId} {A A' : Option Addr} {vs : List Value} {m : Nat} (h : OwnVs w lo hi t A vs) (hs : hi ≤ w.heap.size) (hk : ∀ i, i < w.heap.size → (0 < m → A' ≠ some ⟨i, 0, none⟩) → w'.heap[i]? = w.heap[i]?)
    (hd : 0 < vs.length → 0 < m → A' ≠ A) : OwnVs w' lo hi t A vs := fun hn => by
  obtain ⟨g, cs, hA, h0, hg, hb, hx⟩ := h hn
  exact ⟨g, cs, hA, h0, hg, (hk g (by omega) (fun hm e => hd hn hm (by rw [e, hA]))).trans hb, hx⟩
theorem own_size {w : World} {lo hi : Nat} {t : TypeId} {A : Option Addr} {vs : List Value} (h : OwnVs w lo hi t A vs) (hn : 0 < vs.length) : ∃ g cs, A = some ⟨g, 0, none⟩ ∧ lo ≤ g ∧ g < hi ∧ Bk w g t cs ∧ vs.length ≤ cs.size := by
  obtain ⟨g, cs, hA, h0, hg, hb, hx⟩ := h hn
  refine ⟨g, cs, hA, h0, hg, hb, ?_⟩
  have := hx (vs.length - 1) _ (List.getElem?_eq_getElem (by omega))
  have := (Array.getElem?_eq_some_iff.1 this).1
  omega
end Go.Proofs.Ytaghidaamcnpkaa
