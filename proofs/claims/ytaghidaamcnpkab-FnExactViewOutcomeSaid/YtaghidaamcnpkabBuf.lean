/-
  States with buffers: a state and rows of numbers. How they lie in memory, and contracts of the laws' functions over them: sizes, copies, equality, marks, held marks.
-/
import Derived.Test.YtaghidaamcnpkabSt
import Derived.Test.YtaghidaamcnpkabRec0
namespace Go.Proofs.Ytaghidaamcnpkab
open Go.RowKit Pl
set_option maxHeartbeats 1000000
set_option maxRecDepth 100000
set_option linter.unusedVariables false

structure Buf where
  st : Sta
  bs : Iss
deriving DecidableEq, Inhabited
structure BufH where
  h : StaH
  k : IssH
abbrev BufV (h : BufH) (o : Buf) : Value := .agg #[.slice h.h.A0 o.st.f0.length h.h.c0, .slice h.h.A1 o.st.f1.length h.h.c1, .slice h.h.A2 o.st.f2.length h.h.c2, .slice h.h.A3 o.st.f3.length h.h.c3, .slice h.h.A4 o.st.f4.length h.h.c4, .slice h.k.A o.bs.length h.k.c]
def BufN : BufH := ⟨StaN, ⟨none, 0⟩⟩
def BufE : Buf := ⟨StaE, []⟩
structure BufR (w : World) (B : Nat) (h : BufH) (o : Buf) : Prop where
  s : StaR w B h.h o.st
  b : IssR w B h.k o.bs
structure BufL (o : Buf) (m : Nat) : Prop where
  s : StaL o.st m
  b : IssM o.bs m
structure BufS (o : Buf) : Prop where
  s : StaS o.st
  b : IssS o.bs
theorem BufS_L {o : Buf} (s : BufS o) : BufL o maxLen := ⟨StaS_L s.s, (IssS_L s.b).m⟩
/-- Rows that lie in these blocks. -/
structure IssI (w : World) (lo hi : Nat) (h : IssH) (o : Iss) : Prop where
  v : 0 < o.length → ∃ b off, h.A = some ⟨b, off, none⟩ ∧ lo ≤ b ∧ b < hi ∧ ∀ (i : Nat) (xs : List Int), o[i]? = some xs → ∃ Ai ci, w.cell? ⟨b, off + i, none⟩ = some (.slice Ai xs.length ci) ∧ InVs w lo hi Ai (ints xs)
theorem IssI.keep {w w' : World} {lo hi lo' hi' : Nat} {h : IssH} {o : Iss} (r : IssI w lo hi h o) (hl : lo' ≤ lo) (hh : hi ≤ hi') (hk : ∀ i, lo ≤ i → i < hi → w'.heap[i]? = w.heap[i]?) : IssI w' lo' hi' h o := ⟨fun hn => by
  obtain ⟨b, off, hA, h1, h2, hx⟩ := r.v hn
  refine ⟨b, off, hA, by omega, by omega, fun i xs hi => ?_⟩
  obtain ⟨Ai, ci, hc, hr⟩ := hx i xs hi
  exact ⟨Ai, ci, (World.cell?_of_block (a := ⟨b, off + i, none⟩) (hk b h1 h2)).trans hc, hr.keep hl hh hk⟩⟩
theorem IssI.below {w w' : World} {lo hi B : Nat} {h : IssH} {o : Iss} (r : IssI w lo hi h o) (hb : Below B w w') (hB : hi ≤ B) : IssI w' lo hi h o := r.keep (Nat.le_refl _) (Nat.le_refl _) fun i _ hi => hb.block i (by omega)
theorem IssI.rd {w : World} {lo hi : Nat} {h : IssH} {o : Iss} (r : IssI w lo hi h o) : IssR w hi h o := ⟨fun hn => by
  obtain ⟨b, off, hA, h1, h2, hx⟩ := r.v (by simpa [vsIss] using hn)
  refine ⟨b, off, hA, h2, fun i vs hi => ?_⟩
  obtain ⟨xs, hxs, rfl⟩ := vsIss_inv hi
  obtain ⟨Ai, ci, hc, hr⟩ := hx i xs hxs
  exact ⟨Ai, ci, by rw [ints_length]; exact hc, hr.vs⟩⟩
theorem IssO.in_ {w : World} {lo hi : Nat} {h : IssH} {o : Iss} (r : IssO w lo hi h o) : IssI w lo hi h o := ⟨fun hn => by
  obtain ⟨g, cs, D, C, hA, h1, h2, hb, hx, _⟩ := r.o0 (by simpa [vsIss] using hn)
  refine ⟨g, 0, hA, h1, h2, fun i xs hi => ?_⟩
  obtain ⟨hc, ho⟩ := hx i (ints xs) (vsIss_at hi)
  rw [ints_length] at hc
  exact ⟨D i, C i, by rw [Nat.zero_add]; exact (hb.cell i).trans hc, ho.in_⟩⟩
structure BufI (w : World) (lo hi : Nat) (h : BufH) (o : Buf) : Prop where
  s : StaI w lo hi h.h o.st
  b : IssI w lo hi h.k o.bs
/-- A record of the call's own: its state lies apart from its rows. -/
def BufO (w : World) (lo hi : Nat) (h : BufH) (o : Buf) : Prop :=
  ∃ a b c d, lo ≤ a ∧ b ≤ hi ∧ lo ≤ c ∧ d ≤ hi ∧ (b ≤ c ∨ d ≤ a) ∧ StaO w a b h.h o.st ∧ IssO w c d h.k o.bs
section
variable {w w' : World} {B B' B'' lo hi lo' hi' : Nat} {h : BufH} {o : Buf}
theorem BufR.below (r : BufR w B h o) (hb : Below B' w w') (hB : B ≤ B') : BufR w' B h o := ⟨r.s.below hb hB, r.b.below hb hB⟩
theorem BufR.up (r : BufR w B h o) (hb : Below B' w w') (hB : B ≤ B') (hB2 : B ≤ B'') : BufR w' B'' h o := ⟨r.s.up hb hB hB2, r.b.up hb hB hB2⟩
theorem BufI.keep (r : BufI w lo hi h o) (hl : lo' ≤ lo) (hh : hi ≤ hi') (hk : ∀ i, lo ≤ i → i < hi → w'.heap[i]? = w.heap[i]?) : BufI w' lo' hi' h o := ⟨r.s.keep hl hh hk, r.b.keep hl hh hk⟩
theorem BufI.below (r : BufI w lo hi h o) (hb : Below B w w') (hB : hi ≤ B) : BufI w' lo hi h o := ⟨r.s.below hb hB, r.b.below hb hB⟩
theorem BufI.rd (r : BufI w lo hi h o) : BufR w hi h o := ⟨r.s.rd, r.b.rd⟩
theorem BufO.keep (r : BufO w lo hi h o) (hl : lo' ≤ lo) (hh : hi ≤ hi') (hk : ∀ i, lo ≤ i → i < hi → w'.heap[i]? = w.heap[i]?) : BufO w' lo' hi' h o := by
  obtain ⟨a, b, c, d, h1, h2, h3, h4, h5, h6, h7⟩ := r
  exact ⟨a, b, c, d, by omega, by omega, by omega, by omega, h5, h6.keep (Nat.le_refl _) (Nat.le_refl _) fun i p q => hk i (by omega) (by omega), h7.keep (Nat.le_refl _) (Nat.le_refl _) fun i p q => hk i (by omega) (by omega)⟩
theorem BufO.below (r : BufO w lo hi h o) (hb : Below B w w') (hB : hi ≤ B) : BufO w' lo hi h o := r.keep (Nat.le_refl _) (Nat.le_refl _) fun i _ hi => hb.block i (by omega)
theorem BufO.in_ (r : BufO w lo hi h o) : BufI w lo hi h o := by
  obtain ⟨a, b, c, d, h1, h2, h3, h4, h5, h6, h7⟩ := r
  exact ⟨(h6.keep h1 h2 fun _ _ _ => rfl).in_, (h7.keep h3 h4 fun _ _ _ => rfl).in_⟩
theorem BufO.rd (r : BufO w lo hi h o) : BufR w hi h o := r.in_.rd
theorem IssO.nil_ (w : World) (lo hi : Nat) (k : IssH) : IssO w lo hi k [] := ⟨OwnVss.nil _ _ _ _ _ _⟩
theorem BufO.none_ (w : World) (lo hi : Nat) (h : BufH) (hl : lo ≤ hi) : BufO w lo hi h BufE := ⟨lo, lo, lo, lo, Nat.le_refl _, hl, Nat.le_refl _, hl, Or.inl (Nat.le_refl _), StaO.none_ _ _ _ _, IssO.nil_ _ _ _ _⟩
theorem BufI.none_ (w : World) (lo hi : Nat) (h : BufH) : BufI w lo hi h BufE := ⟨StaI.none_ _ _ _ _, (IssO.nil_ _ _ _ _).in_⟩
end
/-! ### sizes -/
def szBuf (a : Int) (o : Buf) : Int := if szSta a o.st < 0 then -1 else szIss (szSta a o.st) o.bs
theorem szBuf_ge (a : Int) (o : Buf) (ha : 0 ≤ a) : -1 ≤ szBuf a o ∧ szBuf a o ≤ a := by
  have h := szSta_ge a o.st ha
  unfold szBuf
  split
  · omega
  · have := szIss_ge (szSta a o.st) o.bs (by omega)
    omega
theorem szBuf_small {a : Int} {o : Buf} (h : 0 ≤ szBuf a o) (ha : 0 ≤ a) (ha2 : a ≤ 1048576) : BufS o := by
  unfold szBuf at h
  split at h
  · omega
  · rename_i h1
    have h2 := szSta_ge a o.st ha
    have h3 := szIss_tot h
    exact ⟨szSta_small (a := a) (by omega) ha ha2, ⟨by omega, by omega⟩⟩
/-! ### copies -/
def ToBuf (w : World) (o : Buf) (e : Ending) (w' : World) : Prop := ∃ h, e = .returned (BufV h o) ∧ Below w.heap.size w w' ∧ w.heap.size < w'.heap.size ∧ BufO w' w.heap.size w'.heap.size h o
/-- An answer of a record and a truth: the record is the call's own. -/
def AnsBuf (w : World) (o : Buf) (r : Bool) (e : Ending) (w' : World) : Prop := ∃ h, e = .returned (.tuple #[BufV h o, .bool r]) ∧ Below w.heap.size w w' ∧ w.heap.size ≤ w'.heap.size ∧ BufO w' w.heap.size w'.heap.size h o
def AnsIBuf (w : World) (o : Buf) (r : Bool) (e : Ending) (w' : World) : Prop := ∃ h, e = .returned (.tuple #[BufV h o, .bool r]) ∧ Below w.heap.size w w' ∧ w.heap.size ≤ w'.heap.size ∧ BufI w' w.heap.size w'.heap.size h o
theorem AnsBuf.in_ {w w' : World} {o : Buf} {r : Bool} {e : Ending} (h : AnsBuf w o r e w') : AnsIBuf w o r e w' := by
  obtain ⟨k, h1, h2, h3, h4⟩ := h
  exact ⟨k, h1, h2, h3, h4.in_⟩
/-! ### equality -/
/-! ### marks -/
def upBuf (K : Int) (o : Buf) : Buf := ⟨upSta K o.st, upIss (K + allSta o.st) o.bs⟩
def allBuf (o : Buf) : Int := allSta o.st + allIss o.bs
theorem allSta_le {o : Sta} (h : StaL o 1048576) : 0 ≤ allSta o ∧ allSta o ≤ 5242880 := by
  obtain ⟨l0, l1, l2, l3, l4⟩ := h
  unfold allSta
  omega
end Go.Proofs.Ytaghidaamcnpkab
