/-
  Notes, lists of notes and lists of such lists in memory: how they read, what it means that a call owns them, and contracts of the laws' functions over them: sizes, copies, equality.
-/
import Derived.Test.YtaghidaamcnpkabRec0
import Derived.Deep.RegionHeld3
namespace Go.Proofs.Ytaghidaamcnpkab
open Go.RowKit Pl Go.BigFrame
set_option maxHeartbeats 2000000
set_option maxRecDepth 100000
set_option linter.unusedVariables false

structure Nt where
  v : Int
  w : List Int
  g : Bool
deriving DecidableEq, Inhabited
structure NtH where
  A : Option Addr
  c : Nat
deriving Inhabited
abbrev NtV (h : NtH) (x : Nt) : Value := .agg #[.int .i64 x.v, .slice h.A x.w.length h.c, .bool x.g]
abbrev Nts := List Nt
structure NtsH where
  A : Option Addr
  c : Nat
deriving Inhabited
abbrev NtsV (h : NtsH) (o : Nts) : Value := .slice h.A o.length h.c
abbrev Nss := List (List Nt)
structure NssH where
  A : Option Addr
  c : Nat
deriving Inhabited
abbrev NssV (h : NssH) (o : Nss) : Value := .slice h.A o.length h.c

/-! ### lengths -/
/-- What the laws' sizes count: a note each, and the numbers of its view. -/
def tN (o : Nts) : Nat := (o.map fun x => x.w.length + 1).sum
def tNN (o : Nss) : Nat := (o.map fun r => tN r + 1).sum
@[simp] theorem tN_nil : tN [] = 0 := rfl
theorem tN_cons (x : Nt) (r : Nts) : tN (x :: r) = x.w.length + 1 + tN r := by simp [tN]
@[simp] theorem tNN_nil : tNN [] = 0 := rfl
theorem tNN_cons (x : Nts) (r : Nss) : tNN (x :: r) = tN x + 1 + tNN r := by simp [tNN]
theorem tN_len (o : Nts) : o.length ≤ tN o := by
  induction o with
  | nil => simp
  | cons x r ih => rw [tN_cons]; simp; omega
theorem tNN_len (o : Nss) : o.length ≤ tNN o := by
  induction o with
  | nil => simp
  | cons x r ih => rw [tNN_cons]; simp; omega
theorem tN_mem {o : Nts} {x : Nt} (h : x ∈ o) : x.w.length + 1 ≤ tN o := by
  induction o with
  | nil => simp at h
  | cons y r ih =>
    rw [tN_cons]
    rcases List.mem_cons.1 h with rfl | h
    · omega
    · have := ih h; omega
theorem tNN_mem {o : Nss} {x : Nts} (h : x ∈ o) : tN x + 1 ≤ tNN o := by
  induction o with
  | nil => simp at h
  | cons y r ih =>
    rw [tNN_cons]
    rcases List.mem_cons.1 h with rfl | h
    · omega
    · have := ih h; omega
theorem tN_take_succ {o : Nts} {k : Nat} {x : Nt} (h : o[k]? = some x) : tN (o.take (k + 1)) = tN (o.take k) + (x.w.length + 1) := by
  rw [List.take_add_one, h]; simp [tN]
theorem tNN_take_succ {o : Nss} {k : Nat} {x : Nts} (h : o[k]? = some x) : tNN (o.take (k + 1)) = tNN (o.take k) + (tN x + 1) := by
  rw [List.take_add_one, h]; simp [tNN]
theorem tN_split (o : Nts) (k : Nat) : tN (o.take k) + tN (o.drop k) = tN o := by
  have : tN (o.take k ++ o.drop k) = tN (o.take k) + tN (o.drop k) := by unfold tN; rw [List.map_append, List.sum_append]
  rw [← this, List.take_append_drop]
theorem tNN_split (o : Nss) (k : Nat) : tNN (o.take k) + tNN (o.drop k) = tNN o := by
  have : tNN (o.take k ++ o.drop k) = tNN (o.take k) + tNN (o.drop k) := by unfold tNN; rw [List.map_append, List.sum_append]
  rw [← this, List.take_append_drop]
structure NtsL (o : Nts) (m : Nat) : Prop where
  l : o.length ≤ m
  e : ∀ x ∈ o, x.w.length ≤ m
structure NtsS (o : Nts) : Prop where
  t : tN o ≤ 1048576
theorem NtsS.l {o : Nts} (s : NtsS o) : NtsL o 1048576 := ⟨Nat.le_trans (tN_len o) s.t, fun x hx => by have := tN_mem hx; have := s.t; omega⟩
theorem NtsL.le {o : Nts} {m k : Nat} (s : NtsL o m) (h : m ≤ k) : NtsL o k := ⟨Nat.le_trans s.l h, fun x hx => Nat.le_trans (s.e x hx) h⟩
theorem NtsS_L {o : Nts} (s : NtsS o) : NtsL o maxLen := s.l.le (by unfold maxLen; omega)
structure NssL (o : Nss) (m : Nat) : Prop where
  l : o.length ≤ m
  e : ∀ r ∈ o, NtsL r m
structure NssS (o : Nss) : Prop where
  t : tNN o ≤ 1048576
theorem NssS.s {o : Nss} (s : NssS o) {r : Nts} (h : r ∈ o) : NtsS r := ⟨by have := tNN_mem h; have := s.t; omega⟩
theorem NssS_L {o : Nss} (s : NssS o) : NssL o maxLen := ⟨by have := tNN_len o; have := s.t; unfold maxLen; omega, fun r hr => NtsS_L (s.s hr)⟩

/-! ### memory -/
/-- A note's three cells lie from o on. -/
def NtAt (w : World) (b o : Nat) (k : NtH) (x : Nt) : Prop :=
  w.cell? ⟨b, o, none⟩ = some (.int .i64 x.v) ∧ w.cell? ⟨b, o + 1, none⟩ = some (.slice k.A x.w.length k.c) ∧ w.cell? ⟨b, o + 2, none⟩ = some (.bool x.g)
theorem NtAt.keep {w w' : World} {b p : Nat} {k : NtH} {x : Nt} (r : NtAt w b p k x) (hk : ∀ o, w'.cell? ⟨b, o, none⟩ = w.cell? ⟨b, o, none⟩) : NtAt w' b p k x := by
  obtain ⟨h0, h1, h2⟩ := r
  exact ⟨(hk _).trans h0, (hk _).trans h1, (hk _).trans h2⟩
structure NtsR (w : World) (B : Nat) (h : NtsH) (o : Nts) : Prop where
  r : 0 < o.length → ∃ b off, h.A = some ⟨b, off, none⟩ ∧ b < B ∧ ∀ (i : Nat) (x : Nt), o[i]? = some x → ∃ k, NtAt w b (off + i * 3) k x ∧ Vs w B k.A (ints x.w)
structure NssR (w : World) (B : Nat) (h : NssH) (o : Nss) : Prop where
  r : 0 < o.length → ∃ b off, h.A = some ⟨b, off, none⟩ ∧ b < B ∧ ∀ (i : Nat) (x : Nts), o[i]? = some x → ∃ k : NtsH, w.cell? ⟨b, off + i, none⟩ = some (.slice k.A x.length k.c) ∧ NtsR w B k x
/-- Notes in blocks from lo on, below hi. -/
structure NtsI (w : World) (lo hi : Nat) (h : NtsH) (o : Nts) : Prop where
  i : 0 < o.length → ∃ b off, h.A = some ⟨b, off, none⟩ ∧ lo ≤ b ∧ b < hi ∧ ∀ (i : Nat) (x : Nt), o[i]? = some x → ∃ k, NtAt w b (off + i * 3) k x ∧ InVs w lo hi k.A (ints x.w)
structure NssI (w : World) (lo hi : Nat) (h : NssH) (o : Nss) : Prop where
  i : 0 < o.length → ∃ b off, h.A = some ⟨b, off, none⟩ ∧ lo ≤ b ∧ b < hi ∧ ∀ (i : Nat) (x : Nts), o[i]? = some x → ∃ k : NtsH, w.cell? ⟨b, off + i, none⟩ = some (.slice k.A x.length k.c) ∧ NtsI w lo hi k x
/-- A note's cells among those of a block. -/
def NtC (cs : Array Value) (o : Nat) (k : NtH) (x : Nt) : Prop :=
  cs[o]? = some (.int .i64 x.v) ∧ cs[o + 1]? = some (.slice k.A x.w.length k.c) ∧ cs[o + 2]? = some (.bool x.g)
theorem NtC.at_ {w : World} {g o : Nat} {t : TypeId} {cs : Array Value} {k : NtH} {x : Nt} (h : NtC cs o k x) (hb : Bk w g t cs) : NtAt w g o k x := ⟨(hb.cell _).trans h.1, (hb.cell _).trans h.2.1, (hb.cell _).trans h.2.2⟩
/-- Notes of the call's own: each part lies behind the one ahead of it. -/
structure NtsO (w : World) (lo hi : Nat) (h : NtsH) (o : Nts) : Prop where
  o0 : 0 < o.length → ∃ (g : Nat) (cs : Array Value) (m : Nat → Nat) (H : Nat → NtH), h.A = some ⟨g, 0, none⟩ ∧ lo ≤ g ∧ g < m 0 ∧ (∀ i j, i ≤ j → m i ≤ m j) ∧ (∀ i, m i ≤ hi) ∧ Bk w g 127 cs ∧
    ∀ (i : Nat) (x : Nt), o[i]? = some x → NtC cs (i * 3) (H i) x ∧ OwnVs w (m i) (m (i + 1)) 3 (H i).A (ints x.w)
structure NssO (w : World) (lo hi : Nat) (h : NssH) (o : Nss) : Prop where
  o0 : 0 < o.length → ∃ (g : Nat) (cs : Array Value) (m : Nat → Nat) (H : Nat → NtsH), h.A = some ⟨g, 0, none⟩ ∧ lo ≤ g ∧ g < m 0 ∧ (∀ i j, i ≤ j → m i ≤ m j) ∧ (∀ i, m i ≤ hi) ∧ Bk w g 125 cs ∧
    ∀ (i : Nat) (x : Nts), o[i]? = some x → cs[i]? = some (.slice (H i).A x.length (H i).c) ∧ NtsO w (m i) (m (i + 1)) (H i) x
section
variable {w w' : World} {B B' B'' lo hi lo' hi' : Nat}
theorem NtsR.keep {h : NtsH} {o : Nts} (r : NtsR w B h o) (hB : B ≤ B'') (hk : ∀ b o, b < B → w'.cell? ⟨b, o, none⟩ = w.cell? ⟨b, o, none⟩) : NtsR w' B'' h o := ⟨fun hn => by
  obtain ⟨b, off, hA, hb, hx⟩ := r.r hn
  refine ⟨b, off, hA, by omega, fun i x hi => ?_⟩
  obtain ⟨k, h1, h2⟩ := hx i x hi
  exact ⟨k, h1.keep fun o => hk b o hb, h2.keep hB hk⟩⟩
theorem NssR.keep {h : NssH} {o : Nss} (r : NssR w B h o) (hB : B ≤ B'') (hk : ∀ b o, b < B → w'.cell? ⟨b, o, none⟩ = w.cell? ⟨b, o, none⟩) : NssR w' B'' h o := ⟨fun hn => by
  obtain ⟨b, off, hA, hb, hx⟩ := r.r hn
  refine ⟨b, off, hA, by omega, fun i x hi => ?_⟩
  obtain ⟨k, h1, h2⟩ := hx i x hi
  exact ⟨k, (hk b _ hb).trans h1, h2.keep hB hk⟩⟩
theorem NtsR.below {h : NtsH} {o : Nts} (r : NtsR w B h o) (hb : Below B' w w') (hB : B ≤ B') : NtsR w' B h o := r.keep (Nat.le_refl _) fun b o hlt => hb.cell (p := ⟨b, o, none⟩) (by show b < B'; omega)
theorem NtsR.up {h : NtsH} {o : Nts} (r : NtsR w B h o) (hb : Below B' w w') (hB : B ≤ B') (hB2 : B ≤ B'') : NtsR w' B'' h o := r.keep hB2 fun b o hlt => hb.cell (p := ⟨b, o, none⟩) (by show b < B'; omega)
theorem NssR.below {h : NssH} {o : Nss} (r : NssR w B h o) (hb : Below B' w w') (hB : B ≤ B') : NssR w' B h o := r.keep (Nat.le_refl _) fun b o hlt => hb.cell (p := ⟨b, o, none⟩) (by show b < B'; omega)
theorem NssR.up {h : NssH} {o : Nss} (r : NssR w B h o) (hb : Below B' w w') (hB : B ≤ B') (hB2 : B ≤ B'') : NssR w' B'' h o := r.keep hB2 fun b o hlt => hb.cell (p := ⟨b, o, none⟩) (by show b < B'; omega)
theorem NtsR.at_ {h : NtsH} {o : Nts} (r : NtsR w B h o) {i : Nat} (hi : i < o.length) : ∃ b off x k, h.A = some ⟨b, off, none⟩ ∧ b < B ∧ o[i]? = some x ∧ o.drop i = x :: o.drop (i + 1) ∧ NtAt w b (off + i * 3) k x ∧ Vs w B k.A (ints x.w) := by
  obtain ⟨b, off, hA, hb, hx⟩ := r.r (by omega)
  obtain ⟨x, h1, h2⟩ := drop_at hi
  obtain ⟨k, h3, h4⟩ := hx i x h1
  exact ⟨b, off, x, k, hA, hb, h1, h2, h3, h4⟩
theorem NssR.at_ {h : NssH} {o : Nss} (r : NssR w B h o) {i : Nat} (hi : i < o.length) : ∃ b off x, ∃ k : NtsH, h.A = some ⟨b, off, none⟩ ∧ b < B ∧ o[i]? = some x ∧ o.drop i = x :: o.drop (i + 1) ∧ w.cell? ⟨b, off + i, none⟩ = some (.slice k.A x.length k.c) ∧ NtsR w B k x := by
  obtain ⟨b, off, hA, hb, hx⟩ := r.r (by omega)
  obtain ⟨x, h1, h2⟩ := drop_at hi
  obtain ⟨k, h3, h4⟩ := hx i x h1
  exact ⟨b, off, x, k, hA, hb, h1, h2, h3, h4⟩
theorem NtsI.keep {h : NtsH} {o : Nts} (r : NtsI w lo hi h o) (hl : lo' ≤ lo) (hh : hi ≤ hi') (hk : ∀ i, lo ≤ i → i < hi → w'.heap[i]? = w.heap[i]?) : NtsI w' lo' hi' h o := ⟨fun hn => by
  obtain ⟨b, off, hA, h0, hb, hx⟩ := r.i hn
  refine ⟨b, off, hA, by omega, by omega, fun i x hi => ?_⟩
  obtain ⟨k, h1, h2⟩ := hx i x hi
  exact ⟨k, h1.keep fun o => World.cell?_of_block (a := ⟨b, o, none⟩) (hk b h0 hb), h2.keep hl hh hk⟩⟩
theorem NssI.keep {h : NssH} {o : Nss} (r : NssI w lo hi h o) (hl : lo' ≤ lo) (hh : hi ≤ hi') (hk : ∀ i, lo ≤ i → i < hi → w'.heap[i]? = w.heap[i]?) : NssI w' lo' hi' h o := ⟨fun hn => by
  obtain ⟨b, off, hA, h0, hb, hx⟩ := r.i hn
  refine ⟨b, off, hA, by omega, by omega, fun i x hi => ?_⟩
  obtain ⟨k, h1, h2⟩ := hx i x hi
  exact ⟨k, (World.cell?_of_block (a := ⟨b, off + i, none⟩) (hk b h0 hb)).trans h1, h2.keep hl hh hk⟩⟩
theorem NssI.below {B : Nat} {h : NssH} {o : Nss} (r : NssI w lo hi h o) (hb : Below B w w') (hB : hi ≤ B) : NssI w' lo hi h o := r.keep (Nat.le_refl _) (Nat.le_refl _) fun i _ hi => hb.block i (by omega)
theorem NtsI.below {B : Nat} {h : NtsH} {o : Nts} (r : NtsI w lo hi h o) (hb : Below B w w') (hB : hi ≤ B) : NtsI w' lo hi h o := r.keep (Nat.le_refl _) (Nat.le_refl _) fun i _ hi => hb.block i (by omega)
theorem NtsI.rd {h : NtsH} {o : Nts} (r : NtsI w lo hi h o) : NtsR w hi h o := ⟨fun hn => by
  obtain ⟨b, off, hA, _, hb, hx⟩ := r.i hn
  refine ⟨b, off, hA, hb, fun i x hi => ?_⟩
  obtain ⟨k, h1, h2⟩ := hx i x hi
  exact ⟨k, h1, h2.vs⟩⟩
theorem NssI.rd {h : NssH} {o : Nss} (r : NssI w lo hi h o) : NssR w hi h o := ⟨fun hn => by
  obtain ⟨b, off, hA, _, hb, hx⟩ := r.i hn
  refine ⟨b, off, hA, hb, fun i x hi => ?_⟩
  obtain ⟨k, h1, h2⟩ := hx i x hi
  exact ⟨k, h1, h2.rd⟩⟩
theorem NtsO.keep {h : NtsH} {o : Nts} (r : NtsO w lo hi h o) (hl : lo' ≤ lo) (hh : hi ≤ hi') (hk : ∀ i, lo ≤ i → i < hi → w'.heap[i]? = w.heap[i]?) : NtsO w' lo' hi' h o := ⟨fun hn => by
  obtain ⟨g, cs, m, H, hA, h0, h1, hm, hm2, hb, hx⟩ := r.o0 hn
  have := hm2 0
  refine ⟨g, cs, m, H, hA, by omega, h1, hm, fun i => Nat.le_trans (hm2 i) hh, (hk g h0 (by omega)).trans hb, fun i x hi => ?_⟩
  obtain ⟨h3, h4⟩ := hx i x hi
  have a1 := hm 0 i (Nat.zero_le _)
  have a2 := hm2 (i + 1)
  exact ⟨h3, h4.keep (Nat.le_refl _) (Nat.le_refl _) fun q p1 p2 => hk q (by omega) (by omega)⟩⟩
theorem NssO.keep {h : NssH} {o : Nss} (r : NssO w lo hi h o) (hl : lo' ≤ lo) (hh : hi ≤ hi') (hk : ∀ i, lo ≤ i → i < hi → w'.heap[i]? = w.heap[i]?) : NssO w' lo' hi' h o := ⟨fun hn => by
  obtain ⟨g, cs, m, H, hA, h0, h1, hm, hm2, hb, hx⟩ := r.o0 hn
  have := hm2 0
  refine ⟨g, cs, m, H, hA, by omega, h1, hm, fun i => Nat.le_trans (hm2 i) hh, (hk g h0 (by omega)).trans hb, fun i x hi => ?_⟩
  obtain ⟨h3, h4⟩ := hx i x hi
  have a1 := hm 0 i (Nat.zero_le _)
  have a2 := hm2 (i + 1)
  exact ⟨h3, h4.keep (Nat.le_refl _) (Nat.le_refl _) fun q p1 p2 => hk q (by omega) (by omega)⟩⟩
theorem NtsO.below {B : Nat} {h : NtsH} {o : Nts} (r : NtsO w lo hi h o) (hb : Below B w w') (hB : hi ≤ B) : NtsO w' lo hi h o := r.keep (Nat.le_refl _) (Nat.le_refl _) fun i _ hi => hb.block i (by omega)
theorem NssO.below {B : Nat} {h : NssH} {o : Nss} (r : NssO w lo hi h o) (hb : Below B w w') (hB : hi ≤ B) : NssO w' lo hi h o := r.keep (Nat.le_refl _) (Nat.le_refl _) fun i _ hi => hb.block i (by omega)
theorem NtsO.in_ {h : NtsH} {o : Nts} (r : NtsO w lo hi h o) : NtsI w lo hi h o := ⟨fun hn => by
  obtain ⟨g, cs, m, H, hA, h0, h1, hm, hm2, hb, hx⟩ := r.o0 hn
  have := hm2 0
  refine ⟨g, 0, hA, h0, by omega, fun i x hix => ?_⟩
  obtain ⟨h3, h4⟩ := hx i x hix
  have a1 := hm 0 i (Nat.zero_le _)
  rw [Nat.zero_add]
  exact ⟨H i, h3.at_ hb, (h4.more (lo' := lo) (hi' := hi) (by omega) (hm2 _)).in_⟩⟩
theorem NssO.in_ {h : NssH} {o : Nss} (r : NssO w lo hi h o) : NssI w lo hi h o := ⟨fun hn => by
  obtain ⟨g, cs, m, H, hA, h0, h1, hm, hm2, hb, hx⟩ := r.o0 hn
  have := hm2 0
  refine ⟨g, 0, hA, h0, by omega, fun i x hix => ?_⟩
  obtain ⟨h3, h4⟩ := hx i x hix
  have a1 := hm 0 i (Nat.zero_le _)
  rw [Nat.zero_add]
  exact ⟨H i, (hb.cell i).trans h3, (h4.keep (lo' := lo) (hi' := hi) (w' := w) (by omega) (hm2 _) fun _ _ _ => rfl).in_⟩⟩
theorem NssO.rd {h : NssH} {o : Nss} (r : NssO w lo hi h o) : NssR w hi h o := r.in_.rd
theorem NtsO.rd {h : NtsH} {o : Nts} (r : NtsO w lo hi h o) : NtsR w hi h o := r.in_.rd
theorem NtsO.nil_ (w : World) (lo hi : Nat) (h : NtsH) : NtsO w lo hi h [] := ⟨fun hn => absurd hn (by simp)⟩
theorem NssO.nil_ (w : World) (lo hi : Nat) (h : NssH) : NssO w lo hi h [] := ⟨fun hn => absurd hn (by simp)⟩
theorem NssI.nil_ (w : World) (lo hi : Nat) (h : NssH) : NssI w lo hi h [] := ⟨fun hn => absurd hn (by simp)⟩
end

/-! ### sizes -/
theorem sz1_neg {a : Int} {n : Nat} (h : a - n < 0) : sz1 a n = -1 := by unfold sz1; rw [if_pos h]
theorem sz1_pos {a : Int} {n : Nat} (h : ¬ a - n < 0) : sz1 a n = a - n := by unfold sz1; rw [if_neg h]
theorem szNt_any (h : NtH) (x : Nt) (left : Int) (w : World) (hL : x.w.length ≤ maxLen) (h0 : 0 ≤ left) (h1 : left ≤ 1048576) (r : Int) (hr : Hid (sz1 left x.w.length = r)) :
    Calls Try.prog 122 #[NtV h x, .int .i64 left] w fun e w' => e = .returned (.int .i64 r) ∧ Below w.heap.size w w' := by
  have hge : -1 ≤ r ∧ r ≤ left := by rw [← hr.out]; unfold sz1; split <;> omega
  have hneg : Hid (r < 0 → r = -1) := Lib.hid (by omega)
  by_cases hs : r < 0
  all_goals
    go_enter Try.func122, Try.ntmps122
    go_wp2_with fail
    refine (szInt_any' _ _ _ _ _ hL (by omega) (by omega) _ hr).mono ?_
    rintro e w' ⟨rfl, rfl⟩
    go_wp2
    go_ret
    first | exact ⟨rfl, by go_grown⟩ | exact ⟨by rw [hneg.out hs]; rfl, by go_grown⟩
theorem szNts_any (h : NtsH) (o : Nts) (left : Int) (w : World) (B : Nat) (hR : NtsR w B h o) (hB : B ≤ w.heap.size) (hL : NtsL o maxLen) (h0 : 0 ≤ left) (h1 : left ≤ 1048576) (r : Int) (hr : Hid (sz1 left (tN o) = r)) :
    Calls Try.prog 79 #[NtsV h o, .int .i64 left] w fun e w' => e = .returned (.int .i64 r) ∧ Below w.heap.size w w' := by
  obtain ⟨A, c⟩ := h
  show Calls Try.prog 79 #[.slice A o.length c, .int .i64 left] w _
  have hn := hL.l
  unfold maxLen at hn
  have HL := Lib.hid hL.e
  clear hL
  have htl := tN_len o
  by_cases hs : left - o.length < 0
  · have hfin : Hid (r = -1) := Lib.hid (by rw [← hr.out]; exact sz1_neg (by omega))
    clear hr
    go_enter Try.func79, Try.ntmps79
    go_wp2
    go_ret
    exact ⟨by rw [hfin.out]; rfl, Below.refl _ _⟩
  · go_enter Try.func79, Try.ntmps79
    go_wp2
    go_loopw [1, 5] (fun l i wr => ∃ (k : Nat) (lf : Int), k ≤ o.length ∧ i = .int .i64 k ∧ l = .int .i64 lf ∧ 0 ≤ lf ∧ lf ≤ 1048576 ∧ Below w.heap.size w wr ∧ Hid (lf + tN (o.take k) + (o.drop k).length = left)) (fun _ i _ => o.length - (intOf i).toNat)
    case atStart => exact ⟨0, _, Nat.zero_le _, rfl, rfl, by omega, by omega, Below.refl _ _, Lib.hid (by simp)⟩
    case round =>
      obtain ⟨k, lf, hk, rfl, rfl, hl0, hl1, hbel, hrest⟩ := hrel
      by_cases hlt : k < o.length
      · obtain ⟨b, off, x, q, hA, hb, hx, hd, ⟨c0, c1, c2⟩, hrx⟩ := (hR.below hbel hB).at_ hlt
        have HLx := Lib.hid (HL.out x (List.mem_of_getElem? hx))
        have hz := hbel.size
        have Hb := Lib.hid hbel
        obtain ⟨z, hz0⟩ : ∃ z, sz1 lf x.w.length = z := ⟨_, rfl⟩
        have hge : -1 ≤ z ∧ z ≤ lf := by rw [← hz0]; unfold sz1; split <;> omega
        have hts := tN_take_succ hx
        have hsp := tN_split o (k + 1)
        have hlen := tN_len (o.drop (k + 1))
        have hr2 := hrest.out
        rw [hd, List.length_cons] at hr2
        have HZ := Lib.hid hz0
        have hA' : A = _ := hA
        subst hA'
        clear hA
        by_cases h2 : z < 0
        · have hneg : lf - x.w.length < 0 := by
            by_cases h3 : lf - x.w.length < 0
            · exact h3
            · rw [sz1_pos h3] at hz0; omega
          have hlast : Hid (r = -1) := Lib.hid (by rw [← hr.out]; exact sz1_neg (by omega))
          clear hd hx hrx hz0 hrest hbel hr2 hts hsp hlen hr htl hneg
          go_wp2_with fail
          refine (szNt_any q x lf wr HLx.out hl0 hl1 z HZ).mono ?_
          rintro e w1 ⟨rfl, hb1⟩
          have hB1 := below_on Hb.out hb1
          clear hb1
          go_wp2
          go_ret
          exact ⟨by rw [hlast.out]; rfl, hB1⟩
        · have hzv : z = lf - x.w.length := by
            by_cases h3 : lf - x.w.length < 0
            · rw [sz1_neg h3] at hz0; omega
            · rw [sz1_pos h3] at hz0; omega
          have hnext : Hid (z + tN (o.take (k + 1)) + (o.drop (k + 1)).length = left) := Lib.hid (by omega)
          clear hd hx hrx hz0 hrest hbel hr2 hts hsp hlen htl hzv
          go_wp2_with fail
          refine (szNt_any q x lf wr HLx.out hl0 hl1 z HZ).mono ?_
          rintro e w1 ⟨rfl, hb1⟩
          have hB1 := below_on Hb.out hb1
          clear hb1
          go_wp2
          go_roundw
          case rel => exact ⟨k + 1, _, by omega, by go_num, rfl, by omega, by omega, hB1, hnext⟩
          case measure => simp [intOf]; omega
      · have hkl : k = o.length := by omega
        have hr2 := hrest.out
        rw [hkl, List.take_length, List.drop_eq_nil_of_le (Nat.le_refl _)] at hr2
        simp only [List.length_nil] at hr2
        have hlast : Hid (r = lf) := Lib.hid (by rw [← hr.out]; rw [sz1_pos (by omega)]; omega)
        clear hr2 hrest hr
        go_wp2
        go_ret
        exact ⟨by rw [hlast.out]; rfl, hbel⟩
theorem szNss_any (h : NssH) (o : Nss) (left : Int) (w : World) (B : Nat) (hR : NssR w B h o) (hB : B ≤ w.heap.size) (hL : NssL o maxLen) (h0 : 0 ≤ left) (h1 : left ≤ 1048576) (r : Int) (hr : Hid (sz1 left (tNN o) = r)) :
    Calls Try.prog 43 #[NssV h o, .int .i64 left] w fun e w' => e = .returned (.int .i64 r) ∧ Below w.heap.size w w' := by
  obtain ⟨A, c⟩ := h
  show Calls Try.prog 43 #[.slice A o.length c, .int .i64 left] w _
  have hn := hL.l
  unfold maxLen at hn
  have HL := Lib.hid hL.e
  clear hL
  have htl := tNN_len o
  by_cases hs : left - o.length < 0
  · have hfin : Hid (r = -1) := Lib.hid (by rw [← hr.out]; exact sz1_neg (by omega))
    clear hr
    go_enter Try.func43, Try.ntmps43
    go_wp2
    go_ret
    exact ⟨by rw [hfin.out]; rfl, Below.refl _ _⟩
  · go_enter Try.func43, Try.ntmps43
    go_wp2
    go_loopw [1, 5] (fun l i wr => ∃ (k : Nat) (lf : Int), k ≤ o.length ∧ i = .int .i64 k ∧ l = .int .i64 lf ∧ 0 ≤ lf ∧ lf ≤ 1048576 ∧ Below w.heap.size w wr ∧ Hid (lf + tNN (o.take k) + (o.drop k).length = left)) (fun _ i _ => o.length - (intOf i).toNat)
    case atStart => exact ⟨0, _, Nat.zero_le _, rfl, rfl, by omega, by omega, Below.refl _ _, Lib.hid (by simp)⟩
    case round =>
      obtain ⟨k, lf, hk, rfl, rfl, hl0, hl1, hbel, hrest⟩ := hrel
      by_cases hlt : k < o.length
      · obtain ⟨b, off, x, q, hA, hb, hx, hd, c0, hrx⟩ := (hR.below hbel hB).at_ hlt
        have HLx := Lib.hid (HL.out x (List.mem_of_getElem? hx))
        have hz := hbel.size
        have Hb := Lib.hid hbel
        have Hrx := Lib.hid hrx
        obtain ⟨z, hz0⟩ : ∃ z, sz1 lf (tN x) = z := ⟨_, rfl⟩
        have hge : -1 ≤ z ∧ z ≤ lf := by rw [← hz0]; unfold sz1; split <;> omega
        have hts := tNN_take_succ hx
        have hsp := tNN_split o (k + 1)
        have hlen := tNN_len (o.drop (k + 1))
        have hr2 := hrest.out
        rw [hd, List.length_cons] at hr2
        have HZ := Lib.hid hz0
        have hA' : A = _ := hA
        subst hA'
        clear hA
        by_cases h2 : z < 0
        · have hneg : lf - tN x < 0 := by
            by_cases h3 : lf - tN x < 0
            · exact h3
            · rw [sz1_pos h3] at hz0; omega
          have hlast : Hid (r = -1) := Lib.hid (by rw [← hr.out]; exact sz1_neg (by omega))
          clear hd hx hrx hz0 hrest hbel hr2 hts hsp hlen hr htl hneg
          go_wp2_with fail
          refine (szNts_any q x lf wr B Hrx.out (by omega) HLx.out hl0 hl1 z HZ).mono ?_
          rintro e w1 ⟨rfl, hb1⟩
          have hB1 := below_on Hb.out hb1
          clear hb1
          go_wp2
          go_ret
          exact ⟨by rw [hlast.out]; rfl, hB1⟩
        · have hzv : z = lf - tN x := by
            by_cases h3 : lf - tN x < 0
            · rw [sz1_neg h3] at hz0; omega
            · rw [sz1_pos h3] at hz0; omega
          have hnext : Hid (z + tNN (o.take (k + 1)) + (o.drop (k + 1)).length = left) := Lib.hid (by omega)
          clear hd hx hrx hz0 hrest hbel hr2 hts hsp hlen htl hzv
          go_wp2_with fail
          refine (szNts_any q x lf wr B Hrx.out (by omega) HLx.out hl0 hl1 z HZ).mono ?_
          rintro e w1 ⟨rfl, hb1⟩
          have hB1 := below_on Hb.out hb1
          clear hb1
          go_wp2
          go_roundw
          case rel => exact ⟨k + 1, _, by omega, by go_num, rfl, by omega, by omega, hB1, hnext⟩
          case measure => simp [intOf]; omega
      · have hkl : k = o.length := by omega
        have hr2 := hrest.out
        rw [hkl, List.take_length, List.drop_eq_nil_of_le (Nat.le_refl _)] at hr2
        simp only [List.length_nil] at hr2
        have hlast : Hid (r = lf) := Lib.hid (by rw [← hr.out]; rw [sz1_pos (by omega)]; omega)
        clear hr2 hrest hr
        go_wp2
        go_ret
        exact ⟨by rw [hlast.out]; rfl, hbel⟩
end Go.Proofs.Ytaghidaamcnpkab
