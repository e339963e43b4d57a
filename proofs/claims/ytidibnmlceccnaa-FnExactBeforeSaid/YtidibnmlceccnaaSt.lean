/-
  States as records of lists: how they lie in memory, and contracts of the laws' functions over them: sizes, copies, equality, marks, held marks.
-/
import Derived.Test.YtidibnmlceccnaaVec
import Derived.Test.YtidibnmlceccnaaRec0
namespace Go.Proofs.Ytidibnmlceccnaa
open Go.RowKit Pl
set_option maxHeartbeats 1000000
set_option maxRecDepth 100000
set_option linter.unusedVariables false

structure Sta where
  f0 : List Int
  f1 : List Int
  f2 : List Int
  f3 : List Int
  f4 : List Int
deriving DecidableEq, Inhabited
/-- Where a record's lists lie, and their room. -/
structure StaH where
  A0 : Option Addr
  A1 : Option Addr
  A2 : Option Addr
  A3 : Option Addr
  A4 : Option Addr
  c0 : Nat
  c1 : Nat
  c2 : Nat
  c3 : Nat
  c4 : Nat
deriving Inhabited
abbrev StaV (h : StaH) (o : Sta) : Value := .agg #[.slice h.A0 o.f0.length h.c0, .slice h.A1 o.f1.length h.c1, .slice h.A2 o.f2.length h.c2, .slice h.A3 o.f3.length h.c3, .slice h.A4 o.f4.length h.c4]
def StaN : StaH := ⟨none, none, none, none, none, 0, 0, 0, 0, 0⟩
def StaE : Sta := ⟨[], [], [], [], []⟩
structure StaR (w : World) (B : Nat) (h : StaH) (o : Sta) : Prop where
  r0 : Vs w B h.A0 (ints o.f0)
  r1 : Vs w B h.A1 (ints o.f1)
  r2 : Vs w B h.A2 (ints o.f2)
  r3 : Vs w B h.A3 (ints o.f3)
  r4 : Vs w B h.A4 (ints o.f4)
structure StaL (o : Sta) (m : Nat) : Prop where
  l0 : o.f0.length ≤ m
  l1 : o.f1.length ≤ m
  l2 : o.f2.length ≤ m
  l3 : o.f3.length ≤ m
  l4 : o.f4.length ≤ m
structure StaI (w : World) (lo hi : Nat) (h : StaH) (o : Sta) : Prop where
  i0 : InVs w lo hi h.A0 (ints o.f0)
  i1 : InVs w lo hi h.A1 (ints o.f1)
  i2 : InVs w lo hi h.A2 (ints o.f2)
  i3 : InVs w lo hi h.A3 (ints o.f3)
  i4 : InVs w lo hi h.A4 (ints o.f4)
/-- A record of the call's own: its lists lie in blocks that no two of them share. -/
structure StaO (w : World) (lo hi : Nat) (h : StaH) (o : Sta) : Prop where
  o0 : OwnVs w lo hi 3 h.A0 (ints o.f0)
  o1 : OwnVs w lo hi 3 h.A1 (ints o.f1)
  o2 : OwnVs w lo hi 3 h.A2 (ints o.f2)
  o3 : OwnVs w lo hi 3 h.A3 (ints o.f3)
  o4 : OwnVs w lo hi 3 h.A4 (ints o.f4)
  d01 : 0 < o.f0.length → 0 < o.f1.length → h.A0 ≠ h.A1
  d02 : 0 < o.f0.length → 0 < o.f2.length → h.A0 ≠ h.A2
  d03 : 0 < o.f0.length → 0 < o.f3.length → h.A0 ≠ h.A3
  d04 : 0 < o.f0.length → 0 < o.f4.length → h.A0 ≠ h.A4
  d12 : 0 < o.f1.length → 0 < o.f2.length → h.A1 ≠ h.A2
  d13 : 0 < o.f1.length → 0 < o.f3.length → h.A1 ≠ h.A3
  d14 : 0 < o.f1.length → 0 < o.f4.length → h.A1 ≠ h.A4
  d23 : 0 < o.f2.length → 0 < o.f3.length → h.A2 ≠ h.A3
  d24 : 0 < o.f2.length → 0 < o.f4.length → h.A2 ≠ h.A4
  d34 : 0 < o.f3.length → 0 < o.f4.length → h.A3 ≠ h.A4
section
variable {w w' : World} {B B' B'' lo hi lo' hi' : Nat} {h : StaH} {o : Sta}
theorem StaR.below (r : StaR w B h o) (hb : Below B' w w') (hB : B ≤ B') : StaR w' B h o := ⟨r.r0.below hb hB, r.r1.below hb hB, r.r2.below hb hB, r.r3.below hb hB, r.r4.below hb hB⟩
theorem StaR.up (r : StaR w B h o) (hb : Below B' w w') (hB : B ≤ B') (hB2 : B ≤ B'') : StaR w' B'' h o := ⟨r.r0.up hb hB hB2, r.r1.up hb hB hB2, r.r2.up hb hB hB2, r.r3.up hb hB hB2, r.r4.up hb hB hB2⟩
theorem StaR.keepV (r : StaR w B h o) (hk : ∀ b o, b < B → w'.cell? ⟨b, o, none⟩ = w.cell? ⟨b, o, none⟩) : StaR w' B h o := ⟨r.r0.keepV hk, r.r1.keepV hk, r.r2.keepV hk, r.r3.keepV hk, r.r4.keepV hk⟩
theorem StaI.keep (r : StaI w lo hi h o) (hl : lo' ≤ lo) (hh : hi ≤ hi') (hk : ∀ i, lo ≤ i → i < hi → w'.heap[i]? = w.heap[i]?) : StaI w' lo' hi' h o := ⟨r.i0.keep hl hh hk, r.i1.keep hl hh hk, r.i2.keep hl hh hk, r.i3.keep hl hh hk, r.i4.keep hl hh hk⟩
theorem StaI.below (r : StaI w lo hi h o) (hb : Below B w w') (hB : hi ≤ B) : StaI w' lo hi h o := ⟨r.i0.below hb hB, r.i1.below hb hB, r.i2.below hb hB, r.i3.below hb hB, r.i4.below hb hB⟩
theorem StaI.rd (r : StaI w lo hi h o) : StaR w hi h o := ⟨r.i0.vs, r.i1.vs, r.i2.vs, r.i3.vs, r.i4.vs⟩
theorem StaO.keep (r : StaO w lo hi h o) (hl : lo' ≤ lo) (hh : hi ≤ hi') (hk : ∀ i, lo ≤ i → i < hi → w'.heap[i]? = w.heap[i]?) : StaO w' lo' hi' h o := ⟨r.o0.keep hl hh hk, r.o1.keep hl hh hk, r.o2.keep hl hh hk, r.o3.keep hl hh hk, r.o4.keep hl hh hk, r.d01, r.d02, r.d03, r.d04, r.d12, r.d13, r.d14, r.d23, r.d24, r.d34⟩
theorem StaO.below (r : StaO w lo hi h o) (hb : Below B w w') (hB : hi ≤ B) : StaO w' lo hi h o := ⟨r.o0.below hb hB, r.o1.below hb hB, r.o2.below hb hB, r.o3.below hb hB, r.o4.below hb hB, r.d01, r.d02, r.d03, r.d04, r.d12, r.d13, r.d14, r.d23, r.d24, r.d34⟩
theorem StaO.in_ (r : StaO w lo hi h o) : StaI w lo hi h o := ⟨r.o0.in_, r.o1.in_, r.o2.in_, r.o3.in_, r.o4.in_⟩
theorem StaO.rd (r : StaO w lo hi h o) : StaR w hi h o := r.in_.rd
theorem StaO.none_ (w : World) (lo hi : Nat) (h : StaH) : StaO w lo hi h StaE := ⟨OwnVs.nil _ _ _ _ _, OwnVs.nil _ _ _ _ _, OwnVs.nil _ _ _ _ _, OwnVs.nil _ _ _ _ _, OwnVs.nil _ _ _ _ _, by intro a; simp [StaE] at a, by intro a; simp [StaE] at a, by intro a; simp [StaE] at a, by intro a; simp [StaE] at a, by intro a; simp [StaE] at a, by intro a; simp [StaE] at a, by intro a; simp [StaE] at a, by intro a; simp [StaE] at a, by intro a; simp [StaE] at a, by intro a; simp [StaE] at a⟩
theorem StaI.none_ (w : World) (lo hi : Nat) (h : StaH) : StaI w lo hi h StaE := (StaO.none_ w lo hi h).in_
theorem StaL.le {m k : Nat} (l : StaL o m) (hm : m ≤ k) : StaL o k := ⟨Nat.le_trans l.l0 hm, Nat.le_trans l.l1 hm, Nat.le_trans l.l2 hm, Nat.le_trans l.l3 hm, Nat.le_trans l.l4 hm⟩
end
/-- what the size function comes to -/
def szSta (a : Int) (o : Sta) : Int := szN a [o.f0.length, o.f1.length, o.f2.length, o.f3.length, o.f4.length]
theorem szSta_ge (a : Int) (o : Sta) (ha : 0 ≤ a) : -1 ≤ szSta a o ∧ szSta a o ≤ a := szN_ge _ _ ha
theorem szSta_len {a : Int} {o : Sta} (h : 0 ≤ szSta a o) (ha : 0 ≤ a) : (o.f0.length : Int) + (o.f1.length : Int) + (o.f2.length : Int) + (o.f3.length : Int) + (o.f4.length : Int) ≤ a := by
  have := szN_len _ _ h ha
  simp at this
  omega
theorem szSta_small {a : Int} {o : Sta} (h : 0 ≤ szSta a o) (ha : 0 ≤ a) (ha2 : a ≤ 1048576) : StaL o 1048576 := by
  have := szSta_len h ha
  exact ⟨by omega, by omega, by omega, by omega, by omega⟩
abbrev StaS (o : Sta) : Prop := StaL o 1048576
theorem StaS_L {o : Sta} (s : StaS o) : StaL o maxLen := StaL.le s (by unfold maxLen; omega)
/-- What a copy comes to. -/
def ToSta (w : World) (o : Sta) (e : Ending) (w' : World) : Prop := ∃ h, e = .returned (StaV h o) ∧ Below w.heap.size w w' ∧ w.heap.size < w'.heap.size ∧ StaO w' w.heap.size w'.heap.size h o
/-- An answer of a record and a truth: the record is the call's own. -/
def AnsSta (w : World) (o : Sta) (r : Bool) (e : Ending) (w' : World) : Prop := ∃ h, e = .returned (.tuple #[StaV h o, .bool r]) ∧ Below w.heap.size w w' ∧ w.heap.size ≤ w'.heap.size ∧ StaO w' w.heap.size w'.heap.size h o
def AnsISta (w : World) (o : Sta) (r : Bool) (e : Ending) (w' : World) : Prop := ∃ h, e = .returned (.tuple #[StaV h o, .bool r]) ∧ Below w.heap.size w w' ∧ w.heap.size ≤ w'.heap.size ∧ StaI w' w.heap.size w'.heap.size h o
theorem AnsSta.in_ {w w' : World} {o : Sta} {r : Bool} {e : Ending} (h : AnsSta w o r e w') : AnsISta w o r e w' := by
  obtain ⟨k, h1, h2, h3, h4⟩ := h
  exact ⟨k, h1, h2, h3, h4.in_⟩
/-- A record that marks have been written over. -/
def upSta (K : Int) (o : Sta) : Sta := ⟨upI (K) o.f0.length, upI (K + (o.f0.length : Int)) o.f1.length, upI (K + (o.f0.length : Int) + (o.f1.length : Int)) o.f2.length, upI (K + (o.f0.length : Int) + (o.f1.length : Int) + (o.f2.length : Int)) o.f3.length, upI (K + (o.f0.length : Int) + (o.f1.length : Int) + (o.f2.length : Int) + (o.f3.length : Int)) o.f4.length⟩
def allSta (o : Sta) : Int := (o.f0.length : Int) + (o.f1.length : Int) + (o.f2.length : Int) + (o.f3.length : Int) + (o.f4.length : Int)
end Go.Proofs.Ytidibnmlceccnaa
