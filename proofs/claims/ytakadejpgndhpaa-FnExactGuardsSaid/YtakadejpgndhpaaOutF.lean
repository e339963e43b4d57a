/-
  Plain facts on the word of an outcome.
-/
import Derived.Test.YtakadejpgndhpaaVec
import Derived.Test.YtakadejpgndhpaaPg
import Derived.Test.YtakadejpgndhpaaSt
import Derived.Test.YtakadejpgndhpaaFrame
import Derived.Test.YtakadejpgndhpaaDoZ
namespace Go.Proofs.Ytakadejpgndhpaa
open Go.RowKit Pl
set_option maxHeartbeats 1000000
set_option maxRecDepth 100000
set_option linter.unusedVariables false

structure Oc where
  f0 : List Int
  f1 : List Int
  f2 : List Bool
deriving DecidableEq, Inhabited
/-- Where a record's lists lie, and their room. -/
structure OcH where
  A0 : Option Addr
  A1 : Option Addr
  A2 : Option Addr
  c0 : Nat
  c1 : Nat
  c2 : Nat
deriving Inhabited
abbrev OcV (h : OcH) (o : Oc) : Value := .agg #[.slice h.A0 o.f0.length h.c0, .slice h.A1 o.f1.length h.c1, .slice h.A2 o.f2.length h.c2]
def OcN : OcH := ⟨none, none, none, 0, 0, 0⟩
def OcE : Oc := ⟨[], [], []⟩
structure OcR (w : World) (B : Nat) (h : OcH) (o : Oc) : Prop where
  r0 : Vs w B h.A0 (ints o.f0)
  r1 : Vs w B h.A1 (ints o.f1)
  r2 : Vs w B h.A2 (bools o.f2)
structure OcL (o : Oc) (m : Nat) : Prop where
  l0 : o.f0.length ≤ m
  l1 : o.f1.length ≤ m
  l2 : o.f2.length ≤ m
structure OcI (w : World) (lo hi : Nat) (h : OcH) (o : Oc) : Prop where
  i0 : InVs w lo hi h.A0 (ints o.f0)
  i1 : InVs w lo hi h.A1 (ints o.f1)
  i2 : InVs w lo hi h.A2 (bools o.f2)
/-- A record of the call's own: its lists lie in blocks that no two of them share. -/
structure OcO (w : World) (lo hi : Nat) (h : OcH) (o : Oc) : Prop where
  o0 : OwnVs w lo hi 3 h.A0 (ints o.f0)
  o1 : OwnVs w lo hi 3 h.A1 (ints o.f1)
  o2 : OwnVs w lo hi 4 h.A2 (bools o.f2)
  d01 : 0 < o.f0.length → 0 < o.f1.length → h.A0 ≠ h.A1
  d02 : 0 < o.f0.length → 0 < o.f2.length → h.A0 ≠ h.A2
  d12 : 0 < o.f1.length → 0 < o.f2.length → h.A1 ≠ h.A2
section
variable {w w' : World} {B B' B'' lo hi lo' hi' : Nat} {h : OcH} {o : Oc}
theorem OcR.below (r : OcR w B h o) (hb : Below B' w w') (hB : B ≤ B') : OcR w' B h o := ⟨r.r0.below hb hB, r.r1.below hb hB, r.r2.below hb hB⟩
theorem OcR.up (r : OcR w B h o) (hb : Below B' w w') (hB : B ≤ B') (hB2 : B ≤ B'') : OcR w' B'' h o := ⟨r.r0.up hb hB hB2, r.r1.up hb hB hB2, r.r2.up hb hB hB2⟩
theorem OcR.keepV (r : OcR w B h o) (hk : ∀ b o, b < B → w'.cell? ⟨b, o, none⟩ = w.cell? ⟨b, o, none⟩) : OcR w' B h o := ⟨r.r0.keepV hk, r.r1.keepV hk, r.r2.keepV hk⟩
theorem OcI.keep (r : OcI w lo hi h o) (hl : lo' ≤ lo) (hh : hi ≤ hi') (hk : ∀ i, lo ≤ i → i < hi → w'.heap[i]? = w.heap[i]?) : OcI w' lo' hi' h o := ⟨r.i0.keep hl hh hk, r.i1.keep hl hh hk, r.i2.keep hl hh hk⟩
theorem OcI.below (r : OcI w lo hi h o) (hb : Below B w w') (hB : hi ≤ B) : OcI w' lo hi h o := ⟨r.i0.below hb hB, r.i1.below hb hB, r.i2.below hb hB⟩
theorem OcI.rd (r : OcI w lo hi h o) : OcR w hi h o := ⟨r.i0.vs, r.i1.vs, r.i2.vs⟩
theorem OcO.keep (r : OcO w lo hi h o) (hl : lo' ≤ lo) (hh : hi ≤ hi') (hk : ∀ i, lo ≤ i → i < hi → w'.heap[i]? = w.heap[i]?) : OcO w' lo' hi' h o := ⟨r.o0.keep hl hh hk, r.o1.keep hl hh hk, r.o2.keep hl hh hk, r.d01, r.d02, r.d12⟩
theorem OcO.below (r : OcO w lo hi h o) (hb : Below B w w') (hB : hi ≤ B) : OcO w' lo hi h o := ⟨r.o0.below hb hB, r.o1.below hb hB, r.o2.below hb hB, r.d01, r.d02, r.d12⟩
theorem OcO.in_ (r : OcO w lo hi h o) : OcI w lo hi h o := ⟨r.o0.in_, r.o1.in_, r.o2.in_⟩
theorem OcO.rd (r : OcO w lo hi h o) : OcR w hi h o := r.in_.rd
theorem OcO.none_ (w : World) (lo hi : Nat) (h : OcH) : OcO w lo hi h OcE := ⟨OwnVs.nil _ _ _ _ _, OwnVs.nil _ _ _ _ _, OwnVs.nil _ _ _ _ _, by intro a; simp [OcE] at a, by intro a; simp [OcE] at a, by intro a; simp [OcE] at a⟩
theorem OcI.none_ (w : World) (lo hi : Nat) (h : OcH) : OcI w lo hi h OcE := (OcO.none_ w lo hi h).in_
theorem OcL.le {m k : Nat} (l : OcL o m) (hm : m ≤ k) : OcL o k := ⟨Nat.le_trans l.l0 hm, Nat.le_trans l.l1 hm, Nat.le_trans l.l2 hm⟩
end
/-- what the size function comes to -/
def szOc (a : Int) (o : Oc) : Int := szN a [o.f0.length, o.f1.length, o.f2.length]
theorem szOc_ge (a : Int) (o : Oc) (ha : 0 ≤ a) : -1 ≤ szOc a o ∧ szOc a o ≤ a := szN_ge _ _ ha
theorem szOc_len {a : Int} {o : Oc} (h : 0 ≤ szOc a o) (ha : 0 ≤ a) : (o.f0.length : Int) + (o.f1.length : Int) + (o.f2.length : Int) ≤ a := by
  have := szN_len _ _ h ha
  simp at this
  omega
theorem szOc_small {a : Int} {o : Oc} (h : 0 ≤ szOc a o) (ha : 0 ≤ a) (ha2 : a ≤ 1048576) : OcL o 1048576 := by
  have := szOc_len h ha
  exact ⟨by omega, by omega, by omega⟩
abbrev OcS (o : Oc) : Prop := OcL o 1048576
theorem OcS_L {o : Oc} (s : OcS o) : OcL o maxLen := OcL.le s (by unfold maxLen; omega)
/-- What a copy comes to. -/
def ToOc (w : World) (o : Oc) (e : Ending) (w' : World) : Prop := ∃ h, e = .returned (OcV h o) ∧ Below w.heap.size w w' ∧ w.heap.size < w'.heap.size ∧ OcO w' w.heap.size w'.heap.size h o
/-- An answer of a record and a truth: the record is the call's own. -/
def AnsOc (w : World) (o : Oc) (r : Bool) (e : Ending) (w' : World) : Prop := ∃ h, e = .returned (.tuple #[OcV h o, .bool r]) ∧ Below w.heap.size w w' ∧ w.heap.size ≤ w'.heap.size ∧ OcO w' w.heap.size w'.heap.size h o
def AnsIOc (w : World) (o : Oc) (r : Bool) (e : Ending) (w' : World) : Prop := ∃ h, e = .returned (.tuple #[OcV h o, .bool r]) ∧ Below w.heap.size w w' ∧ w.heap.size ≤ w'.heap.size ∧ OcI w' w.heap.size w'.heap.size h o
theorem AnsOc.in_ {w w' : World} {o : Oc} {r : Bool} {e : Ending} (h : AnsOc w o r e w') : AnsIOc w o r e w' := by
  obtain ⟨k, h1, h2, h3, h4⟩ := h
  exact ⟨k, h1, h2, h3, h4.in_⟩
theorem eqOc_any (h1 h2 : OcH) (o1 o2 : Oc) (w : World) (B : Nat) (r1 : OcR w B h1 o1) (r2 : OcR w B h2 o2) (hB : B ≤ w.heap.size) (L1 : OcL o1 maxLen) (L2 : OcL o2 maxLen) (r : Bool) (hr : Hid (decide (o1 = o2) = r)) :
    Calls Try.prog 68 #[OcV h1 o1, OcV h2 o2] w fun e w' => e = .returned (.bool r) ∧ Below w.heap.size w w' := by
  obtain ⟨l0, l1, l2⟩ := L1
  obtain ⟨m0, m1, m2⟩ := L2
  obtain ⟨W, hW⟩ : ∃ W, W = (w.alloc (.cells #[.slice h1.A0 o1.f0.length h1.c0, .slice h1.A1 o1.f1.length h1.c1, .slice h1.A2 o1.f2.length h1.c2] 75)).alloc (.cells #[.slice h2.A0 o2.f0.length h2.c0, .slice h2.A1 o2.f1.length h2.c1, .slice h2.A2 o2.f2.length h2.c2] 75) := ⟨_, rfl⟩
  have bW : Below w.heap.size w W := by rw [hW]; go_grown
  have k0 : Bk W w.heap.size 75 #[.slice h1.A0 o1.f0.length h1.c0, .slice h1.A1 o1.f1.length h1.c1, .slice h1.A2 o1.f2.length h1.c2] := by rw [hW]; exact (Bk.new w _ _).alloc _
  have k1 : Bk W (w.heap.size + 1) 75 #[.slice h2.A0 o2.f0.length h2.c0, .slice h2.A1 o2.f1.length h2.c1, .slice h2.A2 o2.f2.length h2.c2] := by
    rw [hW]; have := Bk.new (w.alloc (.cells #[.slice h1.A0 o1.f0.length h1.c0, .slice h1.A1 o1.f1.length h1.c1, .slice h1.A2 o1.f2.length h1.c2] 75)) #[.slice h2.A0 o2.f0.length h2.c0, .slice h2.A1 o2.f1.length h2.c1, .slice h2.A2 o2.f2.length h2.c2] 75
    rwa [World.size_alloc] at this
  have P0 := Lib.hid (r1.below bW hB)
  have Q0 := Lib.hid (r2.below bW hB)
  have K00 := Lib.hid k0
  have K10 := Lib.hid k1
  have B0 := Lib.hid bW
  have z0 := bW.size
  have HW := Lib.hid hW
  clear hW bW k0 k1 r1 r2
  by_cases q0 : o1.f0 = o2.f0
  rotate_left
  · have Y0 := Lib.hid q0
    have hfin : Hid (r = false) := Lib.hid (by rw [← hr.out]; exact decide_eq_false (fun e => Y0.out (by rw [e])))
    clear hr q0
    go_enter Try.func68, Try.ntmps68
    go_wp2_with fail
    rw [← HW.out]
    refine (eqInt_any h1.A0 h2.A0 o1.f0 o2.f0 h1.c0 h2.c0 W B P0.out.r0 Q0.out.r0 l0 m0 false (Lib.hid (by simpa using Y0.out))).mono ?_
    rintro e u1 ⟨rfl, hb⟩
    have B1 := Lib.hid (below_on B0.out hb)
    clear hb
    go_wp2
    go_ret
    exact ⟨by rw [hfin.out]; rfl, B1.out⟩
  have Y0 := Lib.hid q0
  clear q0
  by_cases q1 : o1.f1 = o2.f1
  rotate_left
  · have Y1 := Lib.hid q1
    have hfin : Hid (r = false) := Lib.hid (by rw [← hr.out]; exact decide_eq_false (fun e => Y1.out (by rw [e])))
    clear hr q1
    go_enter Try.func68, Try.ntmps68
    go_wp2_with fail
    rw [← HW.out]
    refine (eqInt_any h1.A0 h2.A0 o1.f0 o2.f0 h1.c0 h2.c0 W B P0.out.r0 Q0.out.r0 l0 m0 true (Lib.hid (by simpa using Y0.out))).mono ?_
    rintro e u1 ⟨rfl, hb⟩
    have B1 := Lib.hid (below_on B0.out hb)
    have P1 := Lib.hid (P0.out.below hb (by omega))
    have Q1 := Lib.hid (Q0.out.below hb (by omega))
    have K01 := Lib.hid (K00.out.below hb K00.out.lt)
    have K11 := Lib.hid (K10.out.below hb K10.out.lt)
    have z1 := hb.size
    have ca : u1.cell? ⟨w.heap.size, 1, none⟩ = some (.slice h1.A1 o1.f1.length h1.c1) := K01.out.cell 1
    have cb : u1.cell? ⟨w.heap.size + 1, 1, none⟩ = some (.slice h2.A1 o2.f1.length h2.c1) := K11.out.cell 1
    clear hb
    go_wp2_with fail
    refine (eqInt_any h1.A1 h2.A1 o1.f1 o2.f1 h1.c1 h2.c1 u1 B P1.out.r1 Q1.out.r1 l1 m1 false (Lib.hid (by simpa using Y1.out))).mono ?_
    rintro e u2 ⟨rfl, hb⟩
    have B2 := Lib.hid (below_on B1.out hb)
    clear hb
    go_wp2
    go_ret
    exact ⟨by rw [hfin.out]; rfl, B2.out⟩
  have Y1 := Lib.hid q1
  clear q1
  by_cases q2 : o1.f2 = o2.f2
  rotate_left
  · have Y2 := Lib.hid q2
    have hfin : Hid (r = false) := Lib.hid (by rw [← hr.out]; exact decide_eq_false (fun e => Y2.out (by rw [e])))
    clear hr q2
    go_enter Try.func68, Try.ntmps68
    go_wp2_with fail
    rw [← HW.out]
    refine (eqInt_any h1.A0 h2.A0 o1.f0 o2.f0 h1.c0 h2.c0 W B P0.out.r0 Q0.out.r0 l0 m0 true (Lib.hid (by simpa using Y0.out))).mono ?_
    rintro e u1 ⟨rfl, hb⟩
    have B1 := Lib.hid (below_on B0.out hb)
    have P1 := Lib.hid (P0.out.below hb (by omega))
    have Q1 := Lib.hid (Q0.out.below hb (by omega))
    have K01 := Lib.hid (K00.out.below hb K00.out.lt)
    have K11 := Lib.hid (K10.out.below hb K10.out.lt)
    have z1 := hb.size
    have ca : u1.cell? ⟨w.heap.size, 1, none⟩ = some (.slice h1.A1 o1.f1.length h1.c1) := K01.out.cell 1
    have cb : u1.cell? ⟨w.heap.size + 1, 1, none⟩ = some (.slice h2.A1 o2.f1.length h2.c1) := K11.out.cell 1
    clear hb
    go_wp2_with fail
    refine (eqInt_any h1.A1 h2.A1 o1.f1 o2.f1 h1.c1 h2.c1 u1 B P1.out.r1 Q1.out.r1 l1 m1 true (Lib.hid (by simpa using Y1.out))).mono ?_
    rintro e u2 ⟨rfl, hb⟩
    have B2 := Lib.hid (below_on B1.out hb)
    have P2 := Lib.hid (P1.out.below hb (by omega))
    have Q2 := Lib.hid (Q1.out.below hb (by omega))
    have K02 := Lib.hid (K01.out.below hb K01.out.lt)
    have K12 := Lib.hid (K11.out.below hb K11.out.lt)
    have z2 := hb.size
    have ca : u2.cell? ⟨w.heap.size, 2, none⟩ = some (.slice h1.A2 o1.f2.length h1.c2) := K02.out.cell 2
    have cb : u2.cell? ⟨w.heap.size + 1, 2, none⟩ = some (.slice h2.A2 o2.f2.length h2.c2) := K12.out.cell 2
    clear hb
    go_wp2_with fail
    refine (eqBool_any h1.A2 h2.A2 o1.f2 o2.f2 h1.c2 h2.c2 u2 B P2.out.r2 Q2.out.r2 l2 m2 false (Lib.hid (by simpa using Y2.out))).mono ?_
    rintro e u3 ⟨rfl, hb⟩
    have B3 := Lib.hid (below_on B2.out hb)
    clear hb
    go_wp2
    go_ret
    exact ⟨by rw [hfin.out]; rfl, B3.out⟩
  have Y2 := Lib.hid q2
  clear q2
  have hfin : Hid (r = true) := Lib.hid (by
    rw [← hr.out]; apply decide_eq_true; cases o1; cases o2; simp only [Oc.mk.injEq]; exact ⟨Y0.out, Y1.out, Y2.out⟩)
  clear hr
  go_enter Try.func68, Try.ntmps68
  go_wp2_with fail
  rw [← HW.out]
  refine (eqInt_any h1.A0 h2.A0 o1.f0 o2.f0 h1.c0 h2.c0 W B P0.out.r0 Q0.out.r0 l0 m0 true (Lib.hid (by simpa using Y0.out))).mono ?_
  rintro e u1 ⟨rfl, hb⟩
  have B1 := Lib.hid (below_on B0.out hb)
  have P1 := Lib.hid (P0.out.below hb (by omega))
  have Q1 := Lib.hid (Q0.out.below hb (by omega))
  have K01 := Lib.hid (K00.out.below hb K00.out.lt)
  have K11 := Lib.hid (K10.out.below hb K10.out.lt)
  have z1 := hb.size
  have ca : u1.cell? ⟨w.heap.size, 1, none⟩ = some (.slice h1.A1 o1.f1.length h1.c1) := K01.out.cell 1
  have cb : u1.cell? ⟨w.heap.size + 1, 1, none⟩ = some (.slice h2.A1 o2.f1.length h2.c1) := K11.out.cell 1
  clear hb
  go_wp2_with fail
  refine (eqInt_any h1.A1 h2.A1 o1.f1 o2.f1 h1.c1 h2.c1 u1 B P1.out.r1 Q1.out.r1 l1 m1 true (Lib.hid (by simpa using Y1.out))).mono ?_
  rintro e u2 ⟨rfl, hb⟩
  have B2 := Lib.hid (below_on B1.out hb)
  have P2 := Lib.hid (P1.out.below hb (by omega))
  have Q2 := Lib.hid (Q1.out.below hb (by omega))
  have K02 := Lib.hid (K01.out.below hb K01.out.lt)
  have K12 := Lib.hid (K11.out.below hb K11.out.lt)
  have z2 := hb.size
  have ca : u2.cell? ⟨w.heap.size, 2, none⟩ = some (.slice h1.A2 o1.f2.length h1.c2) := K02.out.cell 2
  have cb : u2.cell? ⟨w.heap.size + 1, 2, none⟩ = some (.slice h2.A2 o2.f2.length h2.c2) := K12.out.cell 2
  clear hb
  go_wp2_with fail
  refine (eqBool_any h1.A2 h2.A2 o1.f2 o2.f2 h1.c2 h2.c2 u2 B P2.out.r2 Q2.out.r2 l2 m2 true (Lib.hid (by simpa using Y2.out))).mono ?_
  rintro e u3 ⟨rfl, hb⟩
  have B3 := Lib.hid (below_on B2.out hb)
  clear hb
  go_wp2
  go_ret
  exact ⟨by rw [hfin.out]; rfl, B3.out⟩
/-- A record that marks have been written over. -/
def upOc (K : Int) (o : Oc) : Oc := ⟨upI (K) o.f0.length, upI (K + (o.f0.length : Int)) o.f1.length, upB (K + (o.f0.length : Int) + (o.f1.length : Int)) o.f2.length⟩
def allOc (o : Oc) : Int := (o.f0.length : Int) + (o.f1.length : Int) + (o.f2.length : Int)
end Go.Proofs.Ytakadejpgndhpaa
namespace Go.Proofs.Ytakadejpgndhpaa
open Go.RowKit Pl
set_option maxHeartbeats 1000000
set_option linter.unusedVariables false

theorem bk_drew {w : World} {g : Nat} {t : TypeId} {cs : Array Value} (h : Bk w g t cs) : Bk w.drew g t cs := h
/-- An answer lies in a box; the box lies apart. -/
def GotISta (w : World) (E : Sta) (r : Bool) (sa sb : Value) (wx : World) : Prop :=
  ∃ (b : Nat) (h : StaH) (lo hi : Nat), sa = .pointer (some ⟨b, 0, none⟩) ∧ sb = .bool r ∧ Below w.heap.size w wx ∧ Bk wx b 56 #[.slice h.A0 E.f0.length h.c0, .slice h.A1 E.f1.length h.c1, .slice h.A2 E.f2.length h.c2, .slice h.A3 E.f3.length h.c3, .slice h.A4 E.f4.length h.c4] ∧ StaI wx lo hi h E ∧ w.heap.size ≤ lo ∧ lo ≤ hi ∧ hi ≤ wx.heap.size ∧ w.heap.size ≤ b ∧ b < wx.heap.size ∧ (b < lo ∨ hi ≤ b)
/-- The box was made behind the answer. -/
theorem gotISta_late {w V w9 : World} {E : Sta} {r : Bool} {h : StaH} (h1 : Below w.heap.size w V) (h2 : Below V.heap.size V w9) (h3 : StaI w9 V.heap.size w9.heap.size h E) :
    GotISta w E r (.pointer (some ⟨w9.heap.size, 0, none⟩)) (.bool r) (w9.alloc (.cells #[.slice h.A0 E.f0.length h.c0, .slice h.A1 E.f1.length h.c1, .slice h.A2 E.f2.length h.c2, .slice h.A3 E.f3.length h.c3, .slice h.A4 E.f4.length h.c4] 56)) :=
  ⟨_, h, V.heap.size, w9.heap.size, rfl, rfl, (below_on h1 h2).alloc (below_on h1 h2).size _, Bk.new _ _ _, h3.below ((Below.refl _ _).alloc (Nat.le_refl _) _) (Nat.le_refl _), h1.size, h2.size, by simp, (below_on h1 h2).size, by simp, Or.inr (Nat.le_refl _)⟩
/-- The box was made ahead of the answer. -/
theorem gotISta_early {w V w9 : World} {E : Sta} {r : Bool} {h : StaH} {b : Nat} {v0 v1 v2 v3 v4 : Value} (h1 : Below w.heap.size w V) (hb : Bk V b 56 #[v0, v1, v2, v3, v4]) (hwb : w.heap.size ≤ b) (h2 : Below V.heap.size V w9) (h3 : StaI w9 V.heap.size w9.heap.size h E) :
    GotISta w E r (.pointer (some ⟨b, 0, none⟩)) (.bool r) (((((w9.setCell ⟨b, 0, none⟩ (.slice h.A0 E.f0.length h.c0)).setCell ⟨b, 1, none⟩ (.slice h.A1 E.f1.length h.c1)).setCell ⟨b, 2, none⟩ (.slice h.A2 E.f2.length h.c2)).setCell ⟨b, 3, none⟩ (.slice h.A3 E.f3.length h.c3)).setCell ⟨b, 4, none⟩ (.slice h.A4 E.f4.length h.c4)) := by
  have hbl := hb.lt
  have hz := h2.size
  have kF : Bk (((((w9.setCell ⟨b, 0, none⟩ (.slice h.A0 E.f0.length h.c0)).setCell ⟨b, 1, none⟩ (.slice h.A1 E.f1.length h.c1)).setCell ⟨b, 2, none⟩ (.slice h.A2 E.f2.length h.c2)).setCell ⟨b, 3, none⟩ (.slice h.A3 E.f3.length h.c3)).setCell ⟨b, 4, none⟩ (.slice h.A4 E.f4.length h.c4)) b 56 #[.slice h.A0 E.f0.length h.c0, .slice h.A1 E.f1.length h.c1, .slice h.A2 E.f2.length h.c2, .slice h.A3 E.f3.length h.c3, .slice h.A4 E.f4.length h.c4] := by
    have a0 := hb.below h2 hbl
    have a1 := a0.set 0 (.slice h.A0 E.f0.length h.c0)
    have a2 := a1.set 1 (.slice h.A1 E.f1.length h.c1)
    have a3 := a2.set 2 (.slice h.A2 E.f2.length h.c2)
    have a4 := a3.set 3 (.slice h.A3 E.f3.length h.c3)
    have a5 := a4.set 4 (.slice h.A4 E.f4.length h.c4)
    simpa using a5
  have zF : (((((w9.setCell ⟨b, 0, none⟩ (.slice h.A0 E.f0.length h.c0)).setCell ⟨b, 1, none⟩ (.slice h.A1 E.f1.length h.c1)).setCell ⟨b, 2, none⟩ (.slice h.A2 E.f2.length h.c2)).setCell ⟨b, 3, none⟩ (.slice h.A3 E.f3.length h.c3)).setCell ⟨b, 4, none⟩ (.slice h.A4 E.f4.length h.c4)).heap.size = w9.heap.size := by simp
  refine ⟨b, h, V.heap.size, w9.heap.size, rfl, rfl, ((((((below_on h1 h2).setCell (p := ⟨b, 0, none⟩) (show w.heap.size ≤ b from hwb) _).setCell (p := ⟨b, 1, none⟩) (show w.heap.size ≤ b from hwb) _).setCell (p := ⟨b, 2, none⟩) (show w.heap.size ≤ b from hwb) _).setCell (p := ⟨b, 3, none⟩) (show w.heap.size ≤ b from hwb) _).setCell (p := ⟨b, 4, none⟩) (show w.heap.size ≤ b from hwb) _), kF, ?_, h1.size, hz, Nat.le_of_eq zF.symm, hwb, by rw [zF]; omega, Or.inl hbl⟩
  exact h3.keep (Nat.le_refl _) (Nat.le_refl _) fun i h4 _ => ((Below.heap_setCell _ _ _ i (by show i ≠ b; omega)).trans ((Below.heap_setCell _ _ _ i (by show i ≠ b; omega)).trans ((Below.heap_setCell _ _ _ i (by show i ≠ b; omega)).trans ((Below.heap_setCell _ _ _ i (by show i ≠ b; omega)).trans (Below.heap_setCell _ _ _ i (by show i ≠ b; omega))))))
/-- An answer lies in a box; the box lies apart. -/
def GotOSta (w : World) (E : Sta) (r : Bool) (sa sb : Value) (wx : World) : Prop :=
  ∃ (b : Nat) (h : StaH) (lo hi : Nat), sa = .pointer (some ⟨b, 0, none⟩) ∧ sb = .bool r ∧ Below w.heap.size w wx ∧ Bk wx b 56 #[.slice h.A0 E.f0.length h.c0, .slice h.A1 E.f1.length h.c1, .slice h.A2 E.f2.length h.c2, .slice h.A3 E.f3.length h.c3, .slice h.A4 E.f4.length h.c4] ∧ StaO wx lo hi h E ∧ w.heap.size ≤ lo ∧ lo ≤ hi ∧ hi ≤ wx.heap.size ∧ w.heap.size ≤ b ∧ b < wx.heap.size ∧ (b < lo ∨ hi ≤ b)
/-- The box was made behind the answer. -/
theorem gotOSta_late {w V w9 : World} {E : Sta} {r : Bool} {h : StaH} (h1 : Below w.heap.size w V) (h2 : Below V.heap.size V w9) (h3 : StaO w9 V.heap.size w9.heap.size h E) :
    GotOSta w E r (.pointer (some ⟨w9.heap.size, 0, none⟩)) (.bool r) (w9.alloc (.cells #[.slice h.A0 E.f0.length h.c0, .slice h.A1 E.f1.length h.c1, .slice h.A2 E.f2.length h.c2, .slice h.A3 E.f3.length h.c3, .slice h.A4 E.f4.length h.c4] 56)) :=
  ⟨_, h, V.heap.size, w9.heap.size, rfl, rfl, (below_on h1 h2).alloc (below_on h1 h2).size _, Bk.new _ _ _, h3.below ((Below.refl _ _).alloc (Nat.le_refl _) _) (Nat.le_refl _), h1.size, h2.size, by simp, (below_on h1 h2).size, by simp, Or.inr (Nat.le_refl _)⟩
/-- The box was made ahead of the answer. -/
theorem gotOSta_early {w V w9 : World} {E : Sta} {r : Bool} {h : StaH} {b : Nat} {v0 v1 v2 v3 v4 : Value} (h1 : Below w.heap.size w V) (hb : Bk V b 56 #[v0, v1, v2, v3, v4]) (hwb : w.heap.size ≤ b) (h2 : Below V.heap.size V w9) (h3 : StaO w9 V.heap.size w9.heap.size h E) :
    GotOSta w E r (.pointer (some ⟨b, 0, none⟩)) (.bool r) (((((w9.setCell ⟨b, 0, none⟩ (.slice h.A0 E.f0.length h.c0)).setCell ⟨b, 1, none⟩ (.slice h.A1 E.f1.length h.c1)).setCell ⟨b, 2, none⟩ (.slice h.A2 E.f2.length h.c2)).setCell ⟨b, 3, none⟩ (.slice h.A3 E.f3.length h.c3)).setCell ⟨b, 4, none⟩ (.slice h.A4 E.f4.length h.c4)) := by
  have hbl := hb.lt
  have hz := h2.size
  have kF : Bk (((((w9.setCell ⟨b, 0, none⟩ (.slice h.A0 E.f0.length h.c0)).setCell ⟨b, 1, none⟩ (.slice h.A1 E.f1.length h.c1)).setCell ⟨b, 2, none⟩ (.slice h.A2 E.f2.length h.c2)).setCell ⟨b, 3, none⟩ (.slice h.A3 E.f3.length h.c3)).setCell ⟨b, 4, none⟩ (.slice h.A4 E.f4.length h.c4)) b 56 #[.slice h.A0 E.f0.length h.c0, .slice h.A1 E.f1.length h.c1, .slice h.A2 E.f2.length h.c2, .slice h.A3 E.f3.length h.c3, .slice h.A4 E.f4.length h.c4] := by
    have a0 := hb.below h2 hbl
    have a1 := a0.set 0 (.slice h.A0 E.f0.length h.c0)
    have a2 := a1.set 1 (.slice h.A1 E.f1.length h.c1)
    have a3 := a2.set 2 (.slice h.A2 E.f2.length h.c2)
    have a4 := a3.set 3 (.slice h.A3 E.f3.length h.c3)
    have a5 := a4.set 4 (.slice h.A4 E.f4.length h.c4)
    simpa using a5
  have zF : (((((w9.setCell ⟨b, 0, none⟩ (.slice h.A0 E.f0.length h.c0)).setCell ⟨b, 1, none⟩ (.slice h.A1 E.f1.length h.c1)).setCell ⟨b, 2, none⟩ (.slice h.A2 E.f2.length h.c2)).setCell ⟨b, 3, none⟩ (.slice h.A3 E.f3.length h.c3)).setCell ⟨b, 4, none⟩ (.slice h.A4 E.f4.length h.c4)).heap.size = w9.heap.size := by simp
  refine ⟨b, h, V.heap.size, w9.heap.size, rfl, rfl, ((((((below_on h1 h2).setCell (p := ⟨b, 0, none⟩) (show w.heap.size ≤ b from hwb) _).setCell (p := ⟨b, 1, none⟩) (show w.heap.size ≤ b from hwb) _).setCell (p := ⟨b, 2, none⟩) (show w.heap.size ≤ b from hwb) _).setCell (p := ⟨b, 3, none⟩) (show w.heap.size ≤ b from hwb) _).setCell (p := ⟨b, 4, none⟩) (show w.heap.size ≤ b from hwb) _), kF, ?_, h1.size, hz, Nat.le_of_eq zF.symm, hwb, by rw [zF]; omega, Or.inl hbl⟩
  exact h3.keep (Nat.le_refl _) (Nat.le_refl _) fun i h4 _ => ((Below.heap_setCell _ _ _ i (by show i ≠ b; omega)).trans ((Below.heap_setCell _ _ _ i (by show i ≠ b; omega)).trans ((Below.heap_setCell _ _ _ i (by show i ≠ b; omega)).trans ((Below.heap_setCell _ _ _ i (by show i ≠ b; omega)).trans (Below.heap_setCell _ _ _ i (by show i ≠ b; omega))))))
/-- An answer lies in a box; the box lies apart. -/
def GotIOc (w : World) (E : Oc) (r : Bool) (sa sb : Value) (wx : World) : Prop :=
  ∃ (b : Nat) (h : OcH) (lo hi : Nat), sa = .pointer (some ⟨b, 0, none⟩) ∧ sb = .bool r ∧ Below w.heap.size w wx ∧ Bk wx b 75 #[.slice h.A0 E.f0.length h.c0, .slice h.A1 E.f1.length h.c1, .slice h.A2 E.f2.length h.c2] ∧ OcI wx lo hi h E ∧ w.heap.size ≤ lo ∧ lo ≤ hi ∧ hi ≤ wx.heap.size ∧ w.heap.size ≤ b ∧ b < wx.heap.size ∧ (b < lo ∨ hi ≤ b)
/-- The box was made behind the answer. -/
theorem gotIOc_late {w V w9 : World} {E : Oc} {r : Bool} {h : OcH} (h1 : Below w.heap.size w V) (h2 : Below V.heap.size V w9) (h3 : OcI w9 V.heap.size w9.heap.size h E) :
    GotIOc w E r (.pointer (some ⟨w9.heap.size, 0, none⟩)) (.bool r) (w9.alloc (.cells #[.slice h.A0 E.f0.length h.c0, .slice h.A1 E.f1.length h.c1, .slice h.A2 E.f2.length h.c2] 75)) :=
  ⟨_, h, V.heap.size, w9.heap.size, rfl, rfl, (below_on h1 h2).alloc (below_on h1 h2).size _, Bk.new _ _ _, h3.below ((Below.refl _ _).alloc (Nat.le_refl _) _) (Nat.le_refl _), h1.size, h2.size, by simp, (below_on h1 h2).size, by simp, Or.inr (Nat.le_refl _)⟩
/-- The box was made ahead of the answer. -/
theorem gotIOc_early {w V w9 : World} {E : Oc} {r : Bool} {h : OcH} {b : Nat} {v0 v1 v2 : Value} (h1 : Below w.heap.size w V) (hb : Bk V b 75 #[v0, v1, v2]) (hwb : w.heap.size ≤ b) (h2 : Below V.heap.size V w9) (h3 : OcI w9 V.heap.size w9.heap.size h E) :
    GotIOc w E r (.pointer (some ⟨b, 0, none⟩)) (.bool r) (((w9.setCell ⟨b, 0, none⟩ (.slice h.A0 E.f0.length h.c0)).setCell ⟨b, 1, none⟩ (.slice h.A1 E.f1.length h.c1)).setCell ⟨b, 2, none⟩ (.slice h.A2 E.f2.length h.c2)) := by
  have hbl := hb.lt
  have hz := h2.size
  have kF : Bk (((w9.setCell ⟨b, 0, none⟩ (.slice h.A0 E.f0.length h.c0)).setCell ⟨b, 1, none⟩ (.slice h.A1 E.f1.length h.c1)).setCell ⟨b, 2, none⟩ (.slice h.A2 E.f2.length h.c2)) b 75 #[.slice h.A0 E.f0.length h.c0, .slice h.A1 E.f1.length h.c1, .slice h.A2 E.f2.length h.c2] := by
    have a0 := hb.below h2 hbl
    have a1 := a0.set 0 (.slice h.A0 E.f0.length h.c0)
    have a2 := a1.set 1 (.slice h.A1 E.f1.length h.c1)
    have a3 := a2.set 2 (.slice h.A2 E.f2.length h.c2)
    simpa using a3
  have zF : (((w9.setCell ⟨b, 0, none⟩ (.slice h.A0 E.f0.length h.c0)).setCell ⟨b, 1, none⟩ (.slice h.A1 E.f1.length h.c1)).setCell ⟨b, 2, none⟩ (.slice h.A2 E.f2.length h.c2)).heap.size = w9.heap.size := by simp
  refine ⟨b, h, V.heap.size, w9.heap.size, rfl, rfl, ((((below_on h1 h2).setCell (p := ⟨b, 0, none⟩) (show w.heap.size ≤ b from hwb) _).setCell (p := ⟨b, 1, none⟩) (show w.heap.size ≤ b from hwb) _).setCell (p := ⟨b, 2, none⟩) (show w.heap.size ≤ b from hwb) _), kF, ?_, h1.size, hz, Nat.le_of_eq zF.symm, hwb, by rw [zF]; omega, Or.inl hbl⟩
  exact h3.keep (Nat.le_refl _) (Nat.le_refl _) fun i h4 _ => ((Below.heap_setCell _ _ _ i (by show i ≠ b; omega)).trans ((Below.heap_setCell _ _ _ i (by show i ≠ b; omega)).trans (Below.heap_setCell _ _ _ i (by show i ≠ b; omega))))
/-- An answer lies in a box; the box lies apart. -/
def GotOOc (w : World) (E : Oc) (r : Bool) (sa sb : Value) (wx : World) : Prop :=
  ∃ (b : Nat) (h : OcH) (lo hi : Nat), sa = .pointer (some ⟨b, 0, none⟩) ∧ sb = .bool r ∧ Below w.heap.size w wx ∧ Bk wx b 75 #[.slice h.A0 E.f0.length h.c0, .slice h.A1 E.f1.length h.c1, .slice h.A2 E.f2.length h.c2] ∧ OcO wx lo hi h E ∧ w.heap.size ≤ lo ∧ lo ≤ hi ∧ hi ≤ wx.heap.size ∧ w.heap.size ≤ b ∧ b < wx.heap.size ∧ (b < lo ∨ hi ≤ b)
/-- The box was made behind the answer. -/
theorem gotOOc_late {w V w9 : World} {E : Oc} {r : Bool} {h : OcH} (h1 : Below w.heap.size w V) (h2 : Below V.heap.size V w9) (h3 : OcO w9 V.heap.size w9.heap.size h E) :
    GotOOc w E r (.pointer (some ⟨w9.heap.size, 0, none⟩)) (.bool r) (w9.alloc (.cells #[.slice h.A0 E.f0.length h.c0, .slice h.A1 E.f1.length h.c1, .slice h.A2 E.f2.length h.c2] 75)) :=
  ⟨_, h, V.heap.size, w9.heap.size, rfl, rfl, (below_on h1 h2).alloc (below_on h1 h2).size _, Bk.new _ _ _, h3.below ((Below.refl _ _).alloc (Nat.le_refl _) _) (Nat.le_refl _), h1.size, h2.size, by simp, (below_on h1 h2).size, by simp, Or.inr (Nat.le_refl _)⟩
/-- The box was made ahead of the answer. -/
theorem gotOOc_early {w V w9 : World} {E : Oc} {r : Bool} {h : OcH} {b : Nat} {v0 v1 v2 : Value} (h1 : Below w.heap.size w V) (hb : Bk V b 75 #[v0, v1, v2]) (hwb : w.heap.size ≤ b) (h2 : Below V.heap.size V w9) (h3 : OcO w9 V.heap.size w9.heap.size h E) :
    GotOOc w E r (.pointer (some ⟨b, 0, none⟩)) (.bool r) (((w9.setCell ⟨b, 0, none⟩ (.slice h.A0 E.f0.length h.c0)).setCell ⟨b, 1, none⟩ (.slice h.A1 E.f1.length h.c1)).setCell ⟨b, 2, none⟩ (.slice h.A2 E.f2.length h.c2)) := by
  have hbl := hb.lt
  have hz := h2.size
  have kF : Bk (((w9.setCell ⟨b, 0, none⟩ (.slice h.A0 E.f0.length h.c0)).setCell ⟨b, 1, none⟩ (.slice h.A1 E.f1.length h.c1)).setCell ⟨b, 2, none⟩ (.slice h.A2 E.f2.length h.c2)) b 75 #[.slice h.A0 E.f0.length h.c0, .slice h.A1 E.f1.length h.c1, .slice h.A2 E.f2.length h.c2] := by
    have a0 := hb.below h2 hbl
    have a1 := a0.set 0 (.slice h.A0 E.f0.length h.c0)
    have a2 := a1.set 1 (.slice h.A1 E.f1.length h.c1)
    have a3 := a2.set 2 (.slice h.A2 E.f2.length h.c2)
    simpa using a3
  have zF : (((w9.setCell ⟨b, 0, none⟩ (.slice h.A0 E.f0.length h.c0)).setCell ⟨b, 1, none⟩ (.slice h.A1 E.f1.length h.c1)).setCell ⟨b, 2, none⟩ (.slice h.A2 E.f2.length h.c2)).heap.size = w9.heap.size := by simp
  refine ⟨b, h, V.heap.size, w9.heap.size, rfl, rfl, ((((below_on h1 h2).setCell (p := ⟨b, 0, none⟩) (show w.heap.size ≤ b from hwb) _).setCell (p := ⟨b, 1, none⟩) (show w.heap.size ≤ b from hwb) _).setCell (p := ⟨b, 2, none⟩) (show w.heap.size ≤ b from hwb) _), kF, ?_, h1.size, hz, Nat.le_of_eq zF.symm, hwb, by rw [zF]; omega, Or.inl hbl⟩
  exact h3.keep (Nat.le_refl _) (Nat.le_refl _) fun i h4 _ => ((Below.heap_setCell _ _ _ i (by show i ≠ b; omega)).trans ((Below.heap_setCell _ _ _ i (by show i ≠ b; omega)).trans (Below.heap_setCell _ _ _ i (by show i ≠ b; omega))))
end Go.Proofs.Ytakadejpgndhpaa
namespace Go.Proofs.Ytakadejpgndhpaa
open Go.RowKit Pl
set_option maxHeartbeats 2000000
set_option maxRecDepth 100000
set_option linter.unusedVariables false

def regN (L : Pg) (f : Nat → Nat) : List Nat := (List.range (L.length * 3)).map fun i => f (6 + i)
def memN (f : Nat → Nat) : List Nat := (List.range 3).map fun i => f (15 + i)
def doneB (L : Pg) (f : Nat → Nat) (t : Nat) : Bool := f (3 + t) == (L.getD t []).length
/-- The word of an outcome, as far as k threads are told. -/
def outF (L : Pg) (f : Nat → Nat) (k : Nat) : Nat → Nat := fun p => if 13 ≤ p ∧ p < 13 + k then bitN (doneB L f (p - 13)) else updL (updL zeroF 0 (regN L f)) 9 (memN f) p
def ocF (L : Pg) (f : Nat → Nat) : Oc := ⟨fldI f 6 (fL 1) (L.length * 3), fldI f 15 (fL 2) 3, (List.range L.length).map (doneB L f)⟩
theorem regN_length (L : Pg) (f : Nat → Nat) : (regN L f).length = L.length * 3 := by simp [regN]
theorem memN_length (f : Nat → Nat) : (memN f).length = 3 := by simp [memN]
theorem zeroO_ok : okF WO zeroF := okF_of fun p hp => by unfold zeroF; exact Nat.two_pow_pos _
theorem zeroO_enc : enc WO zeroF = 0 := by decide
theorem regN_lt {L : Pg} {f : Nat → Nat} (h : okF WS f) (h3 : L.length ≤ 3) : ∀ v ∈ regN L f, v < 2 ^ fB 1 := fun v hv => by
  obtain ⟨i, hi, rfl⟩ := List.mem_map.1 hv
  exact fld_lt fld1 h (i := i) (by have := List.mem_range.1 hi; show i < 9; omega)
theorem memN_lt {f : Nat → Nat} (h : okF WS f) : ∀ v ∈ memN f, v < 2 ^ fB 2 := fun v hv => by
  obtain ⟨i, hi, rfl⟩ := List.mem_map.1 hv
  exact fld_lt fld2 h (i := i) (by have := List.mem_range.1 hi; show i < 3; omega)
theorem out0_ok {L : Pg} {f : Nat → Nat} (h : okF WS f) (h3 : L.length ≤ 3) : okF WO (updL zeroF 0 (regN L f)) :=
  okF_updL flo1 (regN L f) zeroF 0 zeroO_ok (by rw [regN_length]; show 0 + L.length * 3 ≤ 9; omega) (regN_lt h h3)
theorem out1_ok {L : Pg} {f : Nat → Nat} (h : okF WS f) (h3 : L.length ≤ 3) : okF WO (updL (updL zeroF 0 (regN L f)) 9 (memN f)) :=
  okF_updL flo2 (memN f) _ 0 (out0_ok h h3) (by rw [memN_length]; exact Nat.le_refl 3) (memN_lt h)
theorem outF_next (L : Pg) (f : Nat → Nat) (k : Nat) : upd (outF L f k) (13 + k) (bitN (doneB L f k)) = outF L f (k + 1) := by
  funext p
  unfold upd outF
  by_cases e : p = 13 + k
  · subst e
    rw [if_pos rfl, if_pos (by omega), show 13 + k - 13 = k by omega]
  · rw [if_neg e]
    by_cases h : 13 ≤ p ∧ p < 13 + k
    · rw [if_pos h, if_pos (by omega)]
    · rw [if_neg h, if_neg (by omega)]
theorem outF_zero (L : Pg) (f : Nat → Nat) : outF L f 0 = updL (updL zeroF 0 (regN L f)) 9 (memN f) := by
  funext p; unfold outF; rw [if_neg (by omega)]
theorem outF_ok {L : Pg} {f : Nat → Nat} (h : okF WS f) (h3 : L.length ≤ 3) : ∀ k, k ≤ 3 → okF WO (outF L f k)
  | 0, _ => by rw [outF_zero]; exact out1_ok h h3
  | k + 1, hk => by
    rw [← outF_next]
    exact okF_upd flo6 (outF_ok h h3 k (by omega)) (i := k) (show k < 3 by omega) (by show bitN _ < 2; exact bitN_lt _)
theorem regN_at {L : Pg} {f : Nat → Nat} {k v : Nat} (h : (regN L f)[k]? = some v) : (fldI f 6 (fL 1) (L.length * 3))[k]? = some ((v : Int) + fL 1) := by
  have hk : k < L.length * 3 := by have := (List.getElem?_eq_some_iff.1 h).1; rwa [regN_length] at this
  rw [fldI_at hk]
  simp [regN, hk] at h
  rw [← h]
theorem memN_at {f : Nat → Nat} {k v : Nat} (h : (memN f)[k]? = some v) : (fldI f 15 (fL 2) 3)[k]? = some ((v : Int) + fL 2) := by
  have hk : k < 3 := by have := (List.getElem?_eq_some_iff.1 h).1; rwa [memN_length] at this
  rw [fldI_at hk]
  simp [memN, hk] at h
  rw [← h]
/-- The outcome of the word of a state's outcome is the state's. -/
theorem out_regs (L : Pg) (f : Nat → Nat) (h3 : L.length ≤ 3) : fldI (outF L f L.length) 0 (fL 1) (L.length * 3) = fldI f 6 (fL 1) (L.length * 3) := by
  unfold fldI
  apply List.map_congr_left
  intro i hi
  have hi' := List.mem_range.1 hi
  have : outF L f L.length (0 + i) = f (6 + i) := by
    unfold outF
    rw [if_neg (by omega), updL_at, if_neg (by rw [memN_length]; omega), updL_at, if_pos (by rw [regN_length]; omega)]
    simp [regN, hi']
  rw [this]
theorem out_mem (L : Pg) (f : Nat → Nat) : fldI (outF L f L.length) 9 (fL 2) 3 = fldI f 15 (fL 2) 3 := by
  unfold fldI
  apply List.map_congr_left
  intro i hi
  have hi' := List.mem_range.1 hi
  have : outF L f L.length (9 + i) = f (15 + i) := by
    unfold outF
    rw [if_neg (by omega), updL_at, if_pos (by rw [memN_length]; omega)]
    simp [memN, hi']
  rw [this]
theorem out_done (L : Pg) (f : Nat → Nat) {t : Nat} (ht : t < L.length) : outF L f L.length (13 + t) = bitN (doneB L f t) := by
  unfold outF
  rw [if_pos (by omega), show 13 + t - 13 = t by omega]
end Go.Proofs.Ytakadejpgndhpaa
