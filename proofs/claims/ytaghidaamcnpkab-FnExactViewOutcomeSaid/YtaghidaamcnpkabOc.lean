/-
  Outcomes as records of lists: how they lie in memory, and contracts of the laws' functions over them: sizes, copies, equality, marks, held marks.
-/
import Derived.Test.YtaghidaamcnpkabVec
import Derived.Test.YtaghidaamcnpkabRec0
namespace Go.Proofs.Ytaghidaamcnpkab
open Go.RowKit Pl
set_option maxHeartbeats 1000000
set_option maxRecDepth 100000
set_option linter.unusedVariables false

structure Oc where
  f0 : List Int
  f1 : List Int
  f2 : List Bool
deriving DecidableEq, Inhabited
/-- Where a record's lists lie, and their room. -/
structure OcH where
  A0 : Option Addr
  A1 : Option Addr
  A2 : Option Addr
  c0 : Nat
  c1 : Nat
  c2 : Nat
deriving Inhabited
abbrev OcV (h : OcH) (o : Oc) : Value := .agg #[.slice h.A0 o.f0.length h.c0, .slice h.A1 o.f1.length h.c1, .slice h.A2 o.f2.length h.c2]
def OcN : OcH := ⟨none, none, none, 0, 0, 0⟩
def OcE : Oc := ⟨[], [], []⟩
structure OcR (w : World) (B : Nat) (h : OcH) (o : Oc) : Prop where
  r0 : Vs w B h.A0 (ints o.f0)
  r1 : Vs w B h.A1 (ints o.f1)
  r2 : Vs w B h.A2 (bools o.f2)
structure OcL (o : Oc) (m : Nat) : Prop where
  l0 : o.f0.length ≤ m
  l1 : o.f1.length ≤ m
  l2 : o.f2.length ≤ m
structure OcI (w : World) (lo hi : Nat) (h : OcH) (o : Oc) : Prop where
  i0 : InVs w lo hi h.A0 (ints o.f0)
  i1 : InVs w lo hi h.A1 (ints o.f1)
  i2 : InVs w lo hi h.A2 (bools o.f2)
/-- A record of the call's own: its lists lie in blocks that no two of them share. -/
structure OcO (w : World) (lo hi : Nat) (h : OcH) (o : Oc) : Prop where
  o0 : OwnVs w lo hi 3 h.A0 (ints o.f0)
  o1 : OwnVs w lo hi 3 h.A1 (ints o.f1)
  o2 : OwnVs w lo hi 4 h.A2 (bools o.f2)
  d01 : 0 < o.f0.length → 0 < o.f1.length → h.A0 ≠ h.A1
  d02 : 0 < o.f0.length → 0 < o.f2.length → h.A0 ≠ h.A2
  d12 : 0 < o.f1.length → 0 < o.f2.length → h.A1 ≠ h.A2
section
variable {w w' : World} {B B' B'' lo hi lo' hi' : Nat} {h : OcH} {o : Oc}
theorem OcR.below (r : OcR w B h o) (hb : Below B' w w') (hB : B ≤ B') : OcR w' B h o := ⟨r.r0.below hb hB, r.r1.below hb hB, r.r2.below hb hB⟩
theorem OcR.up (r : OcR w B h o) (hb : Below B' w w') (hB : B ≤ B') (hB2 : B ≤ B'') : OcR w' B'' h o := ⟨r.r0.up hb hB hB2, r.r1.up hb hB hB2, r.r2.up hb hB hB2⟩
theorem OcR.keepV (r : OcR w B h o) (hk : ∀ b o, b < B → w'.cell? ⟨b, o, none⟩ = w.cell? ⟨b, o, none⟩) : OcR w' B h o := ⟨r.r0.keepV hk, r.r1.keepV hk, r.r2.keepV hk⟩
theorem OcI.keep (r : OcI w lo hi h o) (hl : lo' ≤ lo) (hh : hi ≤ hi') (hk : ∀ i, lo ≤ i → i < hi → w'.heap[i]? = w.heap[i]?) : OcI w' lo' hi' h o := ⟨r.i0.keep hl hh hk, r.i1.keep hl hh hk, r.i2.keep hl hh hk⟩
theorem OcI.below (r : OcI w lo hi h o) (hb : Below B w w') (hB : hi ≤ B) : OcI w' lo hi h o := ⟨r.i0.below hb hB, r.i1.below hb hB, r.i2.below hb hB⟩
theorem OcI.rd (r : OcI w lo hi h o) : OcR w hi h o := ⟨r.i0.vs, r.i1.vs, r.i2.vs⟩
theorem OcO.keep (r : OcO w lo hi h o) (hl : lo' ≤ lo) (hh : hi ≤ hi') (hk : ∀ i, lo ≤ i → i < hi → w'.heap[i]? = w.heap[i]?) : OcO w' lo' hi' h o := ⟨r.o0.keep hl hh hk, r.o1.keep hl hh hk, r.o2.keep hl hh hk, r.d01, r.d02, r.d12⟩
theorem OcO.below (r : OcO w lo hi h o) (hb : Below B w w') (hB : hi ≤ B) : OcO w' lo hi h o := ⟨r.o0.below hb hB, r.o1.below hb hB, r.o2.below hb hB, r.d01, r.d02, r.d12⟩
theorem OcO.in_ (r : OcO w lo hi h o) : OcI w lo hi h o := ⟨r.o0.in_, r.o1.in_, r.o2.in_⟩
theorem OcO.rd (r : OcO w lo hi h o) : OcR w hi h o := r.in_.rd
theorem OcO.none_ (w : World) (lo hi : Nat) (h : OcH) : OcO w lo hi h OcE := ⟨OwnVs.nil _ _ _ _ _, OwnVs.nil _ _ _ _ _, OwnVs.nil _ _ _ _ _, by intro a; simp [OcE] at a, by intro a; simp [OcE] at a, by intro a; simp [OcE] at a⟩
theorem OcI.none_ (w : World) (lo hi : Nat) (h : OcH) : OcI w lo hi h OcE := (OcO.none_ w lo hi h).in_
theorem OcL.le {m k : Nat} (l : OcL o m) (hm : m ≤ k) : OcL o k := ⟨Nat.le_trans l.l0 hm, Nat.le_trans l.l1 hm, Nat.le_trans l.l2 hm⟩
end
/-- what the size function comes to -/
def szOc (a : Int) (o : Oc) : Int := szN a [o.f0.length, o.f1.length, o.f2.length]
theorem szOc_ge (a : Int) (o : Oc) (ha : 0 ≤ a) : -1 ≤ szOc a o ∧ szOc a o ≤ a := szN_ge _ _ ha
theorem szOc_len {a : Int} {o : Oc} (h : 0 ≤ szOc a o) (ha : 0 ≤ a) : (o.f0.length : Int) + (o.f1.length : Int) + (o.f2.length : Int) ≤ a := by
  have := szN_len _ _ h ha
  simp at this
  omega
theorem szOc_small {a : Int} {o : Oc} (h : 0 ≤ szOc a o) (ha : 0 ≤ a) (ha2 : a ≤ 1048576) : OcL o 1048576 := by
  have := szOc_len h ha
  exact ⟨by omega, by omega, by omega⟩
abbrev OcS (o : Oc) : Prop := OcL o 1048576
theorem OcS_L {o : Oc} (s : OcS o) : OcL o maxLen := OcL.le s (by unfold maxLen; omega)
/-- What a copy comes to. -/
def ToOc (w : World) (o : Oc) (e : Ending) (w' : World) : Prop := ∃ h, e = .returned (OcV h o) ∧ Below w.heap.size w w' ∧ w.heap.size < w'.heap.size ∧ OcO w' w.heap.size w'.heap.size h o
/-- An answer of a record and a truth: the record is the call's own. -/
def AnsOc (w : World) (o : Oc) (r : Bool) (e : Ending) (w' : World) : Prop := ∃ h, e = .returned (.tuple #[OcV h o, .bool r]) ∧ Below w.heap.size w w' ∧ w.heap.size ≤ w'.heap.size ∧ OcO w' w.heap.size w'.heap.size h o
def AnsIOc (w : World) (o : Oc) (r : Bool) (e : Ending) (w' : World) : Prop := ∃ h, e = .returned (.tuple #[OcV h o, .bool r]) ∧ Below w.heap.size w w' ∧ w.heap.size ≤ w'.heap.size ∧ OcI w' w.heap.size w'.heap.size h o
theorem AnsOc.in_ {w w' : World} {o : Oc} {r : Bool} {e : Ending} (h : AnsOc w o r e w') : AnsIOc w o r e w' := by
  obtain ⟨k, h1, h2, h3, h4⟩ := h
  exact ⟨k, h1, h2, h3, h4.in_⟩
theorem eqOc_any (h1 h2 : OcH) (o1 o2 : Oc) (w : World) (B : Nat) (r1 : OcR w B h1 o1) (r2 : OcR w B h2 o2) (hB : B ≤ w.heap.size) (L1 : OcL o1 maxLen) (L2 : OcL o2 maxLen) (r : Bool) (hr : Hid (decide (o1 = o2) = r)) :
    Calls Try.prog 27 #[OcV h1 o1, OcV h2 o2] w fun e w' => e = .returned (.bool r) ∧ Below w.heap.size w w' := by
  obtain ⟨l0, l1, l2⟩ := L1
  obtain ⟨m0, m1, m2⟩ := L2
  obtain ⟨W, hW⟩ : ∃ W, W = (w.alloc (.cells #[.slice h1.A0 o1.f0.length h1.c0, .slice h1.A1 o1.f1.length h1.c1, .slice h1.A2 o1.f2.length h1.c2] 60)).alloc (.cells #[.slice h2.A0 o2.f0.length h2.c0, .slice h2.A1 o2.f1.length h2.c1, .slice h2.A2 o2.f2.length h2.c2] 60) := ⟨_, rfl⟩
  have bW : Below w.heap.size w W := by rw [hW]; go_grown
  have k0 : Bk W w.heap.size 60 #[.slice h1.A0 o1.f0.length h1.c0, .slice h1.A1 o1.f1.length h1.c1, .slice h1.A2 o1.f2.length h1.c2] := by rw [hW]; exact (Bk.new w _ _).alloc _
  have k1 : Bk W (w.heap.size + 1) 60 #[.slice h2.A0 o2.f0.length h2.c0, .slice h2.A1 o2.f1.length h2.c1, .slice h2.A2 o2.f2.length h2.c2] := by
    rw [hW]; have := Bk.new (w.alloc (.cells #[.slice h1.A0 o1.f0.length h1.c0, .slice h1.A1 o1.f1.length h1.c1, .slice h1.A2 o1.f2.length h1.c2] 60)) #[.slice h2.A0 o2.f0.length h2.c0, .slice h2.A1 o2.f1.length h2.c1, .slice h2.A2 o2.f2.length h2.c2] 60
    rwa [World.size_alloc] at this
  have P0 := Lib.hid (r1.below bW hB)
  have Q0 := Lib.hid (r2.below bW hB)
  have K00 := Lib.hid k0
  have K10 := Lib.hid k1
  have B0 := Lib.hid bW
  have z0 := bW.size
  have HW := Lib.hid hW
  clear hW bW k0 k1 r1 r2
  by_cases q0 : o1.f0 = o2.f0
  rotate_left
  · have Y0 := Lib.hid q0
    have hfin : Hid (r = false) := Lib.hid (by rw [← hr.out]; exact decide_eq_false (fun e => Y0.out (by rw [e])))
    clear hr q0
    go_enter Try.func27, Try.ntmps27
    go_wp2_with fail
    rw [← HW.out]
    refine (eqInt_any h1.A0 h2.A0 o1.f0 o2.f0 h1.c0 h2.c0 W B P0.out.r0 Q0.out.r0 l0 m0 false (Lib.hid (by simpa using Y0.out))).mono ?_
    rintro e u1 ⟨rfl, hb⟩
    have B1 := Lib.hid (below_on B0.out hb)
    clear hb
    go_wp2
    go_ret
    exact ⟨by rw [hfin.out]; rfl, B1.out⟩
  have Y0 := Lib.hid q0
  clear q0
  by_cases q1 : o1.f1 = o2.f1
  rotate_left
  · have Y1 := Lib.hid q1
    have hfin : Hid (r = false) := Lib.hid (by rw [← hr.out]; exact decide_eq_false (fun e => Y1.out (by rw [e])))
    clear hr q1
    go_enter Try.func27, Try.ntmps27
    go_wp2_with fail
    rw [← HW.out]
    refine (eqInt_any h1.A0 h2.A0 o1.f0 o2.f0 h1.c0 h2.c0 W B P0.out.r0 Q0.out.r0 l0 m0 true (Lib.hid (by simpa using Y0.out))).mono ?_
    rintro e u1 ⟨rfl, hb⟩
    have B1 := Lib.hid (below_on B0.out hb)
    have P1 := Lib.hid (P0.out.below hb (by omega))
    have Q1 := Lib.hid (Q0.out.below hb (by omega))
    have K01 := Lib.hid (K00.out.below hb K00.out.lt)
    have K11 := Lib.hid (K10.out.below hb K10.out.lt)
    have z1 := hb.size
    have ca : u1.cell? ⟨w.heap.size, 1, none⟩ = some (.slice h1.A1 o1.f1.length h1.c1) := K01.out.cell 1
    have cb : u1.cell? ⟨w.heap.size + 1, 1, none⟩ = some (.slice h2.A1 o2.f1.length h2.c1) := K11.out.cell 1
    clear hb
    go_wp2_with fail
    refine (eqInt_any h1.A1 h2.A1 o1.f1 o2.f1 h1.c1 h2.c1 u1 B P1.out.r1 Q1.out.r1 l1 m1 false (Lib.hid (by simpa using Y1.out))).mono ?_
    rintro e u2 ⟨rfl, hb⟩
    have B2 := Lib.hid (below_on B1.out hb)
    clear hb
    go_wp2
    go_ret
    exact ⟨by rw [hfin.out]; rfl, B2.out⟩
  have Y1 := Lib.hid q1
  clear q1
  by_cases q2 : o1.f2 = o2.f2
  rotate_left
  · have Y2 := Lib.hid q2
    have hfin : Hid (r = false) := Lib.hid (by rw [← hr.out]; exact decide_eq_false (fun e => Y2.out (by rw [e])))
    clear hr q2
    go_enter Try.func27, Try.ntmps27
    go_wp2_with fail
    rw [← HW.out]
    refine (eqInt_any h1.A0 h2.A0 o1.f0 o2.f0 h1.c0 h2.c0 W B P0.out.r0 Q0.out.r0 l0 m0 true (Lib.hid (by simpa using Y0.out))).mono ?_
    rintro e u1 ⟨rfl, hb⟩
    have B1 := Lib.hid (below_on B0.out hb)
    have P1 := Lib.hid (P0.out.below hb (by omega))
    have Q1 := Lib.hid (Q0.out.below hb (by omega))
    have K01 := Lib.hid (K00.out.below hb K00.out.lt)
    have K11 := Lib.hid (K10.out.below hb K10.out.lt)
    have z1 := hb.size
    have ca : u1.cell? ⟨w.heap.size, 1, none⟩ = some (.slice h1.A1 o1.f1.length h1.c1) := K01.out.cell 1
    have cb : u1.cell? ⟨w.heap.size + 1, 1, none⟩ = some (.slice h2.A1 o2.f1.length h2.c1) := K11.out.cell 1
    clear hb
    go_wp2_with fail
    refine (eqInt_any h1.A1 h2.A1 o1.f1 o2.f1 h1.c1 h2.c1 u1 B P1.out.r1 Q1.out.r1 l1 m1 true (Lib.hid (by simpa using Y1.out))).mono ?_
    rintro e u2 ⟨rfl, hb⟩
    have B2 := Lib.hid (below_on B1.out hb)
    have P2 := Lib.hid (P1.out.below hb (by omega))
    have Q2 := Lib.hid (Q1.out.below hb (by omega))
    have K02 := Lib.hid (K01.out.below hb K01.out.lt)
    have K12 := Lib.hid (K11.out.below hb K11.out.lt)
    have z2 := hb.size
    have ca : u2.cell? ⟨w.heap.size, 2, none⟩ = some (.slice h1.A2 o1.f2.length h1.c2) := K02.out.cell 2
    have cb : u2.cell? ⟨w.heap.size + 1, 2, none⟩ = some (.slice h2.A2 o2.f2.length h2.c2) := K12.out.cell 2
    clear hb
    go_wp2_with fail
    refine (eqBool_any h1.A2 h2.A2 o1.f2 o2.f2 h1.c2 h2.c2 u2 B P2.out.r2 Q2.out.r2 l2 m2 false (Lib.hid (by simpa using Y2.out))).mono ?_
    rintro e u3 ⟨rfl, hb⟩
    have B3 := Lib.hid (below_on B2.out hb)
    clear hb
    go_wp2
    go_ret
    exact ⟨by rw [hfin.out]; rfl, B3.out⟩
  have Y2 := Lib.hid q2
  clear q2
  have hfin : Hid (r = true) := Lib.hid (by
    rw [← hr.out]; apply decide_eq_true; cases o1; cases o2; simp only [Oc.mk.injEq]; exact ⟨Y0.out, Y1.out, Y2.out⟩)
  clear hr
  go_enter Try.func27, Try.ntmps27
  go_wp2_with fail
  rw [← HW.out]
  refine (eqInt_any h1.A0 h2.A0 o1.f0 o2.f0 h1.c0 h2.c0 W B P0.out.r0 Q0.out.r0 l0 m0 true (Lib.hid (by simpa using Y0.out))).mono ?_
  rintro e u1 ⟨rfl, hb⟩
  have B1 := Lib.hid (below_on B0.out hb)
  have P1 := Lib.hid (P0.out.below hb (by omega))
  have Q1 := Lib.hid (Q0.out.below hb (by omega))
  have K01 := Lib.hid (K00.out.below hb K00.out.lt)
  have K11 := Lib.hid (K10.out.below hb K10.out.lt)
  have z1 := hb.size
  have ca : u1.cell? ⟨w.heap.size, 1, none⟩ = some (.slice h1.A1 o1.f1.length h1.c1) := K01.out.cell 1
  have cb : u1.cell? ⟨w.heap.size + 1, 1, none⟩ = some (.slice h2.A1 o2.f1.length h2.c1) := K11.out.cell 1
  clear hb
  go_wp2_with fail
  refine (eqInt_any h1.A1 h2.A1 o1.f1 o2.f1 h1.c1 h2.c1 u1 B P1.out.r1 Q1.out.r1 l1 m1 true (Lib.hid (by simpa using Y1.out))).mono ?_
  rintro e u2 ⟨rfl, hb⟩
  have B2 := Lib.hid (below_on B1.out hb)
  have P2 := Lib.hid (P1.out.below hb (by omega))
  have Q2 := Lib.hid (Q1.out.below hb (by omega))
  have K02 := Lib.hid (K01.out.below hb K01.out.lt)
  have K12 := Lib.hid (K11.out.below hb K11.out.lt)
  have z2 := hb.size
  have ca : u2.cell? ⟨w.heap.size, 2, none⟩ = some (.slice h1.A2 o1.f2.length h1.c2) := K02.out.cell 2
  have cb : u2.cell? ⟨w.heap.size + 1, 2, none⟩ = some (.slice h2.A2 o2.f2.length h2.c2) := K12.out.cell 2
  clear hb
  go_wp2_with fail
  refine (eqBool_any h1.A2 h2.A2 o1.f2 o2.f2 h1.c2 h2.c2 u2 B P2.out.r2 Q2.out.r2 l2 m2 true (Lib.hid (by simpa using Y2.out))).mono ?_
  rintro e u3 ⟨rfl, hb⟩
  have B3 := Lib.hid (below_on B2.out hb)
  clear hb
  go_wp2
  go_ret
  exact ⟨by rw [hfin.out]; rfl, B3.out⟩
/-- A record that marks have been written over. -/
def upOc (K : Int) (o : Oc) : Oc := ⟨upI (K) o.f0.length, upI (K + (o.f0.length : Int)) o.f1.length, upB (K + (o.f0.length : Int) + (o.f1.length : Int)) o.f2.length⟩
def allOc (o : Oc) : Int := (o.f0.length : Int) + (o.f1.length : Int) + (o.f2.length : Int)
theorem markOc_any (h : OcH) (o : Oc) (K : Int) (w : World) (lo hi : Nat) (hO : OcO w lo hi h o) (hhi : hi ≤ w.heap.size) (hL : OcL o 1048576) (hK : 0 ≤ K) (hK2 : K ≤ 100000000) :
    Calls Try.prog 28 #[OcV h o, .int .i64 K] w fun e w' => e = .returned (.int .i64 (K + allOc o)) ∧ Only lo hi w w' ∧ OcO w' lo hi h (upOc K o) := by
  obtain ⟨l0, l1, l2⟩ := hL
  have D := Lib.hid hO
  obtain ⟨W, hW⟩ : ∃ W, W = w.alloc (.cells #[.slice h.A0 o.f0.length h.c0, .slice h.A1 o.f1.length h.c1, .slice h.A2 o.f2.length h.c2] 60) := ⟨_, rfl⟩
  have bW : Below w.heap.size w W := by rw [hW]; go_grown
  have k0 : Bk W w.heap.size 60 #[.slice h.A0 o.f0.length h.c0, .slice h.A1 o.f1.length h.c1, .slice h.A2 o.f2.length h.c2] := by rw [hW]; exact Bk.new w _ _
  have zW := bW.size
  have J0 := Lib.hid (hO.o0.below bW hhi)
  have J1 := Lib.hid (hO.o1.below bW hhi)
  have J2 := Lib.hid (hO.o2.below bW hhi)
  have On0 := Lib.hid (Only.of_below (lo := lo) (hi := hi) bW)
  have K00 := Lib.hid k0
  have HW := Lib.hid hW
  clear hW bW k0 hO
  go_enter Try.func28, Try.ntmps28
  go_wp2_with fail
  rw [← HW.out]
  refine (markInt_own h.A0 o.f0 h.c0 (K) W lo hi J0.out l0 (by omega) (by omega)).mono ?_
  rintro e u1 ⟨rfl, on, own, same⟩
  have On1 := Lib.hid (On0.out.trans on)
  have z1 := on.size
  have K01 := Lib.hid (only_bk K00.out on (by omega))
  have J0' := Lib.hid own
  clear J0
  have J0 := J0'
  clear J0'
  have J1' := Lib.hid (J1.out.same (by omega) same fun a b => D.out.d01 b (by simpa using a))
  clear J1
  have J1 := J1'
  clear J1'
  have J2' := Lib.hid (J2.out.same (by omega) same fun a b => D.out.d02 b (by simpa using a))
  clear J2
  have J2 := J2'
  clear J2'
  clear on own same
  have c1 : u1.cell? ⟨w.heap.size, 1, none⟩ = some (.slice h.A1 o.f1.length h.c1) := K01.out.cell 1
  go_wp2_with fail
  clear c1
  refine (markInt_own h.A1 o.f1 h.c1 (K + (o.f0.length : Int)) u1 lo hi J1.out l1 (by omega) (by omega)).mono ?_
  rintro e u2 ⟨rfl, on, own, same⟩
  have On2 := Lib.hid (On1.out.trans on)
  have z2 := on.size
  have K02 := Lib.hid (only_bk K01.out on (by omega))
  have J0' := Lib.hid (J0.out.same (by omega) same fun a b => (D.out.d01 (by simpa using a) b).symm)
  clear J0
  have J0 := J0'
  clear J0'
  have J1' := Lib.hid own
  clear J1
  have J1 := J1'
  clear J1'
  have J2' := Lib.hid (J2.out.same (by omega) same fun a b => D.out.d12 b (by simpa using a))
  clear J2
  have J2 := J2'
  clear J2'
  clear on own same
  have c2 : u2.cell? ⟨w.heap.size, 2, none⟩ = some (.slice h.A2 o.f2.length h.c2) := K02.out.cell 2
  go_wp2_with fail
  clear c2
  refine (markBool_own h.A2 o.f2 h.c2 (K + (o.f0.length : Int) + (o.f1.length : Int)) u2 lo hi J2.out l2 (by omega) (by omega)).mono ?_
  rintro e u3 ⟨rfl, on, own, same⟩
  have On3 := Lib.hid (On2.out.trans on)
  have z3 := on.size
  have K03 := Lib.hid (only_bk K02.out on (by omega))
  have J0' := Lib.hid (J0.out.same (by omega) same fun a b => (D.out.d02 (by simpa using a) b).symm)
  clear J0
  have J0 := J0'
  clear J0'
  have J1' := Lib.hid (J1.out.same (by omega) same fun a b => (D.out.d12 (by simpa using a) b).symm)
  clear J1
  have J1 := J1'
  clear J1'
  have J2' := Lib.hid own
  clear J2
  have J2 := J2'
  clear J2'
  clear on own same
  go_wp2
  go_ret
  exact ⟨by rw [allOc, show K + ((o.f0.length : Int) + (o.f1.length : Int) + (o.f2.length : Int)) = K + (o.f0.length : Int) + (o.f1.length : Int) + (o.f2.length : Int) by omega]; rfl, On3.out, J0.out, J1.out, J2.out, fun a b => D.out.d01 (by simpa [upOc] using a) (by simpa [upOc] using b), fun a b => D.out.d02 (by simpa [upOc] using a) (by simpa [upOc] using b), fun a b => D.out.d12 (by simpa [upOc] using a) (by simpa [upOc] using b)⟩
theorem heldOc_any (h : OcH) (o : Oc) (K : Int) (w : World) (B : Nat) (hR : OcR w B h (upOc K o)) (hB : B ≤ w.heap.size) (hL : OcL o 1048576) (hK : 0 ≤ K) (hK2 : K ≤ 100000000) :
    Calls Try.prog 29 #[OcV h o, .int .i64 K] w fun e w' => e = .returned (.int .i64 (K + allOc o)) ∧ Below w.heap.size w w' := by
  obtain ⟨l0, l1, l2⟩ := hL
  obtain ⟨W, hW⟩ : ∃ W, W = w.alloc (.cells #[.slice h.A0 o.f0.length h.c0, .slice h.A1 o.f1.length h.c1, .slice h.A2 o.f2.length h.c2] 60) := ⟨_, rfl⟩
  have bW : Below w.heap.size w W := by rw [hW]; go_grown
  have k0 : Bk W w.heap.size 60 #[.slice h.A0 o.f0.length h.c0, .slice h.A1 o.f1.length h.c1, .slice h.A2 o.f2.length h.c2] := by rw [hW]; exact Bk.new w _ _
  have J := Lib.hid (hR.below bW hB)
  have BW := Lib.hid bW
  have c1 : W.cell? ⟨w.heap.size, 1, none⟩ = some (.slice h.A1 o.f1.length h.c1) := k0.cell 1
  have c2 : W.cell? ⟨w.heap.size, 2, none⟩ = some (.slice h.A2 o.f2.length h.c2) := k0.cell 2
  have HW := Lib.hid hW
  clear hW bW k0 hR
  go_enter Try.func29, Try.ntmps29
  go_wp2_with fail
  rw [← HW.out]
  refine (heldInt_any h.A0 o.f0.length h.c0 (K) W B J.out.r0 l0 (by omega) (by omega)).mono ?_
  rintro e w' ⟨rfl, rfl⟩
  go_wp2_with fail
  refine (heldInt_any h.A1 o.f1.length h.c1 (K + (o.f0.length : Int)) W B J.out.r1 l1 (by omega) (by omega)).mono ?_
  rintro e w' ⟨rfl, rfl⟩
  go_wp2_with fail
  refine (heldBool_any h.A2 o.f2.length h.c2 (K + (o.f0.length : Int) + (o.f1.length : Int)) W B J.out.r2 l2 (by omega) (by omega)).mono ?_
  rintro e w' ⟨rfl, rfl⟩
  go_wp2
  go_ret
  exact ⟨by rw [allOc, show K + ((o.f0.length : Int) + (o.f1.length : Int) + (o.f2.length : Int)) = K + (o.f0.length : Int) + (o.f1.length : Int) + (o.f2.length : Int) by omega]; rfl, BW.out⟩

end Go.Proofs.Ytaghidaamcnpkab
