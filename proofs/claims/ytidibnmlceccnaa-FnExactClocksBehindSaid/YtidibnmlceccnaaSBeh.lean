/-
  What the reference model's ClocksBehind comes to.
-/
import Derived.Test.YtidibnmlceccnaaRwI
import Derived.Test.YtidibnmlceccnaaRec0
import Derived.Test.YtidibnmlceccnaaSZer
import Derived.Deep.RegionHeld3
import Derived.Test.YtidibnmlceccnaaSClk
namespace Go.Proofs.Ytidibnmlceccnaa
open Go.RowKit Pl
set_option maxHeartbeats 4000000
set_option maxRecDepth 100000
set_option linter.unusedVariables false

structure Cks where
  f0 : Iss
  f1 : Iss
  f2 : Iss
deriving DecidableEq, Inhabited
structure CksH where
  A0 : Option Addr
  A1 : Option Addr
  A2 : Option Addr
  c0 : Nat
  c1 : Nat
  c2 : Nat
abbrev CksV (h : CksH) (o : Cks) : Value := .agg #[.slice h.A0 o.f0.length h.c0, .slice h.A1 o.f1.length h.c1, .slice h.A2 o.f2.length h.c2]
structure CksL (o : Cks) (m : Nat) : Prop where
  l0 : o.f0.length ≤ m
  t0 : tot o.f0 ≤ m
  l1 : o.f1.length ≤ m
  t1 : tot o.f1 ≤ m
  l2 : o.f2.length ≤ m
  t2 : tot o.f2 ≤ m
abbrev CksS (o : Cks) : Prop := CksL o 1048576
theorem CksS_L {o : Cks} (s : CksS o) : CksL o maxLen := by
  obtain ⟨a, b, c, d, e, f⟩ := s
  unfold maxLen
  exact ⟨by omega, by omega, by omega, by omega, by omega, by omega⟩
theorem CksL.i0 {o : Cks} {m : Nat} (s : CksL o m) : IssL o.f0 m := ⟨s.l0, s.t0⟩
theorem CksL.i1 {o : Cks} {m : Nat} (s : CksL o m) : IssL o.f1 m := ⟨s.l1, s.t1⟩
theorem CksL.i2 {o : Cks} {m : Nat} (s : CksL o m) : IssL o.f2 m := ⟨s.l2, s.t2⟩
structure CksR (w : World) (B : Nat) (h : CksH) (o : Cks) : Prop where
  r0 : IssR w B ⟨h.A0, h.c0⟩ o.f0
  r1 : IssR w B ⟨h.A1, h.c1⟩ o.f1
  r2 : IssR w B ⟨h.A2, h.c2⟩ o.f2
structure CksI (w : World) (lo hi : Nat) (h : CksH) (o : Cks) : Prop where
  i0 : IssO w lo hi ⟨h.A0, h.c0⟩ o.f0
  i1 : IssO w lo hi ⟨h.A1, h.c1⟩ o.f1
  i2 : IssO w lo hi ⟨h.A2, h.c2⟩ o.f2
/-- A record of the call's own: its lists lie one behind the other. -/
def CksO (w : World) (lo hi : Nat) (h : CksH) (o : Cks) : Prop :=
  ∃ m1 m2, lo ≤ m1 ∧ m1 ≤ m2 ∧ m2 ≤ hi ∧ IssO w lo m1 ⟨h.A0, h.c0⟩ o.f0 ∧ IssO w m1 m2 ⟨h.A1, h.c1⟩ o.f1 ∧ IssO w m2 hi ⟨h.A2, h.c2⟩ o.f2
section
variable {w w' : World} {B B' B'' lo hi lo' hi' : Nat} {h : CksH} {o : Cks}
theorem CksR.below (r : CksR w B h o) (hb : Below B' w w') (hB : B ≤ B') : CksR w' B h o := ⟨r.r0.below hb hB, r.r1.below hb hB, r.r2.below hb hB⟩
theorem CksR.up (r : CksR w B h o) (hb : Below B' w w') (hB : B ≤ B') (hB2 : B ≤ B'') : CksR w' B'' h o := ⟨r.r0.up hb hB hB2, r.r1.up hb hB hB2, r.r2.up hb hB hB2⟩
theorem CksI.keep (r : CksI w lo hi h o) (hl : lo' ≤ lo) (hh : hi ≤ hi') (hk : ∀ i, lo ≤ i → i < hi → w'.heap[i]? = w.heap[i]?) : CksI w' lo' hi' h o := ⟨r.i0.keep hl hh hk, r.i1.keep hl hh hk, r.i2.keep hl hh hk⟩
theorem CksI.below (r : CksI w lo hi h o) (hb : Below B w w') (hB : hi ≤ B) : CksI w' lo hi h o := ⟨r.i0.below hb hB, r.i1.below hb hB, r.i2.below hb hB⟩
theorem CksI.rd (r : CksI w lo hi h o) : CksR w hi h o := ⟨r.i0.rd, r.i1.rd, r.i2.rd⟩
theorem CksO.keep (r : CksO w lo hi h o) (hl : lo' ≤ lo) (hh : hi ≤ hi') (hk : ∀ i, lo ≤ i → i < hi → w'.heap[i]? = w.heap[i]?) : CksO w' lo' hi' h o := by
  obtain ⟨m1, m2, a, b, c, i0, i1, i2⟩ := r
  exact ⟨m1, m2, by omega, b, by omega, i0.keep hl (Nat.le_refl _) (fun i h1 h2 => hk i h1 (by omega)), i1.keep (Nat.le_refl _) (Nat.le_refl _) (fun i h1 h2 => hk i (by omega) (by omega)), i2.keep (Nat.le_refl _) hh (fun i h1 h2 => hk i (by omega) h2)⟩
theorem CksO.below (r : CksO w lo hi h o) (hb : Below B w w') (hB : hi ≤ B) : CksO w' lo hi h o := r.keep (Nat.le_refl _) (Nat.le_refl _) fun i _ h2 => hb.block i (by omega)
theorem CksO.rd (r : CksO w lo hi h o) : CksR w hi h o := by
  obtain ⟨m1, m2, a, b, c, i0, i1, i2⟩ := r
  exact ⟨(i0.keep (hi' := hi) (Nat.le_refl _) (by omega) fun _ _ _ => rfl).rd, (i1.keep (hi' := hi) (Nat.le_refl _) (by omega) fun _ _ _ => rfl).rd, i2.rd⟩
end
/-- An answer of clocks and a truth. -/
def AnsCks (w : World) (o : Cks) (r : Bool) (e : Ending) (w' : World) : Prop := ∃ h, e = .returned (.tuple #[CksV h o, .bool r]) ∧ Below w.heap.size w w' ∧ w.heap.size ≤ w'.heap.size ∧ CksO w' w.heap.size w'.heap.size h o
def AnsICks (w : World) (o : Cks) (r : Bool) (e : Ending) (w' : World) : Prop := ∃ h, e = .returned (.tuple #[CksV h o, .bool r]) ∧ Below w.heap.size w w' ∧ w.heap.size ≤ w'.heap.size ∧ CksI w' w.heap.size w'.heap.size h o
theorem eqCks_any (h1 h2 : CksH) (o1 o2 : Cks) (w : World) (B : Nat) (r1 : CksR w B h1 o1) (r2 : CksR w B h2 o2) (hB : B ≤ w.heap.size) (L1 : CksL o1 maxLen) (L2 : CksL o2 maxLen) (r : Bool) (hr : Hid (decide (o1 = o2) = r)) :
    Calls Try.prog 59 #[CksV h1 o1, CksV h2 o2] w fun e w' => e = .returned (.bool r) ∧ Below w.heap.size w w' := by
  obtain ⟨W, hW⟩ : ∃ W, W = (w.alloc (.cells #[.slice h1.A0 o1.f0.length h1.c0, .slice h1.A1 o1.f1.length h1.c1, .slice h1.A2 o1.f2.length h1.c2] 66)).alloc (.cells #[.slice h2.A0 o2.f0.length h2.c0, .slice h2.A1 o2.f1.length h2.c1, .slice h2.A2 o2.f2.length h2.c2] 66) := ⟨_, rfl⟩
  have bW : Below w.heap.size w W := by rw [hW]; go_grown
  have k0 : Bk W w.heap.size 66 #[.slice h1.A0 o1.f0.length h1.c0, .slice h1.A1 o1.f1.length h1.c1, .slice h1.A2 o1.f2.length h1.c2] := by rw [hW]; exact (Bk.new w _ _).alloc _
  have k1 : Bk W (w.heap.size + 1) 66 #[.slice h2.A0 o2.f0.length h2.c0, .slice h2.A1 o2.f1.length h2.c1, .slice h2.A2 o2.f2.length h2.c2] := by
    rw [hW]; have := Bk.new (w.alloc (.cells #[.slice h1.A0 o1.f0.length h1.c0, .slice h1.A1 o1.f1.length h1.c1, .slice h1.A2 o1.f2.length h1.c2] 66)) #[.slice h2.A0 o2.f0.length h2.c0, .slice h2.A1 o2.f1.length h2.c1, .slice h2.A2 o2.f2.length h2.c2] 66
    rwa [World.size_alloc] at this
  have P0 := Lib.hid (r1.below bW hB)
  have Q0 := Lib.hid (r2.below bW hB)
  have K00 := Lib.hid k0
  have K10 := Lib.hid k1
  have B0 := Lib.hid bW
  have z0 := bW.size
  have HW := Lib.hid hW
  have LL1 := Lib.hid L1
  have LL2 := Lib.hid L2
  clear hW bW k0 k1 r1 r2 L1 L2
  by_cases q0 : o1.f0 = o2.f0
  rotate_left
  · have Y0 := Lib.hid q0
    have hfin : Hid (r = false) := Lib.hid (by rw [← hr.out]; exact decide_eq_false (fun e => Y0.out (by rw [e])))
    clear hr q0
    go_enter Try.func59, Try.ntmps59
    go_wp2_with fail
    rw [← HW.out]
    refine (eqIss_any ⟨h1.A0, h1.c0⟩ ⟨h2.A0, h2.c0⟩ o1.f0 o2.f0 W B P0.out.r0 Q0.out.r0 (by omega) LL1.out.i0 LL2.out.i0 false (Lib.hid (by simpa using Y0.out))).mono ?_
    rintro e u1 ⟨rfl, hb⟩
    have B1 := Lib.hid (below_on B0.out hb)
    clear hb
    go_wp2
    go_ret
    exact ⟨by rw [hfin.out]; rfl, B1.out⟩
  have Y0 := Lib.hid q0
  clear q0
  by_cases q1 : o1.f1 = o2.f1
  rotate_left
  · have Y1 := Lib.hid q1
    have hfin : Hid (r = false) := Lib.hid (by rw [← hr.out]; exact decide_eq_false (fun e => Y1.out (by rw [e])))
    clear hr q1
    go_enter Try.func59, Try.ntmps59
    go_wp2_with fail
    rw [← HW.out]
    refine (eqIss_any ⟨h1.A0, h1.c0⟩ ⟨h2.A0, h2.c0⟩ o1.f0 o2.f0 W B P0.out.r0 Q0.out.r0 (by omega) LL1.out.i0 LL2.out.i0 true (Lib.hid (by simpa using Y0.out))).mono ?_
    rintro e u1 ⟨rfl, hb⟩
    have B1 := Lib.hid (below_on B0.out hb)
    have P1 := Lib.hid (P0.out.below hb (by omega))
    have Q1 := Lib.hid (Q0.out.below hb (by omega))
    have K01 := Lib.hid (K00.out.below hb K00.out.lt)
    have K11 := Lib.hid (K10.out.below hb K10.out.lt)
    have z1 := hb.size
    have ca : u1.cell? ⟨w.heap.size, 1, none⟩ = some (.slice h1.A1 o1.f1.length h1.c1) := K01.out.cell 1
    have cb : u1.cell? ⟨w.heap.size + 1, 1, none⟩ = some (.slice h2.A1 o2.f1.length h2.c1) := K11.out.cell 1
    clear hb
    go_wp2_with fail
    refine (eqIss_any ⟨h1.A1, h1.c1⟩ ⟨h2.A1, h2.c1⟩ o1.f1 o2.f1 u1 B P1.out.r1 Q1.out.r1 (by omega) LL1.out.i1 LL2.out.i1 false (Lib.hid (by simpa using Y1.out))).mono ?_
    rintro e u2 ⟨rfl, hb⟩
    have B2 := Lib.hid (below_on B1.out hb)
    clear hb
    go_wp2
    go_ret
    exact ⟨by rw [hfin.out]; rfl, B2.out⟩
  have Y1 := Lib.hid q1
  clear q1
  by_cases q2 : o1.f2 = o2.f2
  rotate_left
  · have Y2 := Lib.hid q2
    have hfin : Hid (r = false) := Lib.hid (by rw [← hr.out]; exact decide_eq_false (fun e => Y2.out (by rw [e])))
    clear hr q2
    go_enter Try.func59, Try.ntmps59
    go_wp2_with fail
    rw [← HW.out]
    refine (eqIss_any ⟨h1.A0, h1.c0⟩ ⟨h2.A0, h2.c0⟩ o1.f0 o2.f0 W B P0.out.r0 Q0.out.r0 (by omega) LL1.out.i0 LL2.out.i0 true (Lib.hid (by simpa using Y0.out))).mono ?_
    rintro e u1 ⟨rfl, hb⟩
    have B1 := Lib.hid (below_on B0.out hb)
    have P1 := Lib.hid (P0.out.below hb (by omega))
    have Q1 := Lib.hid (Q0.out.below hb (by omega))
    have K01 := Lib.hid (K00.out.below hb K00.out.lt)
    have K11 := Lib.hid (K10.out.below hb K10.out.lt)
    have z1 := hb.size
    have ca : u1.cell? ⟨w.heap.size, 1, none⟩ = some (.slice h1.A1 o1.f1.length h1.c1) := K01.out.cell 1
    have cb : u1.cell? ⟨w.heap.size + 1, 1, none⟩ = some (.slice h2.A1 o2.f1.length h2.c1) := K11.out.cell 1
    clear hb
    go_wp2_with fail
    refine (eqIss_any ⟨h1.A1, h1.c1⟩ ⟨h2.A1, h2.c1⟩ o1.f1 o2.f1 u1 B P1.out.r1 Q1.out.r1 (by omega) LL1.out.i1 LL2.out.i1 true (Lib.hid (by simpa using Y1.out))).mono ?_
    rintro e u2 ⟨rfl, hb⟩
    have B2 := Lib.hid (below_on B1.out hb)
    have P2 := Lib.hid (P1.out.below hb (by omega))
    have Q2 := Lib.hid (Q1.out.below hb (by omega))
    have K02 := Lib.hid (K01.out.below hb K01.out.lt)
    have K12 := Lib.hid (K11.out.below hb K11.out.lt)
    have z2 := hb.size
    have ca : u2.cell? ⟨w.heap.size, 2, none⟩ = some (.slice h1.A2 o1.f2.length h1.c2) := K02.out.cell 2
    have cb : u2.cell? ⟨w.heap.size + 1, 2, none⟩ = some (.slice h2.A2 o2.f2.length h2.c2) := K12.out.cell 2
    clear hb
    go_wp2_with fail
    refine (eqIss_any ⟨h1.A2, h1.c2⟩ ⟨h2.A2, h2.c2⟩ o1.f2 o2.f2 u2 B P2.out.r2 Q2.out.r2 (by omega) LL1.out.i2 LL2.out.i2 false (Lib.hid (by simpa using Y2.out))).mono ?_
    rintro e u3 ⟨rfl, hb⟩
    have B3 := Lib.hid (below_on B2.out hb)
    clear hb
    go_wp2
    go_ret
    exact ⟨by rw [hfin.out]; rfl, B3.out⟩
  have Y2 := Lib.hid q2
  clear q2
  have hfin : Hid (r = true) := Lib.hid (by
    rw [← hr.out]; apply decide_eq_true; cases o1; cases o2; simp only [Cks.mk.injEq]; exact ⟨Y0.out, Y1.out, Y2.out⟩)
  clear hr
  go_enter Try.func59, Try.ntmps59
  go_wp2_with fail
  rw [← HW.out]
  refine (eqIss_any ⟨h1.A0, h1.c0⟩ ⟨h2.A0, h2.c0⟩ o1.f0 o2.f0 W B P0.out.r0 Q0.out.r0 (by omega) LL1.out.i0 LL2.out.i0 true (Lib.hid (by simpa using Y0.out))).mono ?_
  rintro e u1 ⟨rfl, hb⟩
  have B1 := Lib.hid (below_on B0.out hb)
  have P1 := Lib.hid (P0.out.below hb (by omega))
  have Q1 := Lib.hid (Q0.out.below hb (by omega))
  have K01 := Lib.hid (K00.out.below hb K00.out.lt)
  have K11 := Lib.hid (K10.out.below hb K10.out.lt)
  have z1 := hb.size
  have ca : u1.cell? ⟨w.heap.size, 1, none⟩ = some (.slice h1.A1 o1.f1.length h1.c1) := K01.out.cell 1
  have cb : u1.cell? ⟨w.heap.size + 1, 1, none⟩ = some (.slice h2.A1 o2.f1.length h2.c1) := K11.out.cell 1
  clear hb
  go_wp2_with fail
  refine (eqIss_any ⟨h1.A1, h1.c1⟩ ⟨h2.A1, h2.c1⟩ o1.f1 o2.f1 u1 B P1.out.r1 Q1.out.r1 (by omega) LL1.out.i1 LL2.out.i1 true (Lib.hid (by simpa using Y1.out))).mono ?_
  rintro e u2 ⟨rfl, hb⟩
  have B2 := Lib.hid (below_on B1.out hb)
  have P2 := Lib.hid (P1.out.below hb (by omega))
  have Q2 := Lib.hid (Q1.out.below hb (by omega))
  have K02 := Lib.hid (K01.out.below hb K01.out.lt)
  have K12 := Lib.hid (K11.out.below hb K11.out.lt)
  have z2 := hb.size
  have ca : u2.cell? ⟨w.heap.size, 2, none⟩ = some (.slice h1.A2 o1.f2.length h1.c2) := K02.out.cell 2
  have cb : u2.cell? ⟨w.heap.size + 1, 2, none⟩ = some (.slice h2.A2 o2.f2.length h2.c2) := K12.out.cell 2
  clear hb
  go_wp2_with fail
  refine (eqIss_any ⟨h1.A2, h1.c2⟩ ⟨h2.A2, h2.c2⟩ o1.f2 o2.f2 u2 B P2.out.r2 Q2.out.r2 (by omega) LL1.out.i2 LL2.out.i2 true (Lib.hid (by simpa using Y2.out))).mono ?_
  rintro e u3 ⟨rfl, hb⟩
  have B3 := Lib.hid (below_on B2.out hb)
  clear hb
  go_wp2
  go_ret
  exact ⟨by rw [hfin.out]; rfl, B3.out⟩
def allCks (o : Cks) : Int := (tot o.f0 : Int) + (tot o.f1 : Int) + (tot o.f2 : Int)
theorem allCks_at (K : Int) (o : Cks) : K + allCks o = K + allIss o.f0 + allIss o.f1 + allIss o.f2 := by unfold allCks allIss; omega
def upCks (K : Int) (o : Cks) : Cks := ⟨upIss K o.f0, upIss (K + allIss o.f0) o.f1, upIss (K + allIss o.f0 + allIss o.f1) o.f2⟩
theorem markCks_any (h : CksH) (o : Cks) (K : Int) (w : World) (lo hi : Nat) (hO : CksO w lo hi h o) (hhi : hi ≤ w.heap.size) (hL : CksL o 1048576) (hK : 0 ≤ K) (hK2 : K ≤ 1000000) :
    Calls Try.prog 60 #[CksV h o, .int .i64 K] w fun e w' => e = .returned (.int .i64 (K + allCks o)) ∧ Only lo hi w w' ∧ CksO w' lo hi h (upCks K o) := by
  obtain ⟨m1, m2, a0, a1, a2, i0, i1, i2⟩ := hO
  have g0 : 0 ≤ allIss o.f0 ∧ allIss o.f0 ≤ 1048576 := by have := hL.t0; unfold allIss; omega
  have g1 : 0 ≤ allIss o.f1 ∧ allIss o.f1 ≤ 1048576 := by have := hL.t1; unfold allIss; omega
  have g2 : 0 ≤ allIss o.f2 ∧ allIss o.f2 ≤ 1048576 := by have := hL.t2; unfold allIss; omega
  obtain ⟨W, hW⟩ : ∃ W, W = w.alloc (.cells #[.slice h.A0 o.f0.length h.c0, .slice h.A1 o.f1.length h.c1, .slice h.A2 o.f2.length h.c2] 66) := ⟨_, rfl⟩
  have bW : Below w.heap.size w W := by rw [hW]; go_grown
  have k0 : Bk W w.heap.size 66 #[.slice h.A0 o.f0.length h.c0, .slice h.A1 o.f1.length h.c1, .slice h.A2 o.f2.length h.c2] := by rw [hW]; exact Bk.new w _ _
  have zW := bW.size
  have J0 := Lib.hid (i0.below bW (by omega))
  have J1 := Lib.hid (i1.below bW (by omega))
  have J2 := Lib.hid (i2.below bW (by omega))
  have On0 := Lib.hid (Only.of_below (lo := lo) (hi := hi) bW)
  have K00 := Lib.hid k0
  have HW := Lib.hid hW
  have HL := Lib.hid hL
  clear hW bW k0 i0 i1 i2 hL
  go_enter Try.func60, Try.ntmps60
  go_wp2_with fail
  rw [← HW.out]
  refine (markIss_any ⟨h.A0, h.c0⟩ o.f0 K W lo m1 J0.out (by omega) HL.out.i0 hK (by omega)).mono ?_
  rintro e u1 ⟨rfl, on, own⟩
  have z1 := on.size
  have K01 := Lib.hid (only_bk K00.out on (by omega))
  have On1 := Lib.hid (On0.out.trans (on.mono (Nat.le_refl _) (by omega)))
  have M0 := Lib.hid own
  have N1 := Lib.hid (J1.out.keep (w' := u1) (Nat.le_refl _) (Nat.le_refl _) fun i h1 h2 => on.block i (by omega) (by omega))
  have N2 := Lib.hid (J2.out.keep (w' := u1) (Nat.le_refl _) (Nat.le_refl _) fun i h1 h2 => on.block i (by omega) (by omega))
  clear on own J0 J1 J2
  have c1 : u1.cell? ⟨w.heap.size, 1, none⟩ = some (.slice h.A1 o.f1.length h.c1) := K01.out.cell 1
  go_wp2_with fail
  clear c1
  refine (markIss_any ⟨h.A1, h.c1⟩ o.f1 (K + allIss o.f0) u1 m1 m2 N1.out (by omega) HL.out.i1 (by omega) (by omega)).mono ?_
  rintro e u2 ⟨rfl, on, own⟩
  have z2 := on.size
  have K02 := Lib.hid (only_bk K01.out on (by omega))
  have On2 := Lib.hid (On1.out.trans (on.mono (by omega) (by omega)))
  have P0 := Lib.hid (M0.out.keep (w' := u2) (Nat.le_refl _) (Nat.le_refl _) fun i h1 h2 => on.block i (by omega) (by omega))
  have P1 := Lib.hid own
  have P2 := Lib.hid (N2.out.keep (w' := u2) (Nat.le_refl _) (Nat.le_refl _) fun i h1 h2 => on.block i (by omega) (by omega))
  clear on own M0 N1 N2
  have c2 : u2.cell? ⟨w.heap.size, 2, none⟩ = some (.slice h.A2 o.f2.length h.c2) := K02.out.cell 2
  go_wp2_with fail
  clear c2
  refine (markIss_any ⟨h.A2, h.c2⟩ o.f2 (K + allIss o.f0 + allIss o.f1) u2 m2 hi P2.out (by omega) HL.out.i2 (by omega) (by omega)).mono ?_
  rintro e u3 ⟨rfl, on, own⟩
  have On3 := Lib.hid (On2.out.trans (on.mono (by omega) (Nat.le_refl _)))
  have Q0 := Lib.hid (P0.out.keep (w' := u3) (Nat.le_refl _) (Nat.le_refl _) fun i h1 h2 => on.block i (by omega) (by omega))
  have Q1 := Lib.hid (P1.out.keep (w' := u3) (Nat.le_refl _) (Nat.le_refl _) fun i h1 h2 => on.block i (by omega) (by omega))
  have Q2 := Lib.hid own
  clear on own P0 P1 P2
  go_wp2
  go_ret
  exact ⟨by rw [allCks_at]; rfl, On3.out, m1, m2, a0, a1, a2, Q0.out, Q1.out, Q2.out⟩
theorem heldCks_any (h : CksH) (o : Cks) (K : Int) (w : World) (B : Nat) (hR : CksR w B h (upCks K o)) (hB : B ≤ w.heap.size) (hL : CksL o 1048576) (hK : 0 ≤ K) (hK2 : K ≤ 1000000) :
    Calls Try.prog 61 #[CksV h o, .int .i64 K] w fun e w' => e = .returned (.int .i64 (K + allCks o)) ∧ Below w.heap.size w w' := by
  have g0 : 0 ≤ allIss o.f0 ∧ allIss o.f0 ≤ 1048576 := by have := hL.t0; unfold allIss; omega
  have g1 : 0 ≤ allIss o.f1 ∧ allIss o.f1 ≤ 1048576 := by have := hL.t1; unfold allIss; omega
  have g2 : 0 ≤ allIss o.f2 ∧ allIss o.f2 ≤ 1048576 := by have := hL.t2; unfold allIss; omega
  obtain ⟨W, hW⟩ : ∃ W, W = w.alloc (.cells #[.slice h.A0 o.f0.length h.c0, .slice h.A1 o.f1.length h.c1, .slice h.A2 o.f2.length h.c2] 66) := ⟨_, rfl⟩
  have bW : Below w.heap.size w W := by rw [hW]; go_grown
  have k0 : Bk W w.heap.size 66 #[.slice h.A0 o.f0.length h.c0, .slice h.A1 o.f1.length h.c1, .slice h.A2 o.f2.length h.c2] := by rw [hW]; exact Bk.new w _ _
  have zW := bW.size
  have J := Lib.hid (hR.below bW hB)
  have BW := Lib.hid bW
  have K00 := Lib.hid k0
  have HW := Lib.hid hW
  have HL := Lib.hid hL
  clear hW bW k0 hR hL
  go_enter Try.func61, Try.ntmps61
  go_wp2_with fail
  rw [← HW.out]
  refine (heldIss_any ⟨h.A0, h.c0⟩ o.f0 K W B J.out.r0 (by omega) HL.out.i0 hK (by omega)).mono ?_
  rintro e u1 ⟨rfl, hb⟩
  have z1 := hb.size
  have B1 := Lib.hid (below_on BW.out hb)
  have K01 := Lib.hid (K00.out.below hb K00.out.lt)
  have J1 := Lib.hid (J.out.below hb (by omega))
  clear hb
  have c1 : u1.cell? ⟨w.heap.size, 1, none⟩ = some (.slice h.A1 o.f1.length h.c1) := K01.out.cell 1
  go_wp2_with fail
  clear c1
  refine (heldIss_any ⟨h.A1, h.c1⟩ o.f1 (K + allIss o.f0) u1 B J1.out.r1 (by omega) HL.out.i1 (by omega) (by omega)).mono ?_
  rintro e u2 ⟨rfl, hb⟩
  have z2 := hb.size
  have B2 := Lib.hid (below_on B1.out hb)
  have K02 := Lib.hid (K01.out.below hb K01.out.lt)
  have J2 := Lib.hid (J1.out.below hb (by omega))
  clear hb
  have c2 : u2.cell? ⟨w.heap.size, 2, none⟩ = some (.slice h.A2 o.f2.length h.c2) := K02.out.cell 2
  go_wp2_with fail
  clear c2
  refine (heldIss_any ⟨h.A2, h.c2⟩ o.f2 (K + allIss o.f0 + allIss o.f1) u2 B J2.out.r2 (by omega) HL.out.i2 (by omega) (by omega)).mono ?_
  rintro e u3 ⟨rfl, hb⟩
  have B3 := Lib.hid (below_on B2.out hb)
  clear hb
  go_wp2
  go_ret
  exact ⟨by rw [allCks_at]; rfl, B3.out⟩
end Go.Proofs.Ytidibnmlceccnaa
namespace Go.Proofs.Ytidibnmlceccnaa
open Go.RowKit Pl Go.BigFrame
set_option maxHeartbeats 8000000
set_option maxRecDepth 100000
set_option linter.unusedVariables false

/-- The clocks behind all events. -/
def behL (n : Nat) (l : Evts) : Cks := ⟨rowsF n n (stK l l.length), rowsF n 2 (fun a => stK l l.length (6 + a)), rowsF n 2 (fun a => stK l l.length (8 + a))⟩
def behE (L : Pg) (xs : List Int) : Cks := if evR L xs then behL L.length (evE L xs) else ⟨[], [], []⟩
theorem behE_small {L : Pg} {xs : List Int} (_ : PgS L) (_ : IsS xs) : CksS (behE L xs) := by
  unfold behE
  split
  · rename_i h
    have F := ev_f h
    have h2 := F.h32
    have m1 : L.length * L.length ≤ 3 * 3 := Nat.mul_le_mul h2 h2
    unfold behL
    refine ⟨?_, ?_, ?_, ?_, ?_, ?_⟩
    all_goals (dsimp only; first | rw [rowsF_length] | rw [tot_rowsF])
    all_goals omega
  · exact ⟨by simp, by simp [tot], by simp, by simp [tot], by simp, by simp [tot]⟩
theorem ibeh_any (h : PgH) (L : Pg) (k : IsH) (xs : List Int) (w : World) (B : Nat) (hP : PgR w B h L) (hV : IsR w B k xs) (hB : B ≤ w.heap.size) (SP : PgS L) (LS : IsS xs) :
    Calls Try.prog 58 #[PgV h L, IsV k xs] w (AnsCks w (behE L xs) (evR L xs)) := by
  obtain ⟨W, hW⟩ : ∃ W, W = (w.alloc (.cells #[.slice h.A L.length h.c] 32)).alloc (.cells #[.slice none 0 0, .slice none 0 0, .slice none 0 0] 66) := ⟨_, rfl⟩
  have bW : Below w.heap.size w W := by rw [hW]; go_grown
  have kP : Bk W w.heap.size 32 #[.slice h.A L.length h.c] := by rw [hW]; exact (Bk.new _ _ _).alloc _
  have kR : Bk W (w.heap.size + 1) 66 #[.slice none 0 0, .slice none 0 0, .slice none 0 0] := by
    rw [hW]; have := Bk.new (w.alloc (.cells #[.slice h.A L.length h.c] 32)) #[.slice none 0 0, .slice none 0 0, .slice none 0 0] 66
    rwa [World.size_alloc] at this
  have KW := Lib.hid kP
  have KR := Lib.hid kR
  have RW := Lib.hid (hP.below bW hB)
  have VW := Lib.hid (hV.below bW hB)
  have BW := Lib.hid bW
  have hBW : B ≤ W.heap.size := Nat.le_trans hB bW.size
  have HW := Lib.hid hW
  have F := Lib.hid (fun (hr : evR L xs = true) => ev_f (L := L) (xs := xs) hr)
  have hev := ievs_any h L k xs W B RW.out VW.out hBW SP LS
  unfold behE
  generalize evE L xs = l at hev F
  generalize evR L xs = r at hev F
  obtain ⟨E, hE⟩ : ∃ E, (if r = true then behL L.length l else ⟨[], [], []⟩ : Cks) = E := ⟨_, rfl⟩
  rw [hE]
  have HE := Lib.hid hE
  have cP := KW.out.cell 0
  have lP := KW.out.lt
  clear hW bW hP hV kP kR hE
  go_enter Try.func58, Try.ntmps58
  go_wp2_with fail
  rw [← HW.out]
  go_wp2_with fail
  refine hev.mono ?_
  clear hev cP lP
  rintro e w1 ⟨ke, rfl, hb1, hz1, ho1⟩
  have X1 := Lib.hid hb1
  have B1 := Lib.hid (below_on BW.out hb1)
  have O1 := Lib.hid ho1
  have K1 := Lib.hid (KW.out.below hb1 KW.out.lt)
  have R1 := Lib.hid (KR.out.below hb1 KR.out.lt)
  clear hb1 ho1
  cases r with
  | false =>
    have e0 : E = ⟨[], [], []⟩ := HE.out.symm
    subst e0
    have r0 := R1.out.cell 0
    have r1 := R1.out.cell 1
    have r2 := R1.out.cell 2
    simp only [List.getElem?_toArray, List.getElem?_cons_zero, List.getElem?_cons_succ] at r0 r1 r2
    have f0 := R1.out.free 0
    have f1 := R1.out.free 1
    have f2 := R1.out.free 2
    have rl := R1.out.lt
    obtain ⟨G, hG⟩ : ∃ G, G = ((w1.setCell ⟨w.heap.size + 1, 0, none⟩ (.slice none 0 0)).setCell ⟨w.heap.size + 1, 1, none⟩ (.slice none 0 0)).setCell ⟨w.heap.size + 1, 2, none⟩ (.slice none 0 0) := ⟨_, rfl⟩
    have kG : Bk G (w.heap.size + 1) 66 #[.slice none 0 0, .slice none 0 0, .slice none 0 0] := by
      rw [hG]; have := ((R1.out.set 0 (.slice none 0 0)).set 1 (.slice none 0 0)).set 2 (.slice none 0 0); simpa using this
    have bG : Below w.heap.size w G := by
      rw [hG]; exact ((B1.out.setCell (p := ⟨w.heap.size + 1, 0, none⟩) (Nat.le_succ _) _).setCell (p := ⟨w.heap.size + 1, 1, none⟩) (Nat.le_succ _) _).setCell (p := ⟨w.heap.size + 1, 2, none⟩) (Nat.le_succ _) _
    have d0 := kG.cell 0
    have d1 := kG.cell 1
    have d2 := kG.cell 2
    simp only [List.getElem?_toArray, List.getElem?_cons_zero, List.getElem?_cons_succ] at d0 d1 d2
    have BG := Lib.hid bG
    have HG := Lib.hid hG
    clear kG bG hG
    go_wp2
    rw [← HG.out]
    refine bodyPost_ret (v := .tuple #[.agg #[.slice none 0 0, .slice none 0 0, .slice none 0 0], .bool false]) (by simp [results, Try.results58, d0, d1, d2, go_sem]) rfl ?_
    exact ⟨⟨none, none, none, 0, 0, 0⟩, rfl, BG.out, BG.out.size, _, _, Nat.le_refl _, Nat.le_refl _, BG.out.size, ⟨OwnVss.nil _ _ _ _ _ _⟩, ⟨OwnVss.nil _ _ _ _ _ _⟩, ⟨OwnVss.nil _ _ _ _ _ _⟩⟩
  | true =>
    have e0 : E = behL L.length l := HE.out.symm
    have FF := Lib.hid (F.out rfl)
    have h9 := FF.out.few
    have h31 := FF.out.h31
    have h32 := FF.out.h32
    clear F
    go_wp2_with fail
    refine (cwords_any ke l w1 w1.heap.size O1.out.rd (Nat.le_refl _) h9 FF.out.th).mono ?_
    rintro e w2 ⟨rfl, hq2⟩
    have B2 := Lib.hid (below_on B1.out hq2.1)
    have K2 := Lib.hid (K1.out.below hq2.1 K1.out.lt)
    have R2 := Lib.hid (R1.out.below hq2.1 R1.out.lt)
    have hl2 := (hq2.cellS (p := 0) (by omega)).2.2
    have CS := Lib.hid (show ∀ p, p < 10 → w2.cell? ⟨w1.heap.size + 1, p, none⟩ = some (.int .u64 (enc WC (stK l l.length p) : Nat)) from fun p hp => (hq2.cellS hp).1)
    have cP := K2.out.cell 0
    have lP := K2.out.lt
    have lz := BW.out.size
    have lz1 := X1.out.size
    have U0 := Lib.hid (fun (v : World) (hb : Below w2.heap.size w2 v) => unpclk_any h L (w1.heap.size + 1) 0 L.length 10 (fun j => stK l l.length j) v h32 (fun j _ => st_low (by omega) j) (fun j hj => (hb.cell (p := ⟨w1.heap.size + 1, 0 + j, none⟩) hl2).trans (by rw [Nat.zero_add]; exact CS.out j (by omega))) (Nat.lt_of_lt_of_le hl2 hb.size) (by omega))
    have U1 := Lib.hid (fun (v : World) (hb : Below w2.heap.size w2 v) => unpclk_any h L (w1.heap.size + 1) 6 2 4 (fun j => stK l l.length (6 + j)) v h32 (fun j _ => st_low (by omega) _) (fun j hj => (hb.cell (p := ⟨w1.heap.size + 1, 6 + j, none⟩) hl2).trans (CS.out (6 + j) (by omega))) (Nat.lt_of_lt_of_le hl2 hb.size) (by omega))
    have U2 := Lib.hid (fun (v : World) (hb : Below w2.heap.size w2 v) => unpclk_any h L (w1.heap.size + 1) 8 2 2 (fun j => stK l l.length (8 + j)) v h32 (fun j _ => st_low (by omega) _) (fun j hj => (hb.cell (p := ⟨w1.heap.size + 1, 8 + j, none⟩) hl2).trans (CS.out (8 + j) (by omega))) (Nat.lt_of_lt_of_le hl2 hb.size) (by omega))
    clear hq2
    have tok0 : True := trivial
    have tok1 : True := trivial
    have tok2 : True := trivial
    have AllS := Lib.hid (show ∀ w', Below w2.heap.size w2 w' → w'.cell? ⟨w.heap.size, 0, none⟩ = some (.slice h.A L.length h.c) from fun w' hb => (hb.cell (p := ⟨w.heap.size, 0, none⟩) lP).trans cP)
    have AllF := Lib.hid (show ∀ v : World, Below w2.heap.size w2 v → ∀ a b c : Value, (((v.setCell ⟨w.heap.size + 1, 0, none⟩ a).setCell ⟨w.heap.size + 1, 1, none⟩ b).setCell ⟨w.heap.size + 1, 2, none⟩ c).cell? ⟨w.heap.size, 0, none⟩ = some (.slice h.A L.length h.c) from fun v hb a b c => (World.cell?_setCell_far _ _ _ _ (show w.heap.size + 1 ≠ w.heap.size by omega)).trans ((World.cell?_setCell_far _ _ _ _ (show w.heap.size + 1 ≠ w.heap.size by omega)).trans ((World.cell?_setCell_far _ _ _ _ (show w.heap.size + 1 ≠ w.heap.size by omega)).trans (AllS.out v hb))))
    have cP : w2.cell? ⟨w.heap.size, 0, none⟩ = some (.slice h.A L.length h.c) := cP
    have n0 : (0 : Int) ≤ (L.length : Int) := by omega
    have n1 : (L.length : Int) ≤ 10 := by omega
    have wl : IntKind.i64.wrap (L.length : Int) = (L.length : Int) := wrap64_small (by omega) (by omega)
    have wl0 : IntKind.i64.wrap (0 + (L.length : Int)) = (L.length : Int) := by rw [Int.zero_add]; exact wl
    have n2 : L.length ≤ 10 := by omega
    go_wp2_with fail
    go_region_held3 (fun w' => w'.cell? ⟨w.heap.size, 0, none⟩ = some (.slice h.A L.length h.c)) (first | (with_reducible exact Fin.out) | (refine AllS.out _ ?_; go_grown; done)) (first | (go_at_call 102; clear tok0; refine (U0.out _ (show Below w2.heap.size w2 _ from by go_grown)).mono ?_; rintro e v0 ⟨k0, rfl, hv, hs0, ov⟩; have V0 := Lib.hid ov; have Y0 := Lib.hid hv; have hBv0 : Below w2.heap.size w2 v0 := below_on (show Below w2.heap.size w2 _ from by go_grown) hv; have hh0 := hs0; clear hv ov hs0) | (go_at_call 102; clear tok1; refine (U1.out _ (show Below w2.heap.size w2 _ from by go_grown)).mono ?_; rintro e v1 ⟨k1, rfl, hv, hs1, ov⟩; have V1 := Lib.hid ov; have Y1 := Lib.hid hv; have hBv1 : Below w2.heap.size w2 v1 := below_on (show Below w2.heap.size w2 _ from by go_grown) hv; have hh1 := hs1; clear hv ov hs1) | (go_at_call 102; clear tok2; refine (U2.out _ (show Below w2.heap.size w2 _ from by go_grown)).mono ?_; rintro e v2 ⟨k2, rfl, hv, hs2, ov⟩; have V2 := Lib.hid ov; have Y2 := Lib.hid hv; have hBv2 : Below w2.heap.size w2 v2 := below_on (show Below w2.heap.size w2 _ from by go_grown) hv; have hh2 := hs2; clear hv ov hs2; have kk := R2.out.below hBv2 R2.out.lt; have f0 := kk.free 0; have f1 := kk.free 1; have f2 := kk.free 2; have g0 : v2.cell? ⟨w.heap.size + 1, 0, none⟩ = some (.slice none 0 0) := kk.cell 0; have g1 : v2.cell? ⟨w.heap.size + 1, 1, none⟩ = some (.slice none 0 0) := kk.cell 1; have g2 : v2.cell? ⟨w.heap.size + 1, 2, none⟩ = some (.slice none 0 0) := kk.cell 2; have lk := kk.lt; have Fin := Lib.hid (AllF.out v2 hBv2 (.slice k0.A L.length k0.c) (.slice k1.A 2 k1.c) (.slice k2.A 2 k2.c)); clear kk))
    try clear hHeld
    clear cP AllS AllF Fin f0 f1 f2 g0 g1 g2 lk
    obtain ⟨G, hG⟩ : ∃ G, G = ((v2.setCell ⟨w.heap.size + 1, 0, none⟩ (.slice k0.A L.length k0.c)).setCell ⟨w.heap.size + 1, 1, none⟩ (.slice k1.A 2 k1.c)).setCell ⟨w.heap.size + 1, 2, none⟩ (.slice k2.A 2 k2.c) := ⟨_, rfl⟩
    have kG : Bk G (w.heap.size + 1) 66 #[.slice k0.A L.length k0.c, .slice k1.A 2 k1.c, .slice k2.A 2 k2.c] := by
      rw [hG]; have := (((R2.out.below hBv2 R2.out.lt).set 0 (.slice k0.A L.length k0.c)).set 1 (.slice k1.A 2 k1.c)).set 2 (.slice k2.A 2 k2.c); simpa using this
    have bG : Below w.heap.size w G := by
      rw [hG]; exact (((below_on B2.out hBv2).setCell (p := ⟨w.heap.size + 1, 0, none⟩) (Nat.le_succ _) _).setCell (p := ⟨w.heap.size + 1, 1, none⟩) (Nat.le_succ _) _).setCell (p := ⟨w.heap.size + 1, 2, none⟩) (Nat.le_succ _) _
    have sG : G.heap.size = v2.heap.size := by rw [hG]; simp
    have nG : ∀ q, q ≠ w.heap.size + 1 → G.heap[q]? = v2.heap[q]? := fun q hq => by
      rw [hG]; exact (Below.heap_setCell _ _ _ q hq).trans ((Below.heap_setCell _ _ _ q hq).trans (Below.heap_setCell _ _ _ q hq))
    have d0 := kG.cell 0
    have d1 := kG.cell 1
    have d2 := kG.cell 2
    simp only [List.getElem?_toArray, List.getElem?_cons_zero, List.getElem?_cons_succ] at d0 d1 d2
    have BG := Lib.hid bG
    have HG := Lib.hid hG
    have NG := Lib.hid nG
    have sGa := Nat.le_of_eq sG
    have sGb := Nat.le_of_eq sG.symm
    clear kG bG hG nG sG
    have zz0 := hBv0.size
    have zz1 := hBv1.size
    have zz2 := hBv2.size
    have lw2 : w.heap.size + 1 < w2.heap.size := R2.out.lt
    go_wp2
    rw [← HG.out]
    refine bodyPost_ret (v := .tuple #[.agg #[.slice k0.A L.length k0.c, .slice k1.A 2 k1.c, .slice k2.A 2 k2.c], .bool true]) (by simp [results, Try.results58, d0, d1, d2, go_sem]) rfl ?_
    subst e0
    have W0 : IssO v0 w2.heap.size v0.heap.size k0 (rowsF L.length L.length (stK l l.length)) := V0.out
    have y1 := Y1.out
    have y2 := Y2.out
    have ng := NG.out
    refine ⟨⟨k0.A, k1.A, k2.A, k0.c, k1.c, k2.c⟩, ?_, BG.out, BG.out.size, v0.heap.size, v1.heap.size, by omega, hh1, by omega, ?_, ?_, ?_⟩
    · show Ending.returned (.tuple #[.agg #[.slice k0.A L.length k0.c, .slice k1.A 2 k1.c, .slice k2.A 2 k2.c], .bool true]) = Ending.returned (.tuple #[.agg #[.slice k0.A (rowsF L.length L.length (stK l l.length)).length k0.c, .slice k1.A (rowsF L.length 2 (fun a => stK l l.length (6 + a))).length k1.c, .slice k2.A (rowsF L.length 2 (fun a => stK l l.length (8 + a))).length k2.c], .bool true])
      rw [rowsF_length, rowsF_length, rowsF_length]
    · exact W0.keep (by omega) (Nat.le_refl _) fun q h1 h2 => (ng q (by omega)).trans ((y2.block q (by omega)).trans (y1.block q (by omega)))
    · exact V1.out.keep (Nat.le_refl _) (Nat.le_refl _) fun q h1 h2 => (ng q (by omega)).trans (y2.block q (by omega))
    · exact V2.out.keep (Nat.le_refl _) (by omega) fun q h1 h2 => ng q (by omega)
end Go.Proofs.Ytidibnmlceccnaa
namespace Go.Proofs.Ytidibnmlceccnaa
open Go.RowKit Pl Go.BigFrame
set_option maxHeartbeats 8000000
set_option maxRecDepth 100000
set_option linter.unusedVariables false

theorem tab_iss {w : World} {lo hi g m n b c : Nat} {S : Nat → Ck} {D : Nat → Nat} (h : TabC w lo hi g m n S D b) (hd : ∀ i j, i < m → j < m → D (b + i) = D (b + j) → i = j) : IssO w lo hi ⟨some ⟨g, 0, none⟩, c⟩ (rowsF n m (fun i => S (b + i))) := by
  obtain ⟨h0, h1, cs, hb, hr⟩ := h
  refine ⟨fun _ => ⟨g, cs, fun i => some ⟨D (b + i), 0, none⟩, fun i => if h : i < m then (hr i h).2.2.1.choose else 0, rfl, h0, h1, hb, fun i vs hi' => ?_, fun i j vs us hij hi' hj _ _ e => ?_⟩⟩
  · obtain ⟨xs, hxs, rfl⟩ := vsIss_inv hi'
    have him : i < m := by have := (List.getElem?_eq_some_iff.1 hxs).1; rwa [rowsF_length] at this
    rw [rowsF_at him] at hxs
    injection hxs with hxs
    subst hxs
    rw [ints_length, rowC_length]
    dsimp only
    rw [dif_pos him]
    obtain ⟨a1, a2, hc, cr, hbr, hcr⟩ := hr i him
    refine ⟨(hr i him).2.2.1.choose_spec, fun _ => ⟨D (b + i), cr, rfl, a1, a2, hbr, fun j v hj => ?_⟩⟩
    have hjl := (List.getElem?_eq_some_iff.1 hj).1
    rw [ints_length, rowC_length] at hjl
    have e : (ints (rowC n (S (b + i))))[j]? = some (.int .i64 (S (b + i) j : Nat)) := by simp [ints, rowC, hjl]
    rw [e] at hj
    injection hj with hj
    rw [← hj]; exact hcr j hjl
  · obtain ⟨xs, hxs, rfl⟩ := vsIss_inv hi'
    obtain ⟨ys, hys, rfl⟩ := vsIss_inv hj
    have a := (List.getElem?_eq_some_iff.1 hxs).1
    have b' := (List.getElem?_eq_some_iff.1 hys).1
    rw [rowsF_length] at a b'
    injection e with e
    injection e with e
    have := hd i j a b' e
    omega
theorem sbeh_any (h : PgH) (L : Pg) (k : IsH) (xs : List Int) (w : World) (B : Nat) (hP : PgR w B h L) (hV : IsR w B k xs) (hB : B ≤ w.heap.size) (SP : PgS L) (LS : IsS xs) :
    Calls Try.prog 57 #[PgV h L, IsV k xs] w (AnsICks w (behE L xs) (evR L xs)) := by
  obtain ⟨W, hW⟩ : ∃ W, W = (w.alloc (.cells #[.slice h.A L.length h.c] 32)).alloc (.cells #[.slice none 0 0, .slice none 0 0, .slice none 0 0] 66) := ⟨_, rfl⟩
  have bW : Below w.heap.size w W := by rw [hW]; go_grown
  have kP : Bk W w.heap.size 32 #[.slice h.A L.length h.c] := by rw [hW]; exact (Bk.new _ _ _).alloc _
  have kR : Bk W (w.heap.size + 1) 66 #[.slice none 0 0, .slice none 0 0, .slice none 0 0] := by
    rw [hW]; have := Bk.new (w.alloc (.cells #[.slice h.A L.length h.c] 32)) #[.slice none 0 0, .slice none 0 0, .slice none 0 0] 66
    rwa [World.size_alloc] at this
  have KW := Lib.hid kP
  have KR := Lib.hid kR
  have RW := Lib.hid (hP.below bW hB)
  have VW := Lib.hid (hV.below bW hB)
  have BW := Lib.hid bW
  have hBW : B ≤ W.heap.size := Nat.le_trans hB bW.size
  have HW := Lib.hid hW
  have F := Lib.hid (fun (hr : evR L xs = true) => ev_f (L := L) (xs := xs) hr)
  have hev := sevs_any h L k xs W B RW.out VW.out hBW SP LS
  unfold behE
  generalize evE L xs = l at hev F
  generalize evR L xs = r at hev F
  obtain ⟨E, hE⟩ : ∃ E, (if r = true then behL L.length l else ⟨[], [], []⟩ : Cks) = E := ⟨_, rfl⟩
  rw [hE]
  have HE := Lib.hid hE
  have cP := KW.out.cell 0
  have lP := KW.out.lt
  clear hW bW hP hV kP kR hE
  go_enter Try.func57, Try.ntmps57
  go_wp2_with fail
  rw [← HW.out]
  go_wp2_with fail
  refine hev.mono ?_
  clear hev cP lP
  rintro e w1 ⟨⟨A, c0⟩, he, hb1, hz1, ho1⟩
  have he : e = .returned (.tuple #[.slice A l.length c0, .bool r]) := he
  subst he
  have X1 := Lib.hid hb1
  have B1 := Lib.hid (below_on BW.out hb1)
  have O1 := Lib.hid (show EvsR w1 w1.heap.size ⟨A, c0⟩ l from ho1.rd)
  have K1 := Lib.hid (KW.out.below hb1 KW.out.lt)
  have R1 := Lib.hid (KR.out.below hb1 KR.out.lt)
  clear hb1 ho1
  cases r with
  | false =>
    have e0 : E = ⟨[], [], []⟩ := HE.out.symm
    subst e0
    have r0 := R1.out.cell 0
    have r1 := R1.out.cell 1
    have r2 := R1.out.cell 2
    simp only [List.getElem?_toArray, List.getElem?_cons_zero, List.getElem?_cons_succ] at r0 r1 r2
    have f0 := R1.out.free 0
    have f1 := R1.out.free 1
    have f2 := R1.out.free 2
    have rl := R1.out.lt
    obtain ⟨G, hG⟩ : ∃ G, G = ((w1.setCell ⟨w.heap.size + 1, 0, none⟩ (.slice none 0 0)).setCell ⟨w.heap.size + 1, 1, none⟩ (.slice none 0 0)).setCell ⟨w.heap.size + 1, 2, none⟩ (.slice none 0 0) := ⟨_, rfl⟩
    have kG : Bk G (w.heap.size + 1) 66 #[.slice none 0 0, .slice none 0 0, .slice none 0 0] := by
      rw [hG]; have := ((R1.out.set 0 (.slice none 0 0)).set 1 (.slice none 0 0)).set 2 (.slice none 0 0); simpa using this
    have bG : Below w.heap.size w G := by
      rw [hG]; exact ((B1.out.setCell (p := ⟨w.heap.size + 1, 0, none⟩) (Nat.le_succ _) _).setCell (p := ⟨w.heap.size + 1, 1, none⟩) (Nat.le_succ _) _).setCell (p := ⟨w.heap.size + 1, 2, none⟩) (Nat.le_succ _) _
    have d0 := kG.cell 0
    have d1 := kG.cell 1
    have d2 := kG.cell 2
    simp only [List.getElem?_toArray, List.getElem?_cons_zero, List.getElem?_cons_succ] at d0 d1 d2
    have BG := Lib.hid bG
    have HG := Lib.hid hG
    clear kG bG hG
    go_wp2
    rw [← HG.out]
    refine bodyPost_ret (v := .tuple #[.agg #[.slice none 0 0, .slice none 0 0, .slice none 0 0], .bool false]) (by simp [results, Try.results57, d0, d1, d2, go_sem]) rfl ?_
    exact ⟨⟨none, none, none, 0, 0, 0⟩, rfl, BG.out, BG.out.size, ⟨OwnVss.nil _ _ _ _ _ _⟩, ⟨OwnVss.nil _ _ _ _ _ _⟩, ⟨OwnVss.nil _ _ _ _ _ _⟩⟩
  | true =>
    have e0 : E = behL L.length l := HE.out.symm
    have FF := Lib.hid (F.out rfl)
    have h9 := FF.out.few
    have h31 := FF.out.h31
    have h32 := FF.out.h32
    clear F
    have cP := K1.out.cell 0
    have lP := K1.out.lt
    have HB := Lib.hid (sbeg_any L.length w1 h31 h32)
    go_wp2_with fail
    refine HB.out.mono ?_
    rintro e y ⟨z, D0, rfl, hby, hwk, -⟩
    have BY := Lib.hid hby
    have s1 := B1.out.size
    have s2 := hby.size
    have WK := Lib.hid hwk
    clear hby hwk cP lP
    go_wp2
    go_loopw [9] (fun i wr => ∃ (k : Nat) (Dz : Nat → Nat), k ≤ l.length ∧ i = .int .i64 k ∧ Below w1.heap.size w1 wr ∧ Wk wr w1.heap.size wr.heap.size L.length (stK l k) Dz z) (fun i _ => l.length - (intOf i).toNat)
    case atStart => exact ⟨0, D0, Nat.zero_le _, rfl, BY.out, by
      have e : stK l 0 = zS := by unfold stK; rw [List.take_zero]; rfl
      rw [e]; exact WK.out⟩
    case round =>
      obtain ⟨k, Dz, hk, rfl, hbel, hwk⟩ := hrel
      clear WK BY
      have hz := hbel.size
      by_cases hlt : k < l.length
      · obtain ⟨hV1⟩ := O1.out
        have hV1 : Vs w1 w1.heap.size A (evs l) := hV1
        obtain ⟨b, off, x, rfl, hb, hx, -, hx0, hx1, hx2, hx3, hx4, hx5, hx6⟩ := (hV1.below hbel (Nat.le_refl _)).ev_ hlt
        have hi2 : (k : Int) < (l.length : Int) := by omega
        have hbw : b < wr.heap.size := by omega
        obtain ⟨ht0, htn, hok⟩ := FF.out.all x (List.mem_of_getElem? hx)
        have hsame := step_same (S := stK l k) hok (fun h7 => FF.out.lock k x hx h7)
        have hst := stK_next hx
        have HS := Lib.hid (step_any z w1.heap.size L.length (stK l k) Dz x wr hwk hz h32 ht0 htn hok (fun p q => by have := stK_le l k p q; omega))
        have Hb := Lib.hid hbel
        have Hsame := Lib.hid hsame
        have Hst := Lib.hid hst
        clear hbel hwk hx hsame hst
        go_wp2_with fail
        refine HS.out.mono ?_
        rintro e v ⟨g1, c1, Dn, rfl, hg1, hN, hbv, hwv, hfr⟩
        rw [Hsame.out.2, ← Hst.out] at hwv
        have Hb1 := Lib.hid (Hb.out.trans hbv)
        have Hwv := Lib.hid hwv
        clear hN hbv hwv hfr HS hx0 hx1 hx2 hx3 hx4 hx5 hx6
        go_wp2
        go_roundw
        case rel => exact ⟨k + 1, Dn, by omega, by go_num, Hb1.out, Hwv.out⟩
        case measure => simp [intOf]; omega
      · have hkl : k = l.length := by omega
        subst hkl
        have WV := Lib.hid hwk
        have Rr := Lib.hid (R1.out.below hbel R1.out.lt)
        have Br := Lib.hid (B1.out.trans (hbel.mono s1))
        clear hbel hwk
        have x0 := WV.out.bx.cell 0
        have x1 := WV.out.bx.cell 1
        have x2 := WV.out.bx.cell 2
        have r0 := Rr.out.cell 0
        have r1 := Rr.out.cell 1
        have r2 := Rr.out.cell 2
        simp only [List.getElem?_toArray, List.getElem?_cons_zero, List.getElem?_cons_succ] at x0 x1 x2 r0 r1 r2
        have f0 := Rr.out.free 0
        have f1 := Rr.out.free 1
        have f2 := Rr.out.free 2
        have rl := Rr.out.lt
        have zl := WV.out.b0.2
        have z0 := WV.out.b0.1
        have rw1 : w.heap.size + 1 < w1.heap.size := R1.out.lt
        obtain ⟨G, hG⟩ : ∃ G, G = ((wr.setCell ⟨w.heap.size + 1, 0, none⟩ (.slice (some ⟨z.gT, 0, none⟩) L.length z.cT)).setCell ⟨w.heap.size + 1, 1, none⟩ (.slice (some ⟨z.gL, 0, none⟩) 2 z.cL)).setCell ⟨w.heap.size + 1, 2, none⟩ (.slice (some ⟨z.gC, 0, none⟩) 2 z.cC) := ⟨_, rfl⟩
        have kG : Bk G (w.heap.size + 1) 66 #[.slice (some ⟨z.gT, 0, none⟩) L.length z.cT, .slice (some ⟨z.gL, 0, none⟩) 2 z.cL, .slice (some ⟨z.gC, 0, none⟩) 2 z.cC] := by
          rw [hG]; have := ((Rr.out.set 0 (.slice (some ⟨z.gT, 0, none⟩) L.length z.cT)).set 1 (.slice (some ⟨z.gL, 0, none⟩) 2 z.cL)).set 2 (.slice (some ⟨z.gC, 0, none⟩) 2 z.cC); simpa using this
        have bG : Below w.heap.size w G := by
          rw [hG]; exact ((Br.out.setCell (p := ⟨w.heap.size + 1, 0, none⟩) (Nat.le_succ _) _).setCell (p := ⟨w.heap.size + 1, 1, none⟩) (Nat.le_succ _) _).setCell (p := ⟨w.heap.size + 1, 2, none⟩) (Nat.le_succ _) _
        have sG : G.heap.size = wr.heap.size := by rw [hG]; simp
        have nG : ∀ q, q ≠ w.heap.size + 1 → G.heap[q]? = wr.heap[q]? := fun q hq => by
          rw [hG]; exact (Below.heap_setCell _ _ _ q hq).trans ((Below.heap_setCell _ _ _ q hq).trans (Below.heap_setCell _ _ _ q hq))
        have d0 := kG.cell 0
        have d1 := kG.cell 1
        have d2 := kG.cell 2
        simp only [List.getElem?_toArray, List.getElem?_cons_zero, List.getElem?_cons_succ] at d0 d1 d2
        have BG := Lib.hid bG
        have HG := Lib.hid hG
        have NG := Lib.hid nG
        have sGa := Nat.le_of_eq sG
        have sGb := Nat.le_of_eq sG.symm
        clear kG bG hG nG sG
        go_wp2
        rw [← HG.out]
        refine bodyPost_ret (v := .tuple #[.agg #[.slice (some ⟨z.gT, 0, none⟩) L.length z.cT, .slice (some ⟨z.gL, 0, none⟩) 2 z.cL, .slice (some ⟨z.gC, 0, none⟩) 2 z.cC], .bool true]) (by simp [results, Try.results57, d0, d1, d2, go_sem]) rfl ?_
        subst e0
        have ng := NG.out
        have wv := WV.out.keep (w' := G) (hi' := G.heap.size) sGb fun q h1 _ => ng q (by omega)
        refine ⟨⟨some ⟨z.gT, 0, none⟩, some ⟨z.gL, 0, none⟩, some ⟨z.gC, 0, none⟩, z.cT, z.cL, z.cC⟩, ?_, BG.out, BG.out.size, ?_, ?_, ?_⟩
        · show Ending.returned (.tuple #[.agg #[.slice (some ⟨z.gT, 0, none⟩) L.length z.cT, .slice (some ⟨z.gL, 0, none⟩) 2 z.cL, .slice (some ⟨z.gC, 0, none⟩) 2 z.cC], .bool true]) = Ending.returned (.tuple #[.agg #[.slice (some ⟨z.gT, 0, none⟩) (rowsF L.length L.length (stK l l.length)).length z.cT, .slice (some ⟨z.gL, 0, none⟩) (rowsF L.length 2 (fun a => stK l l.length (6 + a))).length z.cL, .slice (some ⟨z.gC, 0, none⟩) (rowsF L.length 2 (fun a => stK l l.length (8 + a))).length z.cC], .bool true])
          rw [rowsF_length, rowsF_length, rowsF_length]
        · have t := tab_iss (c := z.cT) wv.tT (fun i j hi hj e => by have := wv.inj (0 + i) (0 + j) (Or.inl (by omega)) (Or.inl (by omega)) e; omega)
          have e : (fun i => stK l l.length (0 + i)) = stK l l.length := by funext i; rw [Nat.zero_add]
          rw [e] at t
          exact t.keep (by omega) (Nat.le_refl _) fun _ _ _ => rfl
        · exact (tab_iss (c := z.cL) wv.tL (fun i j hi hj e => by have := wv.inj (6 + i) (6 + j) (Or.inr (by omega)) (Or.inr (by omega)) e; omega)).keep (by omega) (Nat.le_refl _) fun _ _ _ => rfl
        · exact (tab_iss (c := z.cC) wv.tC (fun i j hi hj e => by have := wv.inj (8 + i) (8 + j) (Or.inr (by omega)) (Or.inr (by omega)) e; omega)).keep (by omega) (Nat.le_refl _) fun _ _ _ => rfl
end Go.Proofs.Ytidibnmlceccnaa
