/-
  The record Viewed: a state, lists of notes, three lists of views and a view. How it lies in memory, and contracts of the laws' functions over it: sizes, copies, equality, marks, held marks.
-/
import Derived.Test.YtaghidaamcnpkabSt
import Derived.Test.YtaghidaamcnpkabBuf
import Derived.Test.YtaghidaamcnpkabNtM
namespace Go.Proofs.Ytaghidaamcnpkab
open Go.RowKit Pl
set_option maxHeartbeats 4000000
set_option maxRecDepth 100000
set_option linter.unusedVariables false

structure Vwd where
  st : Sta
  n : Nss
  v : Iss
  l : Iss
  k : Iss
  f : List Int
deriving DecidableEq, Inhabited
structure FnH where
  A : Option Addr
  c : Nat
structure VwdH where
  h : StaH
  n : NssH
  v : IssH
  l : IssH
  k : IssH
  f : FnH
abbrev VwdV (h : VwdH) (o : Vwd) : Value := .agg #[.slice h.h.A0 o.st.f0.length h.h.c0, .slice h.h.A1 o.st.f1.length h.h.c1, .slice h.h.A2 o.st.f2.length h.h.c2, .slice h.h.A3 o.st.f3.length h.h.c3, .slice h.h.A4 o.st.f4.length h.h.c4, .slice h.n.A o.n.length h.n.c, .slice h.v.A o.v.length h.v.c, .slice h.l.A o.l.length h.l.c, .slice h.k.A o.k.length h.k.c, .slice h.f.A o.f.length h.f.c]
def VwdN : VwdH := ⟨StaN, ⟨none, 0⟩, ⟨none, 0⟩, ⟨none, 0⟩, ⟨none, 0⟩, ⟨none, 0⟩⟩
def VwdE : Vwd := ⟨StaE, [], [], [], [], []⟩
structure VwdR (w : World) (B : Nat) (h : VwdH) (o : Vwd) : Prop where
  s : StaR w B h.h o.st
  n : NssR w B h.n o.n
  v : IssR w B h.v o.v
  l : IssR w B h.l o.l
  k : IssR w B h.k o.k
  f : Vs w B h.f.A (ints o.f)
structure VwdL (o : Vwd) (m : Nat) : Prop where
  s : StaL o.st m
  n : NssL o.n m
  v : IssM o.v m
  l : IssM o.l m
  k : IssM o.k m
  f : o.f.length ≤ m
structure VwdS (o : Vwd) : Prop where
  s : StaS o.st
  n : NssS o.n
  v : IssS o.v
  l : IssS o.l
  k : IssS o.k
  f : o.f.length ≤ 1048576
theorem VwdS_L {o : Vwd} (s : VwdS o) : VwdL o maxLen := ⟨StaS_L s.s, NssS_L s.n, (IssS_L s.v).m, (IssS_L s.l).m, (IssS_L s.k).m, by have := s.f; unfold maxLen; omega⟩
structure VwdI (w : World) (lo hi : Nat) (h : VwdH) (o : Vwd) : Prop where
  s : StaI w lo hi h.h o.st
  n : NssI w lo hi h.n o.n
  v : IssI w lo hi h.v o.v
  l : IssI w lo hi h.l o.l
  k : IssI w lo hi h.k o.k
  f : InVs w lo hi h.f.A (ints o.f)
/-- A record of the call's own: each part lies behind the one ahead of it. -/
def VwdO (w : World) (lo hi : Nat) (h : VwdH) (o : Vwd) : Prop :=
  ∃ b0 b1 b2 b3 b4 b5 b6, lo ≤ b0 ∧ b0 ≤ b1 ∧ b1 ≤ b2 ∧ b2 ≤ b3 ∧ b3 ≤ b4 ∧ b4 ≤ b5 ∧ b5 ≤ b6 ∧ b6 ≤ hi ∧ StaO w b0 b1 h.h o.st ∧ NssO w b1 b2 h.n o.n ∧ IssO w b2 b3 h.v o.v ∧ IssO w b3 b4 h.l o.l ∧ IssO w b4 b5 h.k o.k ∧ OwnVs w b5 b6 3 h.f.A (ints o.f)
section
variable {w w' : World} {B B' B'' lo hi lo' hi' : Nat} {h : VwdH} {o : Vwd}
theorem VwdR.below (r : VwdR w B h o) (hb : Below B' w w') (hB : B ≤ B') : VwdR w' B h o := ⟨r.s.below hb hB, r.n.below hb hB, r.v.below hb hB, r.l.below hb hB, r.k.below hb hB, r.f.below hb hB⟩
theorem VwdR.up (r : VwdR w B h o) (hb : Below B' w w') (hB : B ≤ B') (hB2 : B ≤ B'') : VwdR w' B'' h o := ⟨r.s.up hb hB hB2, r.n.up hb hB hB2, r.v.up hb hB hB2, r.l.up hb hB hB2, r.k.up hb hB hB2, r.f.up hb hB hB2⟩
theorem VwdI.keep (r : VwdI w lo hi h o) (hl : lo' ≤ lo) (hh : hi ≤ hi') (hk : ∀ i, lo ≤ i → i < hi → w'.heap[i]? = w.heap[i]?) : VwdI w' lo' hi' h o := ⟨r.s.keep hl hh hk, r.n.keep hl hh hk, r.v.keep hl hh hk, r.l.keep hl hh hk, r.k.keep hl hh hk, r.f.keep hl hh hk⟩
theorem VwdI.below (r : VwdI w lo hi h o) (hb : Below B w w') (hB : hi ≤ B) : VwdI w' lo hi h o := r.keep (Nat.le_refl _) (Nat.le_refl _) fun i _ hi => hb.block i (by omega)
theorem VwdI.rd (r : VwdI w lo hi h o) : VwdR w hi h o := ⟨r.s.rd, r.n.rd, r.v.rd, r.l.rd, r.k.rd, r.f.vs⟩
theorem VwdO.keep (r : VwdO w lo hi h o) (hl : lo' ≤ lo) (hh : hi ≤ hi') (hk : ∀ i, lo ≤ i → i < hi → w'.heap[i]? = w.heap[i]?) : VwdO w' lo' hi' h o := by
  obtain ⟨b0, b1, b2, b3, b4, b5, b6, h0, h1, h2, h3, h4, h5, h6, h7, o0, o1, o2, o3, o4, o5⟩ := r
  exact ⟨b0, b1, b2, b3, b4, b5, b6, by omega, h1, h2, h3, h4, h5, h6, by omega, o0.keep (Nat.le_refl _) (Nat.le_refl _) fun i p q => hk i (by omega) (by omega), o1.keep (Nat.le_refl _) (Nat.le_refl _) fun i p q => hk i (by omega) (by omega), o2.keep (Nat.le_refl _) (Nat.le_refl _) fun i p q => hk i (by omega) (by omega), o3.keep (Nat.le_refl _) (Nat.le_refl _) fun i p q => hk i (by omega) (by omega), o4.keep (Nat.le_refl _) (Nat.le_refl _) fun i p q => hk i (by omega) (by omega), o5.keep (Nat.le_refl _) (Nat.le_refl _) fun i p q => hk i (by omega) (by omega)⟩
theorem VwdO.below (r : VwdO w lo hi h o) (hb : Below B w w') (hB : hi ≤ B) : VwdO w' lo hi h o := r.keep (Nat.le_refl _) (Nat.le_refl _) fun i _ hi => hb.block i (by omega)
theorem VwdO.in_ (r : VwdO w lo hi h o) : VwdI w lo hi h o := by
  obtain ⟨b0, b1, b2, b3, b4, b5, b6, h0, h1, h2, h3, h4, h5, h6, h7, o0, o1, o2, o3, o4, o5⟩ := r
  exact ⟨(o0.keep (w' := w) (lo' := lo) (hi' := hi) (by omega) (by omega) fun _ _ _ => rfl).in_, (o1.keep (w' := w) (lo' := lo) (hi' := hi) (by omega) (by omega) fun _ _ _ => rfl).in_, (o2.keep (w' := w) (lo' := lo) (hi' := hi) (by omega) (by omega) fun _ _ _ => rfl).in_, (o3.keep (w' := w) (lo' := lo) (hi' := hi) (by omega) (by omega) fun _ _ _ => rfl).in_, (o4.keep (w' := w) (lo' := lo) (hi' := hi) (by omega) (by omega) fun _ _ _ => rfl).in_, (o5.keep (w' := w) (lo' := lo) (hi' := hi) (by omega) (by omega) fun _ _ _ => rfl).in_⟩
theorem VwdO.rd (r : VwdO w lo hi h o) : VwdR w hi h o := r.in_.rd
theorem VwdO.none_ (w : World) (lo hi : Nat) (h : VwdH) (hl : lo ≤ hi) : VwdO w lo hi h VwdE := ⟨lo, lo, lo, lo, lo, lo, lo, Nat.le_refl _, Nat.le_refl _, Nat.le_refl _, Nat.le_refl _, Nat.le_refl _, Nat.le_refl _, Nat.le_refl _, hl, StaO.none_ _ _ _ _, NssO.nil_ _ _ _ _, IssO.nil_ _ _ _ _, IssO.nil_ _ _ _ _, IssO.nil_ _ _ _ _, OwnVs.nil _ _ _ _ _⟩
theorem VwdI.none_ (w : World) (lo hi : Nat) (h : VwdH) : VwdI w lo hi h VwdE := ⟨StaI.none_ _ _ _ _, NssI.nil_ _ _ _ _, (IssO.nil_ _ _ _ _).in_, (IssO.nil_ _ _ _ _).in_, (IssO.nil_ _ _ _ _).in_, (OwnVs.nil _ _ _ 3 _).in_⟩
end

/-! ### sizes -/
def thenI (q : Int) (f : Int → Int) : Int := if q < 0 then -1 else f q
theorem thenI_neg {q : Int} (f : Int → Int) (h : q < 0) : thenI q f = -1 := if_pos h
theorem thenI_on {q : Int} (f : Int → Int) (h : ¬ q < 0) : thenI q f = f q := if_neg h
theorem thenI_ge {q a : Int} {f : Int → Int} (ha : 0 ≤ a) (hq : q ≤ a) (hf : 0 ≤ q → -1 ≤ f q ∧ f q ≤ q) : -1 ≤ thenI q f ∧ thenI q f ≤ a := by
  unfold thenI
  split
  · omega
  · have := hf (by omega); omega
theorem sz1_ge (a : Int) (n : Nat) (h : 0 ≤ a) : -1 ≤ sz1 a n ∧ sz1 a n ≤ a := by unfold sz1; split <;> omega
def szV1 (a : Int) (o : Vwd) : Int := thenI (szSta a o.st) fun q => sz1 q (tNN o.n)
def szV2 (a : Int) (o : Vwd) : Int := thenI (szV1 a o) fun q => szIss q o.v
def szV3 (a : Int) (o : Vwd) : Int := thenI (szV2 a o) fun q => szIss q o.l
def szV4 (a : Int) (o : Vwd) : Int := thenI (szV3 a o) fun q => szIss q o.k
def szVwd (a : Int) (o : Vwd) : Int := thenI (szV4 a o) fun q => sz1 q o.f.length
theorem szV1_ge (a : Int) (o : Vwd) (ha : 0 ≤ a) : -1 ≤ szV1 a o ∧ szV1 a o ≤ a := thenI_ge ha (szSta_ge a o.st ha).2 fun h => sz1_ge _ _ h
theorem szV2_ge (a : Int) (o : Vwd) (ha : 0 ≤ a) : -1 ≤ szV2 a o ∧ szV2 a o ≤ a := thenI_ge ha (szV1_ge a o ha).2 fun h => szIss_ge _ _ h
theorem szV3_ge (a : Int) (o : Vwd) (ha : 0 ≤ a) : -1 ≤ szV3 a o ∧ szV3 a o ≤ a := thenI_ge ha (szV2_ge a o ha).2 fun h => szIss_ge _ _ h
theorem szV4_ge (a : Int) (o : Vwd) (ha : 0 ≤ a) : -1 ≤ szV4 a o ∧ szV4 a o ≤ a := thenI_ge ha (szV3_ge a o ha).2 fun h => szIss_ge _ _ h
theorem szVwd_ge (a : Int) (o : Vwd) (ha : 0 ≤ a) : -1 ≤ szVwd a o ∧ szVwd a o ≤ a := thenI_ge ha (szV4_ge a o ha).2 fun h => sz1_ge _ _ h
theorem thenI_nn {q : Int} {f : Int → Int} (h : 0 ≤ thenI q f) : 0 ≤ q ∧ 0 ≤ f q := by
  unfold thenI at h
  split at h
  · omega
  · exact ⟨by omega, h⟩
theorem sz1_nn {a : Int} {n : Nat} (h : 0 ≤ sz1 a n) : (n : Int) ≤ a := by unfold sz1 at h; split at h <;> omega
theorem szVwd_small {a : Int} {o : Vwd} (h : 0 ≤ szVwd a o) (ha : 0 ≤ a) (ha2 : a ≤ 1048576) : VwdS o := by
  obtain ⟨h4, q5⟩ := thenI_nn h
  obtain ⟨h3, q4⟩ := thenI_nn h4
  obtain ⟨h2, q3⟩ := thenI_nn h3
  obtain ⟨h1, q2⟩ := thenI_nn h2
  obtain ⟨h0, q1⟩ := thenI_nn h1
  have g0 := szSta_ge a o.st ha
  have g1 := szV1_ge a o ha
  have g2 := szV2_ge a o ha
  have g3 := szV3_ge a o ha
  have g4 := szV4_ge a o ha
  have p1 := sz1_nn q1
  have p2 := szIss_tot q2
  have p3 := szIss_tot q3
  have p4 := szIss_tot q4
  have p5 := sz1_nn q5
  exact ⟨szSta_small h0 ha ha2, ⟨by omega⟩, ⟨by omega, by omega⟩, ⟨by omega, by omega⟩, ⟨by omega, by omega⟩, by omega⟩

theorem szVwd_any (h : VwdH) (o : Vwd) (left : Int) (w : World) (B : Nat) (hR : VwdR w B h o) (hB : B ≤ w.heap.size) (hL : VwdL o maxLen) (h0 : 0 ≤ left) (h1 : left ≤ 1048576) (r : Int) (hr : Hid (szVwd left o = r)) :
    Calls Try.prog 18 #[VwdV h o, .int .i64 left] w fun e w' => e = .returned (.int .i64 r) ∧ Below w.heap.size w w' := by
  obtain ⟨Ls, Ln, Lv, Ll, Lk, Lf⟩ := hL
  obtain ⟨q0, hq0⟩ : ∃ q, szSta left o.st = q := ⟨_, rfl⟩
  have u0 : -1 ≤ q0 ∧ q0 ≤ left := by rw [← hq0]; exact szSta_ge _ _ h0
  obtain ⟨q1, hq1⟩ : ∃ q, szV1 left o = q := ⟨_, rfl⟩
  have u1 : -1 ≤ q1 ∧ q1 ≤ left := by rw [← hq1]; exact szV1_ge _ _ h0
  have t1 : thenI q0 (fun q => sz1 q (tNN o.n)) = q1 := by rw [← hq1, ← hq0]; rfl
  obtain ⟨q2, hq2⟩ : ∃ q, szV2 left o = q := ⟨_, rfl⟩
  have u2 : -1 ≤ q2 ∧ q2 ≤ left := by rw [← hq2]; exact szV2_ge _ _ h0
  have t2 : thenI q1 (fun q => szIss q o.v) = q2 := by rw [← hq2, ← hq1]; rfl
  obtain ⟨q3, hq3⟩ : ∃ q, szV3 left o = q := ⟨_, rfl⟩
  have u3 : -1 ≤ q3 ∧ q3 ≤ left := by rw [← hq3]; exact szV3_ge _ _ h0
  have t3 : thenI q2 (fun q => szIss q o.l) = q3 := by rw [← hq3, ← hq2]; rfl
  obtain ⟨q4, hq4⟩ : ∃ q, szV4 left o = q := ⟨_, rfl⟩
  have u4 : -1 ≤ q4 ∧ q4 ≤ left := by rw [← hq4]; exact szV4_ge _ _ h0
  have t4 : thenI q3 (fun q => szIss q o.k) = q4 := by rw [← hq4, ← hq3]; rfl
  obtain ⟨q5, hq5⟩ : ∃ q, szVwd left o = q := ⟨_, rfl⟩
  have u5 : -1 ≤ q5 ∧ q5 ≤ left := by rw [← hq5]; exact szVwd_ge _ _ h0
  have t5 : thenI q4 (fun q => sz1 q o.f.length) = q5 := by rw [← hq5, ← hq4]; rfl
  have hrq : r = q5 := by rw [← hr.out, hq5]
  have Q0 := Lib.hid hq0
  clear hr hq0 hq1 hq2 hq3 hq4 hq5
  obtain ⟨W, hW⟩ : ∃ W, W = w.alloc (.cells #[.slice h.h.A0 o.st.f0.length h.h.c0, .slice h.h.A1 o.st.f1.length h.h.c1, .slice h.h.A2 o.st.f2.length h.h.c2, .slice h.h.A3 o.st.f3.length h.h.c3, .slice h.h.A4 o.st.f4.length h.h.c4, .slice h.n.A o.n.length h.n.c, .slice h.v.A o.v.length h.v.c, .slice h.l.A o.l.length h.l.c, .slice h.k.A o.k.length h.k.c, .slice h.f.A o.f.length h.f.c] 47) := ⟨_, rfl⟩
  have bW : Below w.heap.size w W := by rw [hW]; go_grown
  have k0 : Bk W w.heap.size 47 #[.slice h.h.A0 o.st.f0.length h.h.c0, .slice h.h.A1 o.st.f1.length h.h.c1, .slice h.h.A2 o.st.f2.length h.h.c2, .slice h.h.A3 o.st.f3.length h.h.c3, .slice h.h.A4 o.st.f4.length h.h.c4, .slice h.n.A o.n.length h.n.c, .slice h.v.A o.v.length h.v.c, .slice h.l.A o.l.length h.l.c, .slice h.k.A o.k.length h.k.c, .slice h.f.A o.f.length h.f.c] := by rw [hW]; exact Bk.new w _ _
  have zW := bW.size
  have R0 := Lib.hid (hR.below bW hB)
  have K0 := Lib.hid k0
  have B0 := Lib.hid bW
  have HW := Lib.hid hW
  clear hW bW k0 hR
  by_cases n0 : q0 < 0
  · have hfin : Hid (r = -1) := Lib.hid (by
      rw [thenI_neg _ n0] at t1
      rw [thenI_neg _ (by omega)] at t2
      rw [thenI_neg _ (by omega)] at t3
      rw [thenI_neg _ (by omega)] at t4
      rw [thenI_neg _ (by omega)] at t5
      omega)
    clear t1 t2 t3 t4 t5 hrq
    go_enter Try.func18, Try.ntmps18
    go_wp2_with fail
    rw [← HW.out]
    refine (szSta_any h.h o.st left W B R0.out.s (by omega) Ls h0 h1 q0 Q0).mono ?_
    rintro e w1 ⟨rfl, hb0⟩
    have B1 := Lib.hid (below_on B0.out hb0)
    have K1 := Lib.hid (K0.out.below hb0 K0.out.lt)
    have R1 := Lib.hid (R0.out.below hb0 (by omega))
    have z1 := hb0.size
    clear hb0
    go_wp2
    go_ret
    exact ⟨by rw [hfin.out]; rfl, B1.out⟩
  rw [thenI_on _ n0] at t1
  have Q1 := Lib.hid t1
  have v1 : q1 ≤ q0 := by rw [← t1]; exact (sz1_ge _ _ (by omega)).2
  clear t1
  by_cases n1 : q1 < 0
  · have hfin : Hid (r = -1) := Lib.hid (by
      rw [thenI_neg _ n1] at t2
      rw [thenI_neg _ (by omega)] at t3
      rw [thenI_neg _ (by omega)] at t4
      rw [thenI_neg _ (by omega)] at t5
      omega)
    clear t2 t3 t4 t5 hrq
    go_enter Try.func18, Try.ntmps18
    go_wp2_with fail
    rw [← HW.out]
    refine (szSta_any h.h o.st left W B R0.out.s (by omega) Ls h0 h1 q0 Q0).mono ?_
    rintro e w1 ⟨rfl, hb0⟩
    have B1 := Lib.hid (below_on B0.out hb0)
    have K1 := Lib.hid (K0.out.below hb0 K0.out.lt)
    have R1 := Lib.hid (R0.out.below hb0 (by omega))
    have z1 := hb0.size
    clear hb0
    have c1 : w1.cell? ⟨w.heap.size, 5, none⟩ = some (.slice h.n.A o.n.length h.n.c) := K1.out.cell 5
    go_wp2_with fail
    clear c1
    refine (szNss_any h.n o.n q0 w1 B R1.out.n (by omega) Ln (by omega) (by omega) q1 Q1).mono ?_
    rintro e w2 ⟨rfl, hb1⟩
    have B2 := Lib.hid (below_on B1.out hb1)
    have K2 := Lib.hid (K1.out.below hb1 K1.out.lt)
    have R2 := Lib.hid (R1.out.below hb1 (by omega))
    have z2 := hb1.size
    clear hb1
    go_wp2
    go_ret
    exact ⟨by rw [hfin.out]; rfl, B2.out⟩
  rw [thenI_on _ n1] at t2
  have Q2 := Lib.hid t2
  have v2 : q2 ≤ q1 := by rw [← t2]; exact (szIss_ge _ _ (by omega)).2
  clear t2
  by_cases n2 : q2 < 0
  · have hfin : Hid (r = -1) := Lib.hid (by
      rw [thenI_neg _ n2] at t3
      rw [thenI_neg _ (by omega)] at t4
      rw [thenI_neg _ (by omega)] at t5
      omega)
    clear t3 t4 t5 hrq
    go_enter Try.func18, Try.ntmps18
    go_wp2_with fail
    rw [← HW.out]
    refine (szSta_any h.h o.st left W B R0.out.s (by omega) Ls h0 h1 q0 Q0).mono ?_
    rintro e w1 ⟨rfl, hb0⟩
    have B1 := Lib.hid (below_on B0.out hb0)
    have K1 := Lib.hid (K0.out.below hb0 K0.out.lt)
    have R1 := Lib.hid (R0.out.below hb0 (by omega))
    have z1 := hb0.size
    clear hb0
    have c1 : w1.cell? ⟨w.heap.size, 5, none⟩ = some (.slice h.n.A o.n.length h.n.c) := K1.out.cell 5
    go_wp2_with fail
    clear c1
    refine (szNss_any h.n o.n q0 w1 B R1.out.n (by omega) Ln (by omega) (by omega) q1 Q1).mono ?_
    rintro e w2 ⟨rfl, hb1⟩
    have B2 := Lib.hid (below_on B1.out hb1)
    have K2 := Lib.hid (K1.out.below hb1 K1.out.lt)
    have R2 := Lib.hid (R1.out.below hb1 (by omega))
    have z2 := hb1.size
    clear hb1
    have c2 : w2.cell? ⟨w.heap.size, 6, none⟩ = some (.slice h.v.A o.v.length h.v.c) := K2.out.cell 6
    go_wp2_with fail
    clear c2
    refine (szIss_any h.v o.v q1 w2 B R2.out.v Lv (by omega) (by omega) q2 Q2).mono ?_
    rintro e w' ⟨rfl, rfl⟩
    go_wp2
    go_ret
    exact ⟨by rw [hfin.out]; rfl, B2.out⟩
  rw [thenI_on _ n2] at t3
  have Q3 := Lib.hid t3
  have v3 : q3 ≤ q2 := by rw [← t3]; exact (szIss_ge _ _ (by omega)).2
  clear t3
  by_cases n3 : q3 < 0
  · have hfin : Hid (r = -1) := Lib.hid (by
      rw [thenI_neg _ n3] at t4
      rw [thenI_neg _ (by omega)] at t5
      omega)
    clear t4 t5 hrq
    go_enter Try.func18, Try.ntmps18
    go_wp2_with fail
    rw [← HW.out]
    refine (szSta_any h.h o.st left W B R0.out.s (by omega) Ls h0 h1 q0 Q0).mono ?_
    rintro e w1 ⟨rfl, hb0⟩
    have B1 := Lib.hid (below_on B0.out hb0)
    have K1 := Lib.hid (K0.out.below hb0 K0.out.lt)
    have R1 := Lib.hid (R0.out.below hb0 (by omega))
    have z1 := hb0.size
    clear hb0
    have c1 : w1.cell? ⟨w.heap.size, 5, none⟩ = some (.slice h.n.A o.n.length h.n.c) := K1.out.cell 5
    go_wp2_with fail
    clear c1
    refine (szNss_any h.n o.n q0 w1 B R1.out.n (by omega) Ln (by omega) (by omega) q1 Q1).mono ?_
    rintro e w2 ⟨rfl, hb1⟩
    have B2 := Lib.hid (below_on B1.out hb1)
    have K2 := Lib.hid (K1.out.below hb1 K1.out.lt)
    have R2 := Lib.hid (R1.out.below hb1 (by omega))
    have z2 := hb1.size
    clear hb1
    have c2 : w2.cell? ⟨w.heap.size, 6, none⟩ = some (.slice h.v.A o.v.length h.v.c) := K2.out.cell 6
    go_wp2_with fail
    clear c2
    refine (szIss_any h.v o.v q1 w2 B R2.out.v Lv (by omega) (by omega) q2 Q2).mono ?_
    rintro e w' ⟨rfl, rfl⟩
    have c3 : w2.cell? ⟨w.heap.size, 7, none⟩ = some (.slice h.l.A o.l.length h.l.c) := K2.out.cell 7
    go_wp2_with fail
    clear c3
    refine (szIss_any h.l o.l q2 w2 B R2.out.l Ll (by omega) (by omega) q3 Q3).mono ?_
    rintro e w' ⟨rfl, rfl⟩
    go_wp2
    go_ret
    exact ⟨by rw [hfin.out]; rfl, B2.out⟩
  rw [thenI_on _ n3] at t4
  have Q4 := Lib.hid t4
  have v4 : q4 ≤ q3 := by rw [← t4]; exact (szIss_ge _ _ (by omega)).2
  clear t4
  by_cases n4 : q4 < 0
  · have hfin : Hid (r = -1) := Lib.hid (by
      rw [thenI_neg _ n4] at t5
      omega)
    clear t5 hrq
    go_enter Try.func18, Try.ntmps18
    go_wp2_with fail
    rw [← HW.out]
    refine (szSta_any h.h o.st left W B R0.out.s (by omega) Ls h0 h1 q0 Q0).mono ?_
    rintro e w1 ⟨rfl, hb0⟩
    have B1 := Lib.hid (below_on B0.out hb0)
    have K1 := Lib.hid (K0.out.below hb0 K0.out.lt)
    have R1 := Lib.hid (R0.out.below hb0 (by omega))
    have z1 := hb0.size
    clear hb0
    have c1 : w1.cell? ⟨w.heap.size, 5, none⟩ = some (.slice h.n.A o.n.length h.n.c) := K1.out.cell 5
    go_wp2_with fail
    clear c1
    refine (szNss_any h.n o.n q0 w1 B R1.out.n (by omega) Ln (by omega) (by omega) q1 Q1).mono ?_
    rintro e w2 ⟨rfl, hb1⟩
    have B2 := Lib.hid (below_on B1.out hb1)
    have K2 := Lib.hid (K1.out.below hb1 K1.out.lt)
    have R2 := Lib.hid (R1.out.below hb1 (by omega))
    have z2 := hb1.size
    clear hb1
    have c2 : w2.cell? ⟨w.heap.size, 6, none⟩ = some (.slice h.v.A o.v.length h.v.c) := K2.out.cell 6
    go_wp2_with fail
    clear c2
    refine (szIss_any h.v o.v q1 w2 B R2.out.v Lv (by omega) (by omega) q2 Q2).mono ?_
    rintro e w' ⟨rfl, rfl⟩
    have c3 : w2.cell? ⟨w.heap.size, 7, none⟩ = some (.slice h.l.A o.l.length h.l.c) := K2.out.cell 7
    go_wp2_with fail
    clear c3
    refine (szIss_any h.l o.l q2 w2 B R2.out.l Ll (by omega) (by omega) q3 Q3).mono ?_
    rintro e w' ⟨rfl, rfl⟩
    have c4 : w2.cell? ⟨w.heap.size, 8, none⟩ = some (.slice h.k.A o.k.length h.k.c) := K2.out.cell 8
    go_wp2_with fail
    clear c4
    refine (szIss_any h.k o.k q3 w2 B R2.out.k Lk (by omega) (by omega) q4 Q4).mono ?_
    rintro e w' ⟨rfl, rfl⟩
    go_wp2
    go_ret
    exact ⟨by rw [hfin.out]; rfl, B2.out⟩
  rw [thenI_on _ n4] at t5
  have Q5 := Lib.hid t5
  have v5 : q5 ≤ q4 := by rw [← t5]; exact (sz1_ge _ _ (by omega)).2
  clear t5
  by_cases n5 : q5 < 0
  · have hfin : Hid (r = -1) := Lib.hid (by
      omega)
    clear hrq
    go_enter Try.func18, Try.ntmps18
    go_wp2_with fail
    rw [← HW.out]
    refine (szSta_any h.h o.st left W B R0.out.s (by omega) Ls h0 h1 q0 Q0).mono ?_
    rintro e w1 ⟨rfl, hb0⟩
    have B1 := Lib.hid (below_on B0.out hb0)
    have K1 := Lib.hid (K0.out.below hb0 K0.out.lt)
    have R1 := Lib.hid (R0.out.below hb0 (by omega))
    have z1 := hb0.size
    clear hb0
    have c1 : w1.cell? ⟨w.heap.size, 5, none⟩ = some (.slice h.n.A o.n.length h.n.c) := K1.out.cell 5
    go_wp2_with fail
    clear c1
    refine (szNss_any h.n o.n q0 w1 B R1.out.n (by omega) Ln (by omega) (by omega) q1 Q1).mono ?_
    rintro e w2 ⟨rfl, hb1⟩
    have B2 := Lib.hid (below_on B1.out hb1)
    have K2 := Lib.hid (K1.out.below hb1 K1.out.lt)
    have R2 := Lib.hid (R1.out.below hb1 (by omega))
    have z2 := hb1.size
    clear hb1
    have c2 : w2.cell? ⟨w.heap.size, 6, none⟩ = some (.slice h.v.A o.v.length h.v.c) := K2.out.cell 6
    go_wp2_with fail
    clear c2
    refine (szIss_any h.v o.v q1 w2 B R2.out.v Lv (by omega) (by omega) q2 Q2).mono ?_
    rintro e w' ⟨rfl, rfl⟩
    have c3 : w2.cell? ⟨w.heap.size, 7, none⟩ = some (.slice h.l.A o.l.length h.l.c) := K2.out.cell 7
    go_wp2_with fail
    clear c3
    refine (szIss_any h.l o.l q2 w2 B R2.out.l Ll (by omega) (by omega) q3 Q3).mono ?_
    rintro e w' ⟨rfl, rfl⟩
    have c4 : w2.cell? ⟨w.heap.size, 8, none⟩ = some (.slice h.k.A o.k.length h.k.c) := K2.out.cell 8
    go_wp2_with fail
    clear c4
    refine (szIss_any h.k o.k q3 w2 B R2.out.k Lk (by omega) (by omega) q4 Q4).mono ?_
    rintro e w' ⟨rfl, rfl⟩
    have c5 : w2.cell? ⟨w.heap.size, 9, none⟩ = some (.slice h.f.A o.f.length h.f.c) := K2.out.cell 9
    go_wp2_with fail
    clear c5
    refine (szInt_any' h.f.A o.f.length h.f.c q4 w2 Lf (by omega) (by omega) q5 Q5).mono ?_
    rintro e w' ⟨rfl, rfl⟩
    go_wp2
    go_ret
    exact ⟨by rw [hfin.out]; rfl, B2.out⟩
  have hfin := Lib.hid hrq
  clear hrq
  go_enter Try.func18, Try.ntmps18
  go_wp2_with fail
  rw [← HW.out]
  refine (szSta_any h.h o.st left W B R0.out.s (by omega) Ls h0 h1 q0 Q0).mono ?_
  rintro e w1 ⟨rfl, hb0⟩
  have B1 := Lib.hid (below_on B0.out hb0)
  have K1 := Lib.hid (K0.out.below hb0 K0.out.lt)
  have R1 := Lib.hid (R0.out.below hb0 (by omega))
  have z1 := hb0.size
  clear hb0
  have c1 : w1.cell? ⟨w.heap.size, 5, none⟩ = some (.slice h.n.A o.n.length h.n.c) := K1.out.cell 5
  go_wp2_with fail
  clear c1
  refine (szNss_any h.n o.n q0 w1 B R1.out.n (by omega) Ln (by omega) (by omega) q1 Q1).mono ?_
  rintro e w2 ⟨rfl, hb1⟩
  have B2 := Lib.hid (below_on B1.out hb1)
  have K2 := Lib.hid (K1.out.below hb1 K1.out.lt)
  have R2 := Lib.hid (R1.out.below hb1 (by omega))
  have z2 := hb1.size
  clear hb1
  have c2 : w2.cell? ⟨w.heap.size, 6, none⟩ = some (.slice h.v.A o.v.length h.v.c) := K2.out.cell 6
  go_wp2_with fail
  clear c2
  refine (szIss_any h.v o.v q1 w2 B R2.out.v Lv (by omega) (by omega) q2 Q2).mono ?_
  rintro e w' ⟨rfl, rfl⟩
  have c3 : w2.cell? ⟨w.heap.size, 7, none⟩ = some (.slice h.l.A o.l.length h.l.c) := K2.out.cell 7
  go_wp2_with fail
  clear c3
  refine (szIss_any h.l o.l q2 w2 B R2.out.l Ll (by omega) (by omega) q3 Q3).mono ?_
  rintro e w' ⟨rfl, rfl⟩
  have c4 : w2.cell? ⟨w.heap.size, 8, none⟩ = some (.slice h.k.A o.k.length h.k.c) := K2.out.cell 8
  go_wp2_with fail
  clear c4
  refine (szIss_any h.k o.k q3 w2 B R2.out.k Lk (by omega) (by omega) q4 Q4).mono ?_
  rintro e w' ⟨rfl, rfl⟩
  have c5 : w2.cell? ⟨w.heap.size, 9, none⟩ = some (.slice h.f.A o.f.length h.f.c) := K2.out.cell 9
  go_wp2_with fail
  clear c5
  refine (szInt_any' h.f.A o.f.length h.f.c q4 w2 Lf (by omega) (by omega) q5 Q5).mono ?_
  rintro e w' ⟨rfl, rfl⟩
  go_wp2
  go_ret
  exact ⟨by rw [hfin.out]; rfl, B2.out⟩
/-! ### copies -/
def ToVwd (w : World) (o : Vwd) (e : Ending) (w' : World) : Prop := ∃ h, e = .returned (VwdV h o) ∧ Below w.heap.size w w' ∧ w.heap.size < w'.heap.size ∧ VwdO w' w.heap.size w'.heap.size h o
theorem toVwd_any (h : VwdH) (o : Vwd) (w : World) (B : Nat) (hR : VwdR w B h o) (hB : B ≤ w.heap.size) (hL : VwdS o) :
    Calls Try.prog 20 #[VwdV h o] w (ToVwd w o) := by
  obtain ⟨Ls, Ln, Lv, Ll, Lk, Lf⟩ := hL
  obtain ⟨W, hW⟩ : ∃ W, W = ((w.alloc (.cells #[.slice h.h.A0 o.st.f0.length h.h.c0, .slice h.h.A1 o.st.f1.length h.h.c1, .slice h.h.A2 o.st.f2.length h.h.c2, .slice h.h.A3 o.st.f3.length h.h.c3, .slice h.h.A4 o.st.f4.length h.h.c4, .slice h.n.A o.n.length h.n.c, .slice h.v.A o.v.length h.v.c, .slice h.l.A o.l.length h.l.c, .slice h.k.A o.k.length h.k.c, .slice h.f.A o.f.length h.f.c] 47)).alloc (.cells #[.slice none 0 0, .slice none 0 0, .slice none 0 0, .slice none 0 0, .slice none 0 0, .slice none 0 0, .slice none 0 0, .slice none 0 0, .slice none 0 0, .slice none 0 0] 53)).alloc (.cells #[.slice none 0 0, .slice none 0 0, .slice none 0 0, .slice none 0 0, .slice none 0 0, .slice none 0 0, .slice none 0 0, .slice none 0 0, .slice none 0 0, .slice none 0 0] 53) := ⟨_, rfl⟩
  have bW : Below w.heap.size w W := by rw [hW]; go_grown
  have sW : W.heap.size = w.heap.size + 1 + 1 + 1 := by rw [hW]; simp
  have k0 : Bk W w.heap.size 47 #[.slice h.h.A0 o.st.f0.length h.h.c0, .slice h.h.A1 o.st.f1.length h.h.c1, .slice h.h.A2 o.st.f2.length h.h.c2, .slice h.h.A3 o.st.f3.length h.h.c3, .slice h.h.A4 o.st.f4.length h.h.c4, .slice h.n.A o.n.length h.n.c, .slice h.v.A o.v.length h.v.c, .slice h.l.A o.l.length h.l.c, .slice h.k.A o.k.length h.k.c, .slice h.f.A o.f.length h.f.c] := by rw [hW]; exact ((Bk.new w _ _).alloc _).alloc _
  have k1 : Bk W (w.heap.size + 1) 53 #[.slice none 0 0, .slice none 0 0, .slice none 0 0, .slice none 0 0, .slice none 0 0, .slice none 0 0, .slice none 0 0, .slice none 0 0, .slice none 0 0, .slice none 0 0] := by
    rw [hW]; have := (Bk.new (w.alloc (.cells #[.slice h.h.A0 o.st.f0.length h.h.c0, .slice h.h.A1 o.st.f1.length h.h.c1, .slice h.h.A2 o.st.f2.length h.h.c2, .slice h.h.A3 o.st.f3.length h.h.c3, .slice h.h.A4 o.st.f4.length h.h.c4, .slice h.n.A o.n.length h.n.c, .slice h.v.A o.v.length h.v.c, .slice h.l.A o.l.length h.l.c, .slice h.k.A o.k.length h.k.c, .slice h.f.A o.f.length h.f.c] 47)) #[.slice none 0 0, .slice none 0 0, .slice none 0 0, .slice none 0 0, .slice none 0 0, .slice none 0 0, .slice none 0 0, .slice none 0 0, .slice none 0 0, .slice none 0 0] 53).alloc (.cells #[.slice none 0 0, .slice none 0 0, .slice none 0 0, .slice none 0 0, .slice none 0 0, .slice none 0 0, .slice none 0 0, .slice none 0 0, .slice none 0 0, .slice none 0 0] 53)
    rwa [World.size_alloc] at this
  have k2 : Bk W (w.heap.size + 1 + 1) 53 #[.slice none 0 0, .slice none 0 0, .slice none 0 0, .slice none 0 0, .slice none 0 0, .slice none 0 0, .slice none 0 0, .slice none 0 0, .slice none 0 0, .slice none 0 0] := by
    rw [hW]; have := Bk.new ((w.alloc (.cells #[.slice h.h.A0 o.st.f0.length h.h.c0, .slice h.h.A1 o.st.f1.length h.h.c1, .slice h.h.A2 o.st.f2.length h.h.c2, .slice h.h.A3 o.st.f3.length h.h.c3, .slice h.h.A4 o.st.f4.length h.h.c4, .slice h.n.A o.n.length h.n.c, .slice h.v.A o.v.length h.v.c, .slice h.l.A o.l.length h.l.c, .slice h.k.A o.k.length h.k.c, .slice h.f.A o.f.length h.f.c] 47)).alloc (.cells #[.slice none 0 0, .slice none 0 0, .slice none 0 0, .slice none 0 0, .slice none 0 0, .slice none 0 0, .slice none 0 0, .slice none 0 0, .slice none 0 0, .slice none 0 0] 53)) #[.slice none 0 0, .slice none 0 0, .slice none 0 0, .slice none 0 0, .slice none 0 0, .slice none 0 0, .slice none 0 0, .slice none 0 0, .slice none 0 0, .slice none 0 0] 53
    rwa [World.size_alloc, World.size_alloc] at this
  have R0 := Lib.hid (hR.below bW hB)
  have K0 := Lib.hid k0
  have L0 := Lib.hid k1
  have M0 := Lib.hid k2
  have B0 := Lib.hid bW
  have sWl : w.heap.size + 3 ≤ W.heap.size := by omega
  have HW := Lib.hid hW
  clear hW bW sW k0 k1 k2 hR
  go_enter Try.func20, Try.ntmps20
  go_wp2_with fail
  rw [← HW.out]
  refine (toSta_any h.h o.st W B R0.out.s (by omega) Ls).mono ?_
  rintro e w1 ⟨hs, rfl, hb, hl1, own⟩
  have B1 := Lib.hid (below_on B0.out hb)
  have R1 := Lib.hid (R0.out.below hb (by omega))
  have K1 := Lib.hid (K0.out.below hb K0.out.lt)
  have L1 := Lib.hid (L0.out.below hb L0.out.lt)
  have M1 := Lib.hid (M0.out.below hb M0.out.lt)
  have oS1 := Lib.hid own
  have y1 := hb.size
  clear hb own R0 K0 L0 M0 B0
  have y1_0 := M1.out.free 0
  have x1_0 : w1.cell? ⟨w.heap.size + 1 + 1, 0, none⟩ = some (.slice none 0 0) := M1.out.cell 0
  have y1_1 := M1.out.free 1
  have x1_1 : w1.cell? ⟨w.heap.size + 1 + 1, 1, none⟩ = some (.slice none 0 0) := M1.out.cell 1
  have y1_2 := M1.out.free 2
  have x1_2 : w1.cell? ⟨w.heap.size + 1 + 1, 2, none⟩ = some (.slice none 0 0) := M1.out.cell 2
  have y1_3 := M1.out.free 3
  have x1_3 : w1.cell? ⟨w.heap.size + 1 + 1, 3, none⟩ = some (.slice none 0 0) := M1.out.cell 3
  have y1_4 := M1.out.free 4
  have x1_4 : w1.cell? ⟨w.heap.size + 1 + 1, 4, none⟩ = some (.slice none 0 0) := M1.out.cell 4
  have v1 : w1.cell? ⟨w.heap.size, 5, none⟩ = some (.slice h.n.A o.n.length h.n.c) := K1.out.cell 5
  go_wp2_with fail
  obtain ⟨X1, hX⟩ : ∃ V, V = (((((w1.setCell ⟨w.heap.size + 1 + 1, 0, none⟩ (.slice hs.A0 o.st.f0.length hs.c0)).setCell ⟨w.heap.size + 1 + 1, 1, none⟩ (.slice hs.A1 o.st.f1.length hs.c1)).setCell ⟨w.heap.size + 1 + 1, 2, none⟩ (.slice hs.A2 o.st.f2.length hs.c2)).setCell ⟨w.heap.size + 1 + 1, 3, none⟩ (.slice hs.A3 o.st.f3.length hs.c3)).setCell ⟨w.heap.size + 1 + 1, 4, none⟩ (.slice hs.A4 o.st.f4.length hs.c4)) := ⟨_, rfl⟩
  rw [← hX]
  have bX : Below w.heap.size w1 X1 := by rw [hX]; exact ((((((Below.refl _ _).setCell (by show _ ≤ w.heap.size + 1 + 1; omega) _).setCell (by show _ ≤ w.heap.size + 1 + 1; omega) _).setCell (by show _ ≤ w.heap.size + 1 + 1; omega) _).setCell (by show _ ≤ w.heap.size + 1 + 1; omega) _).setCell (by show _ ≤ w.heap.size + 1 + 1; omega) _)
  have sX : X1.heap.size = w1.heap.size := by rw [hX]; simp
  have nX : ∀ q, q ≠ w.heap.size + 1 + 1 → X1.heap[q]? = w1.heap[q]? := fun q hq => by rw [hX]; exact ((Below.heap_setCell _ _ _ q hq).trans ((Below.heap_setCell _ _ _ q hq).trans ((Below.heap_setCell _ _ _ q hq).trans ((Below.heap_setCell _ _ _ q hq).trans (Below.heap_setCell _ _ _ q hq)))))
  have Kx := Lib.hid (show Bk X1 w.heap.size _ _ from (nX _ (by omega)).trans K1.out)
  have Lx := Lib.hid (show Bk X1 (w.heap.size + 1) _ _ from (nX _ (by omega)).trans L1.out)
  have Mx : Hid (Bk X1 (w.heap.size + 1 + 1) 53 #[.slice hs.A0 o.st.f0.length hs.c0, .slice hs.A1 o.st.f1.length hs.c1, .slice hs.A2 o.st.f2.length hs.c2, .slice hs.A3 o.st.f3.length hs.c3, .slice hs.A4 o.st.f4.length hs.c4, .slice none 0 0, .slice none 0 0, .slice none 0 0, .slice none 0 0, .slice none 0 0]) := Lib.hid (by rw [hX]; have := (((((M1.out.set 0 (.slice hs.A0 o.st.f0.length hs.c0)).set 1 (.slice hs.A1 o.st.f1.length hs.c1)).set 2 (.slice hs.A2 o.st.f2.length hs.c2)).set 3 (.slice hs.A3 o.st.f3.length hs.c3)).set 4 (.slice hs.A4 o.st.f4.length hs.c4)); simpa using this)
  have Rx := Lib.hid (R1.out.below bX (by omega))
  have oSx := Lib.hid (oS1.out.keep (Nat.le_refl _) (Nat.le_refl _) fun q h1 h2 => nX q (by omega))
  have Bx := Lib.hid (B1.out.trans bX)
  have sXl1 := Nat.le_of_eq sX
  have sXr1 := Nat.le_of_eq sX.symm
  clear hX sX nX bX v1 R1 K1 L1 M1 B1 x1_0 y1_0 x1_1 y1_1 x1_2 y1_2 x1_3 y1_3 x1_4 y1_4 oS1
  refine (toNss_any h.n o.n X1 B Rx.out.n (by omega) Ln).mono ?_
  rintro e w2 ⟨hn, rfl, hb, hl2, own⟩
  have B2 := Lib.hid (Bx.out.trans (hb.mono (by omega)))
  have R2 := Lib.hid (Rx.out.below hb (by omega))
  have K2 := Lib.hid (Kx.out.below hb Kx.out.lt)
  have L2 := Lib.hid (Lx.out.below hb Lx.out.lt)
  have M2 := Lib.hid (Mx.out.below hb Mx.out.lt)
  have oS2 := Lib.hid (oSx.out.below hb (by omega))
  have oN2 := Lib.hid own
  have y2 := hb.size
  clear hb own Bx Rx Kx Lx Mx oSx
  have y2_5 := M2.out.free 5
  have x2_5 : w2.cell? ⟨w.heap.size + 1 + 1, 5, none⟩ = some (.slice none 0 0) := M2.out.cell 5
  have v2 : w2.cell? ⟨w.heap.size, 6, none⟩ = some (.slice h.v.A o.v.length h.v.c) := K2.out.cell 6
  go_wp2_with fail
  obtain ⟨X2, hX⟩ : ∃ V, V = (w2.setCell ⟨w.heap.size + 1 + 1, 5, none⟩ (.slice hn.A o.n.length hn.c)) := ⟨_, rfl⟩
  rw [← hX]
  have bX : Below w.heap.size w2 X2 := by rw [hX]; exact ((Below.refl _ _).setCell (by show _ ≤ w.heap.size + 1 + 1; omega) _)
  have sX : X2.heap.size = w2.heap.size := by rw [hX]; simp
  have nX : ∀ q, q ≠ w.heap.size + 1 + 1 → X2.heap[q]? = w2.heap[q]? := fun q hq => by rw [hX]; exact (Below.heap_setCell _ _ _ q hq)
  have Kx := Lib.hid (show Bk X2 w.heap.size _ _ from (nX _ (by omega)).trans K2.out)
  have Lx := Lib.hid (show Bk X2 (w.heap.size + 1) _ _ from (nX _ (by omega)).trans L2.out)
  have Mx : Hid (Bk X2 (w.heap.size + 1 + 1) 53 #[.slice hs.A0 o.st.f0.length hs.c0, .slice hs.A1 o.st.f1.length hs.c1, .slice hs.A2 o.st.f2.length hs.c2, .slice hs.A3 o.st.f3.length hs.c3, .slice hs.A4 o.st.f4.length hs.c4, .slice hn.A o.n.length hn.c, .slice none 0 0, .slice none 0 0, .slice none 0 0, .slice none 0 0]) := Lib.hid (by rw [hX]; have := (M2.out.set 5 (.slice hn.A o.n.length hn.c)); simpa using this)
  have Rx := Lib.hid (R2.out.below bX (by omega))
  have oSx := Lib.hid (oS2.out.keep (Nat.le_refl _) (Nat.le_refl _) fun q h1 h2 => nX q (by omega))
  have oNx := Lib.hid (oN2.out.keep (Nat.le_refl _) (Nat.le_refl _) fun q h1 h2 => nX q (by omega))
  have Bx := Lib.hid (B2.out.trans bX)
  have sXl2 := Nat.le_of_eq sX
  have sXr2 := Nat.le_of_eq sX.symm
  clear hX sX nX bX v2 R2 K2 L2 M2 B2 x2_5 y2_5 oS2 oN2
  refine (toIss_any h.v o.v X2 B Rx.out.v (by omega) Lv).mono ?_
  rintro e w3 ⟨hv, rfl, hb, hl3, own⟩
  have B3 := Lib.hid (Bx.out.trans (hb.mono (by omega)))
  have R3 := Lib.hid (Rx.out.below hb (by omega))
  have K3 := Lib.hid (Kx.out.below hb Kx.out.lt)
  have L3 := Lib.hid (Lx.out.below hb Lx.out.lt)
  have M3 := Lib.hid (Mx.out.below hb Mx.out.lt)
  have oS3 := Lib.hid (oSx.out.below hb (by omega))
  have oN3 := Lib.hid (oNx.out.below hb (by omega))
  have oV3 := Lib.hid own
  have y3 := hb.size
  clear hb own Bx Rx Kx Lx Mx oSx oNx
  have y3_6 := M3.out.free 6
  have x3_6 : w3.cell? ⟨w.heap.size + 1 + 1, 6, none⟩ = some (.slice none 0 0) := M3.out.cell 6
  have v3 : w3.cell? ⟨w.heap.size, 7, none⟩ = some (.slice h.l.A o.l.length h.l.c) := K3.out.cell 7
  go_wp2_with fail
  obtain ⟨X3, hX⟩ : ∃ V, V = (w3.setCell ⟨w.heap.size + 1 + 1, 6, none⟩ (.slice hv.A o.v.length hv.c)) := ⟨_, rfl⟩
  rw [← hX]
  have bX : Below w.heap.size w3 X3 := by rw [hX]; exact ((Below.refl _ _).setCell (by show _ ≤ w.heap.size + 1 + 1; omega) _)
  have sX : X3.heap.size = w3.heap.size := by rw [hX]; simp
  have nX : ∀ q, q ≠ w.heap.size + 1 + 1 → X3.heap[q]? = w3.heap[q]? := fun q hq => by rw [hX]; exact (Below.heap_setCell _ _ _ q hq)
  have Kx := Lib.hid (show Bk X3 w.heap.size _ _ from (nX _ (by omega)).trans K3.out)
  have Lx := Lib.hid (show Bk X3 (w.heap.size + 1) _ _ from (nX _ (by omega)).trans L3.out)
  have Mx : Hid (Bk X3 (w.heap.size + 1 + 1) 53 #[.slice hs.A0 o.st.f0.length hs.c0, .slice hs.A1 o.st.f1.length hs.c1, .slice hs.A2 o.st.f2.length hs.c2, .slice hs.A3 o.st.f3.length hs.c3, .slice hs.A4 o.st.f4.length hs.c4, .slice hn.A o.n.length hn.c, .slice hv.A o.v.length hv.c, .slice none 0 0, .slice none 0 0, .slice none 0 0]) := Lib.hid (by rw [hX]; have := (M3.out.set 6 (.slice hv.A o.v.length hv.c)); simpa using this)
  have Rx := Lib.hid (R3.out.below bX (by omega))
  have oSx := Lib.hid (oS3.out.keep (Nat.le_refl _) (Nat.le_refl _) fun q h1 h2 => nX q (by omega))
  have oNx := Lib.hid (oN3.out.keep (Nat.le_refl _) (Nat.le_refl _) fun q h1 h2 => nX q (by omega))
  have oVx := Lib.hid (oV3.out.keep (Nat.le_refl _) (Nat.le_refl _) fun q h1 h2 => nX q (by omega))
  have Bx := Lib.hid (B3.out.trans bX)
  have sXl3 := Nat.le_of_eq sX
  have sXr3 := Nat.le_of_eq sX.symm
  clear hX sX nX bX v3 R3 K3 L3 M3 B3 x3_6 y3_6 oS3 oN3 oV3
  refine (toIss_any h.l o.l X3 B Rx.out.l (by omega) Ll).mono ?_
  rintro e w4 ⟨hl, rfl, hb, hl4, own⟩
  have B4 := Lib.hid (Bx.out.trans (hb.mono (by omega)))
  have R4 := Lib.hid (Rx.out.below hb (by omega))
  have K4 := Lib.hid (Kx.out.below hb Kx.out.lt)
  have L4 := Lib.hid (Lx.out.below hb Lx.out.lt)
  have M4 := Lib.hid (Mx.out.below hb Mx.out.lt)
  have oS4 := Lib.hid (oSx.out.below hb (by omega))
  have oN4 := Lib.hid (oNx.out.below hb (by omega))
  have oV4 := Lib.hid (oVx.out.below hb (by omega))
  have oL4 := Lib.hid own
  have y4 := hb.size
  clear hb own Bx Rx Kx Lx Mx oSx oNx oVx
  have y4_7 := M4.out.free 7
  have x4_7 : w4.cell? ⟨w.heap.size + 1 + 1, 7, none⟩ = some (.slice none 0 0) := M4.out.cell 7
  have v4 : w4.cell? ⟨w.heap.size, 8, none⟩ = some (.slice h.k.A o.k.length h.k.c) := K4.out.cell 8
  go_wp2_with fail
  obtain ⟨X4, hX⟩ : ∃ V, V = (w4.setCell ⟨w.heap.size + 1 + 1, 7, none⟩ (.slice hl.A o.l.length hl.c)) := ⟨_, rfl⟩
  rw [← hX]
  have bX : Below w.heap.size w4 X4 := by rw [hX]; exact ((Below.refl _ _).setCell (by show _ ≤ w.heap.size + 1 + 1; omega) _)
  have sX : X4.heap.size = w4.heap.size := by rw [hX]; simp
  have nX : ∀ q, q ≠ w.heap.size + 1 + 1 → X4.heap[q]? = w4.heap[q]? := fun q hq => by rw [hX]; exact (Below.heap_setCell _ _ _ q hq)
  have Kx := Lib.hid (show Bk X4 w.heap.size _ _ from (nX _ (by omega)).trans K4.out)
  have Lx := Lib.hid (show Bk X4 (w.heap.size + 1) _ _ from (nX _ (by omega)).trans L4.out)
  have Mx : Hid (Bk X4 (w.heap.size + 1 + 1) 53 #[.slice hs.A0 o.st.f0.length hs.c0, .slice hs.A1 o.st.f1.length hs.c1, .slice hs.A2 o.st.f2.length hs.c2, .slice hs.A3 o.st.f3.length hs.c3, .slice hs.A4 o.st.f4.length hs.c4, .slice hn.A o.n.length hn.c, .slice hv.A o.v.length hv.c, .slice hl.A o.l.length hl.c, .slice none 0 0, .slice none 0 0]) := Lib.hid (by rw [hX]; have := (M4.out.set 7 (.slice hl.A o.l.length hl.c)); simpa using this)
  have Rx := Lib.hid (R4.out.below bX (by omega))
  have oSx := Lib.hid (oS4.out.keep (Nat.le_refl _) (Nat.le_refl _) fun q h1 h2 => nX q (by omega))
  have oNx := Lib.hid (oN4.out.keep (Nat.le_refl _) (Nat.le_refl _) fun q h1 h2 => nX q (by omega))
  have oVx := Lib.hid (oV4.out.keep (Nat.le_refl _) (Nat.le_refl _) fun q h1 h2 => nX q (by omega))
  have oLx := Lib.hid (oL4.out.keep (Nat.le_refl _) (Nat.le_refl _) fun q h1 h2 => nX q (by omega))
  have Bx := Lib.hid (B4.out.trans bX)
  have sXl4 := Nat.le_of_eq sX
  have sXr4 := Nat.le_of_eq sX.symm
  clear hX sX nX bX v4 R4 K4 L4 M4 B4 x4_7 y4_7 oS4 oN4 oV4 oL4
  refine (toIss_any h.k o.k X4 B Rx.out.k (by omega) Lk).mono ?_
  rintro e w5 ⟨hk, rfl, hb, hl5, own⟩
  have B5 := Lib.hid (Bx.out.trans (hb.mono (by omega)))
  have R5 := Lib.hid (Rx.out.below hb (by omega))
  have K5 := Lib.hid (Kx.out.below hb Kx.out.lt)
  have L5 := Lib.hid (Lx.out.below hb Lx.out.lt)
  have M5 := Lib.hid (Mx.out.below hb Mx.out.lt)
  have oS5 := Lib.hid (oSx.out.below hb (by omega))
  have oN5 := Lib.hid (oNx.out.below hb (by omega))
  have oV5 := Lib.hid (oVx.out.below hb (by omega))
  have oL5 := Lib.hid (oLx.out.below hb (by omega))
  have oK5 := Lib.hid own
  have y5 := hb.size
  clear hb own Bx Rx Kx Lx Mx oSx oNx oVx oLx
  have y5_8 := M5.out.free 8
  have x5_8 : w5.cell? ⟨w.heap.size + 1 + 1, 8, none⟩ = some (.slice none 0 0) := M5.out.cell 8
  have v5 : w5.cell? ⟨w.heap.size, 9, none⟩ = some (.slice h.f.A o.f.length h.f.c) := K5.out.cell 9
  go_wp2_with fail
  obtain ⟨X5, hX⟩ : ∃ V, V = (w5.setCell ⟨w.heap.size + 1 + 1, 8, none⟩ (.slice hk.A o.k.length hk.c)) := ⟨_, rfl⟩
  rw [← hX]
  have bX : Below w.heap.size w5 X5 := by rw [hX]; exact ((Below.refl _ _).setCell (by show _ ≤ w.heap.size + 1 + 1; omega) _)
  have sX : X5.heap.size = w5.heap.size := by rw [hX]; simp
  have nX : ∀ q, q ≠ w.heap.size + 1 + 1 → X5.heap[q]? = w5.heap[q]? := fun q hq => by rw [hX]; exact (Below.heap_setCell _ _ _ q hq)
  have Kx := Lib.hid (show Bk X5 w.heap.size _ _ from (nX _ (by omega)).trans K5.out)
  have Lx := Lib.hid (show Bk X5 (w.heap.size + 1) _ _ from (nX _ (by omega)).trans L5.out)
  have Mx : Hid (Bk X5 (w.heap.size + 1 + 1) 53 #[.slice hs.A0 o.st.f0.length hs.c0, .slice hs.A1 o.st.f1.length hs.c1, .slice hs.A2 o.st.f2.length hs.c2, .slice hs.A3 o.st.f3.length hs.c3, .slice hs.A4 o.st.f4.length hs.c4, .slice hn.A o.n.length hn.c, .slice hv.A o.v.length hv.c, .slice hl.A o.l.length hl.c, .slice hk.A o.k.length hk.c, .slice none 0 0]) := Lib.hid (by rw [hX]; have := (M5.out.set 8 (.slice hk.A o.k.length hk.c)); simpa using this)
  have Rx := Lib.hid (R5.out.below bX (by omega))
  have oSx := Lib.hid (oS5.out.keep (Nat.le_refl _) (Nat.le_refl _) fun q h1 h2 => nX q (by omega))
  have oNx := Lib.hid (oN5.out.keep (Nat.le_refl _) (Nat.le_refl _) fun q h1 h2 => nX q (by omega))
  have oVx := Lib.hid (oV5.out.keep (Nat.le_refl _) (Nat.le_refl _) fun q h1 h2 => nX q (by omega))
  have oLx := Lib.hid (oL5.out.keep (Nat.le_refl _) (Nat.le_refl _) fun q h1 h2 => nX q (by omega))
  have oKx := Lib.hid (oK5.out.keep (Nat.le_refl _) (Nat.le_refl _) fun q h1 h2 => nX q (by omega))
  have Bx := Lib.hid (B5.out.trans bX)
  have sXl5 := Nat.le_of_eq sX
  have sXr5 := Nat.le_of_eq sX.symm
  clear hX sX nX bX v5 R5 K5 L5 M5 B5 x5_8 y5_8 oS5 oN5 oV5 oL5 oK5
  refine (toInt_any h.f.A o.f h.f.c X5 B Rx.out.f (by omega) Lf).mono ?_
  rintro e w6 ⟨rfl, cp⟩
  have hb := cp.1
  have hl6 := cp.lt
  have own := cp.done
  have B6 := Lib.hid (Bx.out.trans (hb.mono (by omega)))
  have R6 := Lib.hid (Rx.out.below hb (by omega))
  have K6 := Lib.hid (Kx.out.below hb Kx.out.lt)
  have L6 := Lib.hid (Lx.out.below hb Lx.out.lt)
  have M6 := Lib.hid (Mx.out.below hb Mx.out.lt)
  have oS6 := Lib.hid (oSx.out.below hb (by omega))
  have oN6 := Lib.hid (oNx.out.below hb (by omega))
  have oV6 := Lib.hid (oVx.out.below hb (by omega))
  have oL6 := Lib.hid (oLx.out.below hb (by omega))
  have oK6 := Lib.hid (oKx.out.below hb (by omega))
  have oF6 := Lib.hid own
  have y6 := hb.size
  clear hb own Bx Rx Kx Lx Mx oSx oNx oVx oLx oKx cp
  clear R6 K6
  have fr0 := L6.out.free 0
  have xr0 : w6.cell? ⟨w.heap.size + 1, 0, none⟩ = some (.slice none 0 0) := L6.out.cell 0
  have fr1 := L6.out.free 1
  have xr1 : w6.cell? ⟨w.heap.size + 1, 1, none⟩ = some (.slice none 0 0) := L6.out.cell 1
  have fr2 := L6.out.free 2
  have xr2 : w6.cell? ⟨w.heap.size + 1, 2, none⟩ = some (.slice none 0 0) := L6.out.cell 2
  have fr3 := L6.out.free 3
  have xr3 : w6.cell? ⟨w.heap.size + 1, 3, none⟩ = some (.slice none 0 0) := L6.out.cell 3
  have fr4 := L6.out.free 4
  have xr4 : w6.cell? ⟨w.heap.size + 1, 4, none⟩ = some (.slice none 0 0) := L6.out.cell 4
  have fr5 := L6.out.free 5
  have xr5 : w6.cell? ⟨w.heap.size + 1, 5, none⟩ = some (.slice none 0 0) := L6.out.cell 5
  have fr6 := L6.out.free 6
  have xr6 : w6.cell? ⟨w.heap.size + 1, 6, none⟩ = some (.slice none 0 0) := L6.out.cell 6
  have fr7 := L6.out.free 7
  have xr7 : w6.cell? ⟨w.heap.size + 1, 7, none⟩ = some (.slice none 0 0) := L6.out.cell 7
  have fr8 := L6.out.free 8
  have xr8 : w6.cell? ⟨w.heap.size + 1, 8, none⟩ = some (.slice none 0 0) := L6.out.cell 8
  have fr9 := L6.out.free 9
  have xr9 : w6.cell? ⟨w.heap.size + 1, 9, none⟩ = some (.slice none 0 0) := L6.out.cell 9
  have xo0 : w6.cell? ⟨w.heap.size + 1 + 1, 0, none⟩ = some (.slice hs.A0 o.st.f0.length hs.c0) := M6.out.cell 0
  have xo1 : w6.cell? ⟨w.heap.size + 1 + 1, 1, none⟩ = some (.slice hs.A1 o.st.f1.length hs.c1) := M6.out.cell 1
  have xo2 : w6.cell? ⟨w.heap.size + 1 + 1, 2, none⟩ = some (.slice hs.A2 o.st.f2.length hs.c2) := M6.out.cell 2
  have xo3 : w6.cell? ⟨w.heap.size + 1 + 1, 3, none⟩ = some (.slice hs.A3 o.st.f3.length hs.c3) := M6.out.cell 3
  have xo4 : w6.cell? ⟨w.heap.size + 1 + 1, 4, none⟩ = some (.slice hs.A4 o.st.f4.length hs.c4) := M6.out.cell 4
  have xo5 : w6.cell? ⟨w.heap.size + 1 + 1, 5, none⟩ = some (.slice hn.A o.n.length hn.c) := M6.out.cell 5
  have xo6 : w6.cell? ⟨w.heap.size + 1 + 1, 6, none⟩ = some (.slice hv.A o.v.length hv.c) := M6.out.cell 6
  have xo7 : w6.cell? ⟨w.heap.size + 1 + 1, 7, none⟩ = some (.slice hl.A o.l.length hl.c) := M6.out.cell 7
  have xo8 : w6.cell? ⟨w.heap.size + 1 + 1, 8, none⟩ = some (.slice hk.A o.k.length hk.c) := M6.out.cell 8
  have yo := M6.out.free 9
  have xo : w6.cell? ⟨w.heap.size + 1 + 1, 9, none⟩ = some (.slice none 0 0) := M6.out.cell 9
  obtain ⟨F, hF⟩ : ∃ F, F = (((((((((((w6.setCell ⟨w.heap.size + 1 + 1, 9, none⟩ (.slice (some ⟨X5.heap.size, 0, none⟩) o.f.length o.f.length)).setCell ⟨w.heap.size + 1, 0, none⟩ (.slice hs.A0 o.st.f0.length hs.c0)).setCell ⟨w.heap.size + 1, 1, none⟩ (.slice hs.A1 o.st.f1.length hs.c1)).setCell ⟨w.heap.size + 1, 2, none⟩ (.slice hs.A2 o.st.f2.length hs.c2)).setCell ⟨w.heap.size + 1, 3, none⟩ (.slice hs.A3 o.st.f3.length hs.c3)).setCell ⟨w.heap.size + 1, 4, none⟩ (.slice hs.A4 o.st.f4.length hs.c4)).setCell ⟨w.heap.size + 1, 5, none⟩ (.slice hn.A o.n.length hn.c)).setCell ⟨w.heap.size + 1, 6, none⟩ (.slice hv.A o.v.length hv.c)).setCell ⟨w.heap.size + 1, 7, none⟩ (.slice hl.A o.l.length hl.c)).setCell ⟨w.heap.size + 1, 8, none⟩ (.slice hk.A o.k.length hk.c)).setCell ⟨w.heap.size + 1, 9, none⟩ (.slice (some ⟨X5.heap.size, 0, none⟩) o.f.length o.f.length)) := ⟨_, rfl⟩
  have kF : Bk F (w.heap.size + 1) 53 #[.slice hs.A0 o.st.f0.length hs.c0, .slice hs.A1 o.st.f1.length hs.c1, .slice hs.A2 o.st.f2.length hs.c2, .slice hs.A3 o.st.f3.length hs.c3, .slice hs.A4 o.st.f4.length hs.c4, .slice hn.A o.n.length hn.c, .slice hv.A o.v.length hv.c, .slice hl.A o.l.length hl.c, .slice hk.A o.k.length hk.c, .slice (some ⟨X5.heap.size, 0, none⟩) o.f.length o.f.length] := by
    rw [hF]; have := (((((((((((L6.out.far (p := ⟨w.heap.size + 1 + 1, 9, none⟩) (by show w.heap.size + 1 ≠ w.heap.size + 1 + 1; omega) (.slice (some ⟨X5.heap.size, 0, none⟩) o.f.length o.f.length)).set 0 (.slice hs.A0 o.st.f0.length hs.c0)).set 1 (.slice hs.A1 o.st.f1.length hs.c1)).set 2 (.slice hs.A2 o.st.f2.length hs.c2)).set 3 (.slice hs.A3 o.st.f3.length hs.c3)).set 4 (.slice hs.A4 o.st.f4.length hs.c4)).set 5 (.slice hn.A o.n.length hn.c)).set 6 (.slice hv.A o.v.length hv.c)).set 7 (.slice hl.A o.l.length hl.c)).set 8 (.slice hk.A o.k.length hk.c)).set 9 (.slice (some ⟨X5.heap.size, 0, none⟩) o.f.length o.f.length))
    simpa using this
  have bF : Below w.heap.size w6 F := by rw [hF]; exact ((((((((((((Below.refl _ _).setCell (by show _ ≤ w.heap.size + 1 + 1; omega) _).setCell (by show _ ≤ w.heap.size + 1; omega) _).setCell (by show _ ≤ w.heap.size + 1; omega) _).setCell (by show _ ≤ w.heap.size + 1; omega) _).setCell (by show _ ≤ w.heap.size + 1; omega) _).setCell (by show _ ≤ w.heap.size + 1; omega) _).setCell (by show _ ≤ w.heap.size + 1; omega) _).setCell (by show _ ≤ w.heap.size + 1; omega) _).setCell (by show _ ≤ w.heap.size + 1; omega) _).setCell (by show _ ≤ w.heap.size + 1; omega) _).setCell (by show _ ≤ w.heap.size + 1; omega) _)
  have nF : ∀ q, w.heap.size + 1 + 1 < q → F.heap[q]? = w6.heap[q]? := fun q hq => by rw [hF]; exact ((Below.heap_setCell _ _ _ q (by show q ≠ w.heap.size + 1; omega)).trans ((Below.heap_setCell _ _ _ q (by show q ≠ w.heap.size + 1; omega)).trans ((Below.heap_setCell _ _ _ q (by show q ≠ w.heap.size + 1; omega)).trans ((Below.heap_setCell _ _ _ q (by show q ≠ w.heap.size + 1; omega)).trans ((Below.heap_setCell _ _ _ q (by show q ≠ w.heap.size + 1; omega)).trans ((Below.heap_setCell _ _ _ q (by show q ≠ w.heap.size + 1; omega)).trans ((Below.heap_setCell _ _ _ q (by show q ≠ w.heap.size + 1; omega)).trans ((Below.heap_setCell _ _ _ q (by show q ≠ w.heap.size + 1; omega)).trans ((Below.heap_setCell _ _ _ q (by show q ≠ w.heap.size + 1; omega)).trans ((Below.heap_setCell _ _ _ q (by show q ≠ w.heap.size + 1; omega)).trans (Below.heap_setCell _ _ _ q (by show q ≠ w.heap.size + 1 + 1; omega))))))))))))
  have sF : w6.heap.size ≤ F.heap.size := by rw [hF]; simp
  have HF := Lib.hid hF
  have NF := Lib.hid nF
  have BF := Lib.hid bF
  have KF := Lib.hid kF
  clear hF nF bF kF L6 M6
  go_wp2
  rw [← HF.out]
  have cF0 : F.cell? ⟨w.heap.size + 1, 0, none⟩ = some (.slice hs.A0 o.st.f0.length hs.c0) := KF.out.cell 0
  have cF1 : F.cell? ⟨w.heap.size + 1, 1, none⟩ = some (.slice hs.A1 o.st.f1.length hs.c1) := KF.out.cell 1
  have cF2 : F.cell? ⟨w.heap.size + 1, 2, none⟩ = some (.slice hs.A2 o.st.f2.length hs.c2) := KF.out.cell 2
  have cF3 : F.cell? ⟨w.heap.size + 1, 3, none⟩ = some (.slice hs.A3 o.st.f3.length hs.c3) := KF.out.cell 3
  have cF4 : F.cell? ⟨w.heap.size + 1, 4, none⟩ = some (.slice hs.A4 o.st.f4.length hs.c4) := KF.out.cell 4
  have cF5 : F.cell? ⟨w.heap.size + 1, 5, none⟩ = some (.slice hn.A o.n.length hn.c) := KF.out.cell 5
  have cF6 : F.cell? ⟨w.heap.size + 1, 6, none⟩ = some (.slice hv.A o.v.length hv.c) := KF.out.cell 6
  have cF7 : F.cell? ⟨w.heap.size + 1, 7, none⟩ = some (.slice hl.A o.l.length hl.c) := KF.out.cell 7
  have cF8 : F.cell? ⟨w.heap.size + 1, 8, none⟩ = some (.slice hk.A o.k.length hk.c) := KF.out.cell 8
  have cF9 : F.cell? ⟨w.heap.size + 1, 9, none⟩ = some (.slice (some ⟨X5.heap.size, 0, none⟩) o.f.length o.f.length) := KF.out.cell 9
  refine bodyPost_ret (v := .agg #[.slice hs.A0 o.st.f0.length hs.c0, .slice hs.A1 o.st.f1.length hs.c1, .slice hs.A2 o.st.f2.length hs.c2, .slice hs.A3 o.st.f3.length hs.c3, .slice hs.A4 o.st.f4.length hs.c4, .slice hn.A o.n.length hn.c, .slice hv.A o.v.length hv.c, .slice hl.A o.l.length hl.c, .slice hk.A o.k.length hk.c, .slice (some ⟨X5.heap.size, 0, none⟩) o.f.length o.f.length]) (by simp [results, Try.results20, cF0, cF1, cF2, cF3, cF4, cF5, cF6, cF7, cF8, cF9, go_sem]) rfl ?_
  exact ⟨⟨hs, hn, hv, hl, hk, ⟨_, _⟩⟩, rfl, B6.out.trans BF.out, by omega, W.heap.size, X1.heap.size, X2.heap.size, X3.heap.size, X4.heap.size, X5.heap.size, w6.heap.size, by omega, by omega, by omega, by omega, by omega, by omega, by omega, by omega, oS6.out.keep (Nat.le_refl _) (by omega) fun q h1 h2 => NF.out q (by omega), oN6.out.keep (Nat.le_refl _) (by omega) fun q h1 h2 => NF.out q (by omega), oV6.out.keep (Nat.le_refl _) (by omega) fun q h1 h2 => NF.out q (by omega), oL6.out.keep (Nat.le_refl _) (by omega) fun q h1 h2 => NF.out q (by omega), oK6.out.keep (Nat.le_refl _) (by omega) fun q h1 h2 => NF.out q (by omega), oF6.out.keep (Nat.le_refl _) (by omega) fun q h1 h2 => NF.out q (by omega)⟩
/-- An answer of a record and a truth: the record is the call's own. -/
def AnsVwd (w : World) (o : Vwd) (r : Bool) (e : Ending) (w' : World) : Prop := ∃ h, e = .returned (.tuple #[VwdV h o, .bool r]) ∧ Below w.heap.size w w' ∧ w.heap.size ≤ w'.heap.size ∧ VwdO w' w.heap.size w'.heap.size h o
def AnsIVwd (w : World) (o : Vwd) (r : Bool) (e : Ending) (w' : World) : Prop := ∃ h, e = .returned (.tuple #[VwdV h o, .bool r]) ∧ Below w.heap.size w w' ∧ w.heap.size ≤ w'.heap.size ∧ VwdI w' w.heap.size w'.heap.size h o
theorem AnsVwd.in_ {w w' : World} {o : Vwd} {r : Bool} {e : Ending} (h : AnsVwd w o r e w') : AnsIVwd w o r e w' := by
  obtain ⟨k, h1, h2, h3, h4⟩ := h
  exact ⟨k, h1, h2, h3, h4.in_⟩
end Go.Proofs.Ytaghidaamcnpkab
