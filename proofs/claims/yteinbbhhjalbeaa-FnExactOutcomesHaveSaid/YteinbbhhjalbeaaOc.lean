/-
  Outcomes as records of lists: how they lie in memory, and contracts of the laws' functions over them: sizes, copies, equality, marks, held marks.
-/
import Derived.Test.YteinbbhhjalbeaaVec
import Derived.Test.YteinbbhhjalbeaaRec0
namespace Go.Proofs.Yteinbbhhjalbeaa
open Go.RowKit Pl
set_option maxHeartbeats 1000000
set_option maxRecDepth 100000
set_option linter.unusedVariables false

structure Oc where
  f0 : List Int
  f1 : List Int
  f2 : List Bool
deriving DecidableEq, Inhabited
/-- Where a record's lists lie, and their room. -/
structure OcH where
  A0 : Option Addr
  A1 : Option Addr
  A2 : Option Addr
  c0 : Nat
  c1 : Nat
  c2 : Nat
deriving Inhabited
abbrev OcV (h : OcH) (o : Oc) : Value := .agg #[.slice h.A0 o.f0.length h.c0, .slice h.A1 o.f1.length h.c1, .slice h.A2 o.f2.length h.c2]
def OcN : OcH := ⟨none, none, none, 0, 0, 0⟩
def OcE : Oc := ⟨[], [], []⟩
structure OcR (w : World) (B : Nat) (h : OcH) (o : Oc) : Prop where
  r0 : Vs w B h.A0 (ints o.f0)
  r1 : Vs w B h.A1 (ints o.f1)
  r2 : Vs w B h.A2 (bools o.f2)
structure OcL (o : Oc) (m : Nat) : Prop where
  l0 : o.f0.length ≤ m
  l1 : o.f1.length ≤ m
  l2 : o.f2.length ≤ m
structure OcI (w : World) (lo hi : Nat) (h : OcH) (o : Oc) : Prop where
  i0 : InVs w lo hi h.A0 (ints o.f0)
  i1 : InVs w lo hi h.A1 (ints o.f1)
  i2 : InVs w lo hi h.A2 (bools o.f2)
/-- A record of the call's own: its lists lie in blocks that no two of them share. -/
structure OcO (w : World) (lo hi : Nat) (h : OcH) (o : Oc) : Prop where
  o0 : OwnVs w lo hi 3 h.A0 (ints o.f0)
  o1 : OwnVs w lo hi 3 h.A1 (ints o.f1)
  o2 : OwnVs w lo hi 4 h.A2 (bools o.f2)
  d01 : 0 < o.f0.length → 0 < o.f1.length → h.A0 ≠ h.A1
  d02 : 0 < o.f0.length → 0 < o.f2.length → h.A0 ≠ h.A2
  d12 : 0 < o.f1.length → 0 < o.f2.length → h.A1 ≠ h.A2
section
variable {w w' : World} {B B' B'' lo hi lo' hi' : Nat} {h : OcH} {o : Oc}
theorem OcR.below (r : OcR w B h o) (hb : Below B' w w') (hB : B ≤ B') : OcR w' B h o := ⟨r.r0.below hb hB, r.r1.below hb hB, r.r2.below hb hB⟩
theorem OcR.up (r : OcR w B h o) (hb : Below B' w w') (hB : B ≤ B') (hB2 : B ≤ B'') : OcR w' B'' h o := ⟨r.r0.up hb hB hB2, r.r1.up hb hB hB2, r.r2.up hb hB hB2⟩
theorem OcR.keepV (r : OcR w B h o) (hk : ∀ b o, b < B → w'.cell? ⟨b, o, none⟩ = w.cell? ⟨b, o, none⟩) : OcR w' B h o := ⟨r.r0.keepV hk, r.r1.keepV hk, r.r2.keepV hk⟩
theorem OcI.keep (r : OcI w lo hi h o) (hl : lo' ≤ lo) (hh : hi ≤ hi') (hk : ∀ i, lo ≤ i → i < hi → w'.heap[i]? = w.heap[i]?) : OcI w' lo' hi' h o := ⟨r.i0.keep hl hh hk, r.i1.keep hl hh hk, r.i2.keep hl hh hk⟩
theorem OcI.below (r : OcI w lo hi h o) (hb : Below B w w') (hB : hi ≤ B) : OcI w' lo hi h o := ⟨r.i0.below hb hB, r.i1.below hb hB, r.i2.below hb hB⟩
theorem OcI.rd (r : OcI w lo hi h o) : OcR w hi h o := ⟨r.i0.vs, r.i1.vs, r.i2.vs⟩
theorem OcO.keep (r : OcO w lo hi h o) (hl : lo' ≤ lo) (hh : hi ≤ hi') (hk : ∀ i, lo ≤ i → i < hi → w'.heap[i]? = w.heap[i]?) : OcO w' lo' hi' h o := ⟨r.o0.keep hl hh hk, r.o1.keep hl hh hk, r.o2.keep hl hh hk, r.d01, r.d02, r.d12⟩
theorem OcO.below (r : OcO w lo hi h o) (hb : Below B w w') (hB : hi ≤ B) : OcO w' lo hi h o := ⟨r.o0.below hb hB, r.o1.below hb hB, r.o2.below hb hB, r.d01, r.d02, r.d12⟩
theorem OcO.in_ (r : OcO w lo hi h o) : OcI w lo hi h o := ⟨r.o0.in_, r.o1.in_, r.o2.in_⟩
theorem OcO.rd (r : OcO w lo hi h o) : OcR w hi h o := r.in_.rd
theorem OcO.none_ (w : World) (lo hi : Nat) (h : OcH) : OcO w lo hi h OcE := ⟨OwnVs.nil _ _ _ _ _, OwnVs.nil _ _ _ _ _, OwnVs.nil _ _ _ _ _, by intro a; simp [OcE] at a, by intro a; simp [OcE] at a, by intro a; simp [OcE] at a⟩
theorem OcI.none_ (w : World) (lo hi : Nat) (h : OcH) : OcI w lo hi h OcE := (OcO.none_ w lo hi h).in_
theorem OcL.le {m k : Nat} (l : OcL o m) (hm : m ≤ k) : OcL o k := ⟨Nat.le_trans l.l0 hm, Nat.le_trans l.l1 hm, Nat.le_trans l.l2 hm⟩
end
/-- what the size function comes to -/
def szOc (a : Int) (o : Oc) : Int := szN a [o.f0.length, o.f1.length, o.f2.length]
theorem szOc_ge (a : Int) (o : Oc) (ha : 0 ≤ a) : -1 ≤ szOc a o ∧ szOc a o ≤ a := szN_ge _ _ ha
theorem szOc_len {a : Int} {o : Oc} (h : 0 ≤ szOc a o) (ha : 0 ≤ a) : (o.f0.length : Int) + (o.f1.length : Int) + (o.f2.length : Int) ≤ a := by
  have := szN_len _ _ h ha
  simp at this
  omega
theorem szOc_small {a : Int} {o : Oc} (h : 0 ≤ szOc a o) (ha : 0 ≤ a) (ha2 : a ≤ 1048576) : OcL o 1048576 := by
  have := szOc_len h ha
  exact ⟨by omega, by omega, by omega⟩
abbrev OcS (o : Oc) : Prop := OcL o 1048576
theorem OcS_L {o : Oc} (s : OcS o) : OcL o maxLen := OcL.le s (by unfold maxLen; omega)
theorem szOc_any (h : OcH) (o : Oc) (left : Int) (w : World) (B : Nat) (hR : OcR w B h o) (hB : B ≤ w.heap.size) (hL : OcL o maxLen) (h0 : 0 ≤ left) (h1 : left ≤ 1048576) (r : Int) (hr : Hid (szOc left o = r)) :
    Calls Try.prog 50 #[OcV h o, .int .i64 left] w fun e w' => e = .returned (.int .i64 r) ∧ Below w.heap.size w w' := by
  obtain ⟨l0, l1, l2⟩ := hL
  unfold maxLen at *
  have hr' := hr.out
  simp only [szOc, szN] at hr'
  clear hr
  obtain ⟨a0, e0⟩ : ∃ a, sz1 left o.f0.length = a := ⟨_, rfl⟩
  have u0 : a0 ≤ left ∧ -1 ≤ a0 := by rw [← e0]; unfold sz1; split <;> omega
  have E0 := Lib.hid e0
  rw [e0] at hr'
  clear e0
  by_cases n0 : a0 < 0
  · rw [if_pos n0] at hr'
    have hfin := Lib.hid hr'
    clear hr'
    go_enter Try.func50, Try.ntmps50
    go_wp2_with fail
    refine (szInt_any' _ _ _ _ _ (by unfold maxLen; omega) (by omega) (by omega) _ E0).mono ?_
    rintro e w' ⟨rfl, rfl⟩
    go_wp2
    go_ret
    exact ⟨by rw [← hfin.out]; rfl, by go_grown⟩
  rw [if_neg n0] at hr'
  obtain ⟨a1, e1⟩ : ∃ a, sz1 a0 o.f1.length = a := ⟨_, rfl⟩
  have u1 : a1 ≤ a0 ∧ -1 ≤ a1 := by rw [← e1]; unfold sz1; split <;> omega
  have E1 := Lib.hid e1
  rw [e1] at hr'
  clear e1
  by_cases n1 : a1 < 0
  · rw [if_pos n1] at hr'
    have hfin := Lib.hid hr'
    clear hr'
    go_enter Try.func50, Try.ntmps50
    go_wp2_with fail
    refine (szInt_any' _ _ _ _ _ (by unfold maxLen; omega) (by omega) (by omega) _ E0).mono ?_
    rintro e w' ⟨rfl, rfl⟩
    go_wp2_with fail
    refine (szInt_any' _ _ _ _ _ (by unfold maxLen; omega) (by omega) (by omega) _ E1).mono ?_
    rintro e w' ⟨rfl, rfl⟩
    go_wp2
    go_ret
    exact ⟨by rw [← hfin.out]; rfl, by go_grown⟩
  rw [if_neg n1] at hr'
  obtain ⟨a2, e2⟩ : ∃ a, sz1 a1 o.f2.length = a := ⟨_, rfl⟩
  have u2 : a2 ≤ a1 ∧ -1 ≤ a2 := by rw [← e2]; unfold sz1; split <;> omega
  have E2 := Lib.hid e2
  rw [e2] at hr'
  clear e2
  by_cases n2 : a2 < 0
  · rw [if_pos n2] at hr'
    have hfin := Lib.hid hr'
    clear hr'
    go_enter Try.func50, Try.ntmps50
    go_wp2_with fail
    refine (szInt_any' _ _ _ _ _ (by unfold maxLen; omega) (by omega) (by omega) _ E0).mono ?_
    rintro e w' ⟨rfl, rfl⟩
    go_wp2_with fail
    refine (szInt_any' _ _ _ _ _ (by unfold maxLen; omega) (by omega) (by omega) _ E1).mono ?_
    rintro e w' ⟨rfl, rfl⟩
    go_wp2_with fail
    refine (szBool_any' _ _ _ _ _ (by unfold maxLen; omega) (by omega) (by omega) _ E2).mono ?_
    rintro e w' ⟨rfl, rfl⟩
    go_wp2
    go_ret
    exact ⟨by rw [← hfin.out]; rfl, by go_grown⟩
  rw [if_neg n2] at hr'
  have hfin := Lib.hid hr'
  clear hr'
  go_enter Try.func50, Try.ntmps50
  go_wp2_with fail
  refine (szInt_any' _ _ _ _ _ (by unfold maxLen; omega) (by omega) (by omega) _ E0).mono ?_
  rintro e w' ⟨rfl, rfl⟩
  go_wp2_with fail
  refine (szInt_any' _ _ _ _ _ (by unfold maxLen; omega) (by omega) (by omega) _ E1).mono ?_
  rintro e w' ⟨rfl, rfl⟩
  go_wp2_with fail
  refine (szBool_any' _ _ _ _ _ (by unfold maxLen; omega) (by omega) (by omega) _ E2).mono ?_
  rintro e w' ⟨rfl, rfl⟩
  go_wp2
  go_ret
  exact ⟨by rw [← hfin.out]; rfl, by go_grown⟩
/-- What a copy comes to. -/
def ToOc (w : World) (o : Oc) (e : Ending) (w' : World) : Prop := ∃ h, e = .returned (OcV h o) ∧ Below w.heap.size w w' ∧ w.heap.size < w'.heap.size ∧ OcO w' w.heap.size w'.heap.size h o
theorem toOc_any (h : OcH) (o : Oc) (w : World) (B : Nat) (hR : OcR w B h o) (hB : B ≤ w.heap.size) (hL : OcL o 1048576) :
    Calls Try.prog 52 #[OcV h o] w (ToOc w o) := by
  obtain ⟨l0, l1, l2⟩ := hL
  obtain ⟨W, hW⟩ : ∃ W, W = ((w.alloc (.cells #[.slice h.A0 o.f0.length h.c0, .slice h.A1 o.f1.length h.c1, .slice h.A2 o.f2.length h.c2] 73)).alloc (.cells #[.slice none 0 0, .slice none 0 0, .slice none 0 0] 68)).alloc (.cells #[.slice none 0 0, .slice none 0 0, .slice none 0 0] 68) := ⟨_, rfl⟩
  have bW : Below w.heap.size w W := by rw [hW]; go_grown
  have sW : W.heap.size = w.heap.size + 1 + 1 + 1 := by rw [hW]; simp
  have k0 : Bk W w.heap.size 73 #[.slice h.A0 o.f0.length h.c0, .slice h.A1 o.f1.length h.c1, .slice h.A2 o.f2.length h.c2] := by rw [hW]; exact ((Bk.new w _ _).alloc _).alloc _
  have k1 : Bk W (w.heap.size + 1) 68 #[.slice none 0 0, .slice none 0 0, .slice none 0 0] := by
    rw [hW]; have := (Bk.new (w.alloc (.cells #[.slice h.A0 o.f0.length h.c0, .slice h.A1 o.f1.length h.c1, .slice h.A2 o.f2.length h.c2] 73)) #[.slice none 0 0, .slice none 0 0, .slice none 0 0] 68).alloc (.cells #[.slice none 0 0, .slice none 0 0, .slice none 0 0] 68)
    rwa [World.size_alloc] at this
  have k2 : Bk W (w.heap.size + 1 + 1) 68 #[.slice none 0 0, .slice none 0 0, .slice none 0 0] := by
    rw [hW]; have := Bk.new ((w.alloc (.cells #[.slice h.A0 o.f0.length h.c0, .slice h.A1 o.f1.length h.c1, .slice h.A2 o.f2.length h.c2] 73)).alloc (.cells #[.slice none 0 0, .slice none 0 0, .slice none 0 0] 68)) #[.slice none 0 0, .slice none 0 0, .slice none 0 0] 68
    rwa [World.size_alloc, World.size_alloc] at this
  have HR_ := Lib.hid (hR.below bW hB)
  have K0_ := Lib.hid k0
  have K1_ := Lib.hid k1
  have K2_ := Lib.hid k2
  have BW_ := Lib.hid bW
  have sWl : w.heap.size + 3 ≤ W.heap.size := by omega
  have HW := Lib.hid hW
  clear hW bW sW k0 k1 k2 hR
  go_enter Try.func52, Try.ntmps52
  go_wp2_with fail
  rw [← HW.out]
  refine (toInt_any h.A0 o.f0 h.c0 W B HR_.out.r0 (by omega) l0).mono ?_
  rintro e w1 ⟨rfl, cp0⟩
  have own0 := Lib.hid (cp0.done)
  have lt0 := cp0.lt
  have Bl0 := Lib.hid cp0.1
  clear cp0
  have K00 := Lib.hid (K0_.out.below Bl0.out K0_.out.lt)
  have K10 := Lib.hid (K1_.out.below Bl0.out K1_.out.lt)
  have K20 := Lib.hid (K2_.out.below Bl0.out K2_.out.lt)
  have HR0 := Lib.hid (HR_.out.below Bl0.out (by omega))
  clear K0_ K1_ K2_ HR_
  have y0 := K20.out.free 0
  have x0 : w1.cell? ⟨w.heap.size + 1 + 1, 0, none⟩ = some (.slice none 0 0) := K20.out.cell 0
  have v0 : w1.cell? ⟨w.heap.size, 1, none⟩ = some (.slice h.A1 o.f1.length h.c1) := K00.out.cell 1
  go_wp2_with fail
  obtain ⟨X1, hX⟩ : ∃ V, V = w1.setCell ⟨w.heap.size + 1 + 1, 0, none⟩ (.slice (some ⟨W.heap.size, 0, none⟩) o.f0.length o.f0.length) := ⟨_, rfl⟩
  rw [← hX]
  have bX : Below w.heap.size w1 X1 := by rw [hX]; exact (Below.refl _ _).setCell (by show _ ≤ w.heap.size + 1 + 1; omega) _
  have sX : X1.heap.size = w1.heap.size := by rw [hX]; simp
  have nX : ∀ q, q ≠ w.heap.size + 1 + 1 → X1.heap[q]? = w1.heap[q]? := fun q hq => by rw [hX]; exact Below.heap_setCell _ _ _ q hq
  have K0_ := Lib.hid (show Bk X1 w.heap.size _ _ from (nX _ (by omega)).trans K00.out)
  have K1_ := Lib.hid (show Bk X1 (w.heap.size + 1) _ _ from (nX _ (by omega)).trans K10.out)
  have K2_ : Hid (Bk X1 (w.heap.size + 1 + 1) 68 #[.slice (some ⟨W.heap.size, 0, none⟩) o.f0.length o.f0.length, Value.slice none 0 0, Value.slice none 0 0]) := Lib.hid (by rw [hX]; have := K20.out.set 0 (.slice (some ⟨W.heap.size, 0, none⟩) o.f0.length o.f0.length); simpa using this)
  have HR_ := Lib.hid (HR0.out.keepV fun b o' hb => World.cell?_of_block (a := ⟨b, o', none⟩) (nX b (by omega)))
  have own0' := Lib.hid (own0.out.keep (Nat.le_refl _) (Nat.le_refl _) fun q h1 h2 => nX q (by omega))
  clear own0
  have own0 := own0'
  clear own0'
  have Bx0 := Lib.hid (BW_.out.trans (Bl0.out.mono (by omega)) |>.trans bX)
  have sXl := Nat.le_of_eq sX
  have sXr := Nat.le_of_eq sX.symm
  clear x0 y0 v0 K00 K10 K20 HR0 hX sX nX bX
  refine (toInt_any h.A1 o.f1 h.c1 X1 B HR_.out.r1 (by omega) l1).mono ?_
  rintro e w2 ⟨rfl, cp1⟩
  have own1 := Lib.hid (cp1.done)
  have lt1 := cp1.lt
  have Bl1 := Lib.hid cp1.1
  clear cp1
  have K01 := Lib.hid (K0_.out.below Bl1.out K0_.out.lt)
  have K11 := Lib.hid (K1_.out.below Bl1.out K1_.out.lt)
  have K21 := Lib.hid (K2_.out.below Bl1.out K2_.out.lt)
  have HR1 := Lib.hid (HR_.out.below Bl1.out (by omega))
  clear K0_ K1_ K2_ HR_
  have own0' := Lib.hid (own0.out.below Bl1.out (by omega))
  clear own0
  have own0 := own0'
  clear own0'
  have y1 := K21.out.free 1
  have x1 : w2.cell? ⟨w.heap.size + 1 + 1, 1, none⟩ = some (.slice none 0 0) := K21.out.cell 1
  have v1 : w2.cell? ⟨w.heap.size, 2, none⟩ = some (.slice h.A2 o.f2.length h.c2) := K01.out.cell 2
  go_wp2_with fail
  obtain ⟨X2, hX⟩ : ∃ V, V = w2.setCell ⟨w.heap.size + 1 + 1, 1, none⟩ (.slice (some ⟨X1.heap.size, 0, none⟩) o.f1.length o.f1.length) := ⟨_, rfl⟩
  rw [← hX]
  have bX : Below w.heap.size w2 X2 := by rw [hX]; exact (Below.refl _ _).setCell (by show _ ≤ w.heap.size + 1 + 1; omega) _
  have sX : X2.heap.size = w2.heap.size := by rw [hX]; simp
  have nX : ∀ q, q ≠ w.heap.size + 1 + 1 → X2.heap[q]? = w2.heap[q]? := fun q hq => by rw [hX]; exact Below.heap_setCell _ _ _ q hq
  have K0_ := Lib.hid (show Bk X2 w.heap.size _ _ from (nX _ (by omega)).trans K01.out)
  have K1_ := Lib.hid (show Bk X2 (w.heap.size + 1) _ _ from (nX _ (by omega)).trans K11.out)
  have K2_ : Hid (Bk X2 (w.heap.size + 1 + 1) 68 #[.slice (some ⟨W.heap.size, 0, none⟩) o.f0.length o.f0.length, .slice (some ⟨X1.heap.size, 0, none⟩) o.f1.length o.f1.length, Value.slice none 0 0]) := Lib.hid (by rw [hX]; have := K21.out.set 1 (.slice (some ⟨X1.heap.size, 0, none⟩) o.f1.length o.f1.length); simpa using this)
  have HR_ := Lib.hid (HR1.out.keepV fun b o' hb => World.cell?_of_block (a := ⟨b, o', none⟩) (nX b (by omega)))
  have own0' := Lib.hid (own0.out.keep (Nat.le_refl _) (Nat.le_refl _) fun q h1 h2 => nX q (by omega))
  clear own0
  have own0 := own0'
  clear own0'
  have own1' := Lib.hid (own1.out.keep (Nat.le_refl _) (Nat.le_refl _) fun q h1 h2 => nX q (by omega))
  clear own1
  have own1 := own1'
  clear own1'
  have Bx1 := Lib.hid (Bx0.out.trans (Bl1.out.mono (by omega)) |>.trans bX)
  have sXl := Nat.le_of_eq sX
  have sXr := Nat.le_of_eq sX.symm
  clear x1 y1 v1 K01 K11 K21 HR1 hX sX nX bX
  refine (toBool_any h.A2 o.f2 h.c2 X2 B HR_.out.r2 (by omega) l2).mono ?_
  rintro e w3 ⟨rfl, cp2⟩
  have own2 := Lib.hid (cp2.done)
  have lt2 := cp2.lt
  have Bl2 := Lib.hid cp2.1
  clear cp2
  have K02 := Lib.hid (K0_.out.below Bl2.out K0_.out.lt)
  have K12 := Lib.hid (K1_.out.below Bl2.out K1_.out.lt)
  have K22 := Lib.hid (K2_.out.below Bl2.out K2_.out.lt)
  have HR2 := Lib.hid (HR_.out.below Bl2.out (by omega))
  clear K0_ K1_ K2_ HR_
  have own0' := Lib.hid (own0.out.below Bl2.out (by omega))
  clear own0
  have own0 := own0'
  clear own0'
  have own1' := Lib.hid (own1.out.below Bl2.out (by omega))
  clear own1
  have own1 := own1'
  clear own1'
  have y2 := K22.out.free 2
  have x2 : w3.cell? ⟨w.heap.size + 1 + 1, 2, none⟩ = some (.slice none 0 0) := K22.out.cell 2
  have Bf := Lib.hid (Bx1.out.trans (Bl2.out.mono (by omega)))
  have fr0 := K12.out.free 0
  have xr0 : w3.cell? ⟨w.heap.size + 1, 0, none⟩ = some (.slice none 0 0) := K12.out.cell 0
  have xo0 : w3.cell? ⟨w.heap.size + 1 + 1, 0, none⟩ = some (.slice (some ⟨W.heap.size, 0, none⟩) o.f0.length o.f0.length) := K22.out.cell 0
  have fr1 := K12.out.free 1
  have xr1 : w3.cell? ⟨w.heap.size + 1, 1, none⟩ = some (.slice none 0 0) := K12.out.cell 1
  have xo1 : w3.cell? ⟨w.heap.size + 1 + 1, 1, none⟩ = some (.slice (some ⟨X1.heap.size, 0, none⟩) o.f1.length o.f1.length) := K22.out.cell 1
  have fr2 := K12.out.free 2
  have xr2 : w3.cell? ⟨w.heap.size + 1, 2, none⟩ = some (.slice none 0 0) := K12.out.cell 2
  obtain ⟨F, hF⟩ : ∃ F, F = ((((w3.setCell ⟨w.heap.size + 1 + 1, 2, none⟩ (.slice (some ⟨X2.heap.size, 0, none⟩) o.f2.length o.f2.length)).setCell ⟨w.heap.size + 1, 0, none⟩ (.slice (some ⟨W.heap.size, 0, none⟩) o.f0.length o.f0.length)).setCell ⟨w.heap.size + 1, 1, none⟩ (.slice (some ⟨X1.heap.size, 0, none⟩) o.f1.length o.f1.length)).setCell ⟨w.heap.size + 1, 2, none⟩ (.slice (some ⟨X2.heap.size, 0, none⟩) o.f2.length o.f2.length)) := ⟨_, rfl⟩
  have kF : Bk F (w.heap.size + 1) 68 #[.slice (some ⟨W.heap.size, 0, none⟩) o.f0.length o.f0.length, .slice (some ⟨X1.heap.size, 0, none⟩) o.f1.length o.f1.length, .slice (some ⟨X2.heap.size, 0, none⟩) o.f2.length o.f2.length] := by
    rw [hF]; have a0 := K12.out.far (p := ⟨w.heap.size + 1 + 1, 2, none⟩) (by show w.heap.size + 1 ≠ w.heap.size + 1 + 1; omega) (.slice (some ⟨X2.heap.size, 0, none⟩) o.f2.length o.f2.length)
    have a1 := a0.set 0 (.slice (some ⟨W.heap.size, 0, none⟩) o.f0.length o.f0.length)
    have a2 := a1.set 1 (.slice (some ⟨X1.heap.size, 0, none⟩) o.f1.length o.f1.length)
    have a3 := a2.set 2 (.slice (some ⟨X2.heap.size, 0, none⟩) o.f2.length o.f2.length)
    simpa using a3
  have bF : Below w.heap.size w3 F := by rw [hF]; exact (((((Below.refl _ _).setCell (by show _ ≤ w.heap.size + 1 + 1; omega) _).setCell (by show _ ≤ w.heap.size + 1; omega) _).setCell (by show _ ≤ w.heap.size + 1; omega) _).setCell (by show _ ≤ w.heap.size + 1; omega) _)
  have nF : ∀ q, w.heap.size + 1 + 1 < q → F.heap[q]? = w3.heap[q]? := fun q hq => by rw [hF]; exact (Below.heap_setCell _ _ _ q (by show q ≠ w.heap.size + 1; omega)).trans ((Below.heap_setCell _ _ _ q (by show q ≠ w.heap.size + 1; omega)).trans ((Below.heap_setCell _ _ _ q (by show q ≠ w.heap.size + 1; omega)).trans (Below.heap_setCell _ _ _ q (by show q ≠ w.heap.size + 1 + 1; omega))))
  have sF : w3.heap.size ≤ F.heap.size := by rw [hF]; simp
  have cF0 := kF.cell 0
  have cF1 := kF.cell 1
  have cF2 := kF.cell 2
  simp only [List.getElem?_toArray, List.getElem?_cons_zero, List.getElem?_cons_succ] at cF0 cF1 cF2
  have HF := Lib.hid hF
  clear hF kF
  have CF0 := Lib.hid cF0
  clear cF0
  have CF1 := Lib.hid cF1
  clear cF1
  have CF2 := Lib.hid cF2
  clear cF2
  have NF := Lib.hid nF
  have BF := Lib.hid bF
  clear nF bF
  go_wp2
  rw [← HF.out]
  have cF0 := CF0.out
  have cF1 := CF1.out
  have cF2 := CF2.out
  refine bodyPost_ret (v := .agg #[.slice (some ⟨W.heap.size, 0, none⟩) o.f0.length o.f0.length, .slice (some ⟨X1.heap.size, 0, none⟩) o.f1.length o.f1.length, .slice (some ⟨X2.heap.size, 0, none⟩) o.f2.length o.f2.length]) (by simp [results, Try.results52, cF0, cF1, cF2, go_sem]) rfl ?_
  refine ⟨⟨some ⟨W.heap.size, 0, none⟩, some ⟨X1.heap.size, 0, none⟩, some ⟨X2.heap.size, 0, none⟩, o.f0.length, o.f1.length, o.f2.length⟩, rfl, Bf.out.trans BF.out, by omega, own0.out.keep (by omega) (by omega) fun q h1 h2 => NF.out q (by omega), own1.out.keep (by omega) (by omega) fun q h1 h2 => NF.out q (by omega), own2.out.keep (by omega) (by omega) fun q h1 h2 => NF.out q (by omega), fun _ _ e => by injection e with e; injection e with e; omega, fun _ _ e => by injection e with e; injection e with e; omega, fun _ _ e => by injection e with e; injection e with e; omega⟩
/-- An answer of a record and a truth: the record is the call's own. -/
def AnsOc (w : World) (o : Oc) (r : Bool) (e : Ending) (w' : World) : Prop := ∃ h, e = .returned (.tuple #[OcV h o, .bool r]) ∧ Below w.heap.size w w' ∧ w.heap.size ≤ w'.heap.size ∧ OcO w' w.heap.size w'.heap.size h o
def AnsIOc (w : World) (o : Oc) (r : Bool) (e : Ending) (w' : World) : Prop := ∃ h, e = .returned (.tuple #[OcV h o, .bool r]) ∧ Below w.heap.size w w' ∧ w.heap.size ≤ w'.heap.size ∧ OcI w' w.heap.size w'.heap.size h o
theorem AnsOc.in_ {w w' : World} {o : Oc} {r : Bool} {e : Ending} (h : AnsOc w o r e w') : AnsIOc w o r e w' := by
  obtain ⟨k, h1, h2, h3, h4⟩ := h
  exact ⟨k, h1, h2, h3, h4.in_⟩
theorem eqOc_any (h1 h2 : OcH) (o1 o2 : Oc) (w : World) (B : Nat) (r1 : OcR w B h1 o1) (r2 : OcR w B h2 o2) (hB : B ≤ w.heap.size) (L1 : OcL o1 maxLen) (L2 : OcL o2 maxLen) (r : Bool) (hr : Hid (decide (o1 = o2) = r)) :
    Calls Try.prog 47 #[OcV h1 o1, OcV h2 o2] w fun e w' => e = .returned (.bool r) ∧ Below w.heap.size w w' := by
  obtain ⟨l0, l1, l2⟩ := L1
  obtain ⟨m0, m1, m2⟩ := L2
  obtain ⟨W, hW⟩ : ∃ W, W = (w.alloc (.cells #[.slice h1.A0 o1.f0.length h1.c0, .slice h1.A1 o1.f1.length h1.c1, .slice h1.A2 o1.f2.length h1.c2] 68)).alloc (.cells #[.slice h2.A0 o2.f0.length h2.c0, .slice h2.A1 o2.f1.length h2.c1, .slice h2.A2 o2.f2.length h2.c2] 68) := ⟨_, rfl⟩
  have bW : Below w.heap.size w W := by rw [hW]; go_grown
  have k0 : Bk W w.heap.size 68 #[.slice h1.A0 o1.f0.length h1.c0, .slice h1.A1 o1.f1.length h1.c1, .slice h1.A2 o1.f2.length h1.c2] := by rw [hW]; exact (Bk.new w _ _).alloc _
  have k1 : Bk W (w.heap.size + 1) 68 #[.slice h2.A0 o2.f0.length h2.c0, .slice h2.A1 o2.f1.length h2.c1, .slice h2.A2 o2.f2.length h2.c2] := by
    rw [hW]; have := Bk.new (w.alloc (.cells #[.slice h1.A0 o1.f0.length h1.c0, .slice h1.A1 o1.f1.length h1.c1, .slice h1.A2 o1.f2.length h1.c2] 68)) #[.slice h2.A0 o2.f0.length h2.c0, .slice h2.A1 o2.f1.length h2.c1, .slice h2.A2 o2.f2.length h2.c2] 68
    rwa [World.size_alloc] at this
  have P0 := Lib.hid (r1.below bW hB)
  have Q0 := Lib.hid (r2.below bW hB)
  have K00 := Lib.hid k0
  have K10 := Lib.hid k1
  have B0 := Lib.hid bW
  have z0 := bW.size
  have HW := Lib.hid hW
  clear hW bW k0 k1 r1 r2
  by_cases q0 : o1.f0 = o2.f0
  rotate_left
  · have Y0 := Lib.hid q0
    have hfin : Hid (r = false) := Lib.hid (by rw [← hr.out]; exact decide_eq_false (fun e => Y0.out (by rw [e])))
    clear hr q0
    go_enter Try.func47, Try.ntmps47
    go_wp2_with fail
    rw [← HW.out]
    refine (eqInt_any h1.A0 h2.A0 o1.f0 o2.f0 h1.c0 h2.c0 W B P0.out.r0 Q0.out.r0 l0 m0 false (Lib.hid (by simpa using Y0.out))).mono ?_
    rintro e u1 ⟨rfl, hb⟩
    have B1 := Lib.hid (below_on B0.out hb)
    clear hb
    go_wp2
    go_ret
    exact ⟨by rw [hfin.out]; rfl, B1.out⟩
  have Y0 := Lib.hid q0
  clear q0
  by_cases q1 : o1.f1 = o2.f1
  rotate_left
  · have Y1 := Lib.hid q1
    have hfin : Hid (r = false) := Lib.hid (by rw [← hr.out]; exact decide_eq_false (fun e => Y1.out (by rw [e])))
    clear hr q1
    go_enter Try.func47, Try.ntmps47
    go_wp2_with fail
    rw [← HW.out]
    refine (eqInt_any h1.A0 h2.A0 o1.f0 o2.f0 h1.c0 h2.c0 W B P0.out.r0 Q0.out.r0 l0 m0 true (Lib.hid (by simpa using Y0.out))).mono ?_
    rintro e u1 ⟨rfl, hb⟩
    have B1 := Lib.hid (below_on B0.out hb)
    have P1 := Lib.hid (P0.out.below hb (by omega))
    have Q1 := Lib.hid (Q0.out.below hb (by omega))
    have K01 := Lib.hid (K00.out.below hb K00.out.lt)
    have K11 := Lib.hid (K10.out.below hb K10.out.lt)
    have z1 := hb.size
    have ca : u1.cell? ⟨w.heap.size, 1, none⟩ = some (.slice h1.A1 o1.f1.length h1.c1) := K01.out.cell 1
    have cb : u1.cell? ⟨w.heap.size + 1, 1, none⟩ = some (.slice h2.A1 o2.f1.length h2.c1) := K11.out.cell 1
    clear hb
    go_wp2_with fail
    refine (eqInt_any h1.A1 h2.A1 o1.f1 o2.f1 h1.c1 h2.c1 u1 B P1.out.r1 Q1.out.r1 l1 m1 false (Lib.hid (by simpa using Y1.out))).mono ?_
    rintro e u2 ⟨rfl, hb⟩
    have B2 := Lib.hid (below_on B1.out hb)
    clear hb
    go_wp2
    go_ret
    exact ⟨by rw [hfin.out]; rfl, B2.out⟩
  have Y1 := Lib.hid q1
  clear q1
  by_cases q2 : o1.f2 = o2.f2
  rotate_left
  · have Y2 := Lib.hid q2
    have hfin : Hid (r = false) := Lib.hid (by rw [← hr.out]; exact decide_eq_false (fun e => Y2.out (by rw [e])))
    clear hr q2
    go_enter Try.func47, Try.ntmps47
    go_wp2_with fail
    rw [← HW.out]
    refine (eqInt_any h1.A0 h2.A0 o1.f0 o2.f0 h1.c0 h2.c0 W B P0.out.r0 Q0.out.r0 l0 m0 true (Lib.hid (by simpa using Y0.out))).mono ?_
    rintro e u1 ⟨rfl, hb⟩
    have B1 := Lib.hid (below_on B0.out hb)
    have P1 := Lib.hid (P0.out.below hb (by omega))
    have Q1 := Lib.hid (Q0.out.below hb (by omega))
    have K01 := Lib.hid (K00.out.below hb K00.out.lt)
    have K11 := Lib.hid (K10.out.below hb K10.out.lt)
    have z1 := hb.size
    have ca : u1.cell? ⟨w.heap.size, 1, none⟩ = some (.slice h1.A1 o1.f1.length h1.c1) := K01.out.cell 1
    have cb : u1.cell? ⟨w.heap.size + 1, 1, none⟩ = some (.slice h2.A1 o2.f1.length h2.c1) := K11.out.cell 1
    clear hb
    go_wp2_with fail
    refine (eqInt_any h1.A1 h2.A1 o1.f1 o2.f1 h1.c1 h2.c1 u1 B P1.out.r1 Q1.out.r1 l1 m1 true (Lib.hid (by simpa using Y1.out))).mono ?_
    rintro e u2 ⟨rfl, hb⟩
    have B2 := Lib.hid (below_on B1.out hb)
    have P2 := Lib.hid (P1.out.below hb (by omega))
    have Q2 := Lib.hid (Q1.out.below hb (by omega))
    have K02 := Lib.hid (K01.out.below hb K01.out.lt)
    have K12 := Lib.hid (K11.out.below hb K11.out.lt)
    have z2 := hb.size
    have ca : u2.cell? ⟨w.heap.size, 2, none⟩ = some (.slice h1.A2 o1.f2.length h1.c2) := K02.out.cell 2
    have cb : u2.cell? ⟨w.heap.size + 1, 2, none⟩ = some (.slice h2.A2 o2.f2.length h2.c2) := K12.out.cell 2
    clear hb
    go_wp2_with fail
    refine (eqBool_any h1.A2 h2.A2 o1.f2 o2.f2 h1.c2 h2.c2 u2 B P2.out.r2 Q2.out.r2 l2 m2 false (Lib.hid (by simpa using Y2.out))).mono ?_
    rintro e u3 ⟨rfl, hb⟩
    have B3 := Lib.hid (below_on B2.out hb)
    clear hb
    go_wp2
    go_ret
    exact ⟨by rw [hfin.out]; rfl, B3.out⟩
  have Y2 := Lib.hid q2
  clear q2
  have hfin : Hid (r = true) := Lib.hid (by
    rw [← hr.out]; apply decide_eq_true; cases o1; cases o2; simp only [Oc.mk.injEq]; exact ⟨Y0.out, Y1.out, Y2.out⟩)
  clear hr
  go_enter Try.func47, Try.ntmps47
  go_wp2_with fail
  rw [← HW.out]
  refine (eqInt_any h1.A0 h2.A0 o1.f0 o2.f0 h1.c0 h2.c0 W B P0.out.r0 Q0.out.r0 l0 m0 true (Lib.hid (by simpa using Y0.out))).mono ?_
  rintro e u1 ⟨rfl, hb⟩
  have B1 := Lib.hid (below_on B0.out hb)
  have P1 := Lib.hid (P0.out.below hb (by omega))
  have Q1 := Lib.hid (Q0.out.below hb (by omega))
  have K01 := Lib.hid (K00.out.below hb K00.out.lt)
  have K11 := Lib.hid (K10.out.below hb K10.out.lt)
  have z1 := hb.size
  have ca : u1.cell? ⟨w.heap.size, 1, none⟩ = some (.slice h1.A1 o1.f1.length h1.c1) := K01.out.cell 1
  have cb : u1.cell? ⟨w.heap.size + 1, 1, none⟩ = some (.slice h2.A1 o2.f1.length h2.c1) := K11.out.cell 1
  clear hb
  go_wp2_with fail
  refine (eqInt_any h1.A1 h2.A1 o1.f1 o2.f1 h1.c1 h2.c1 u1 B P1.out.r1 Q1.out.r1 l1 m1 true (Lib.hid (by simpa using Y1.out))).mono ?_
  rintro e u2 ⟨rfl, hb⟩
  have B2 := Lib.hid (below_on B1.out hb)
  have P2 := Lib.hid (P1.out.below hb (by omega))
  have Q2 := Lib.hid (Q1.out.below hb (by omega))
  have K02 := Lib.hid (K01.out.below hb K01.out.lt)
  have K12 := Lib.hid (K11.out.below hb K11.out.lt)
  have z2 := hb.size
  have ca : u2.cell? ⟨w.heap.size, 2, none⟩ = some (.slice h1.A2 o1.f2.length h1.c2) := K02.out.cell 2
  have cb : u2.cell? ⟨w.heap.size + 1, 2, none⟩ = some (.slice h2.A2 o2.f2.length h2.c2) := K12.out.cell 2
  clear hb
  go_wp2_with fail
  refine (eqBool_any h1.A2 h2.A2 o1.f2 o2.f2 h1.c2 h2.c2 u2 B P2.out.r2 Q2.out.r2 l2 m2 true (Lib.hid (by simpa using Y2.out))).mono ?_
  rintro e u3 ⟨rfl, hb⟩
  have B3 := Lib.hid (below_on B2.out hb)
  clear hb
  go_wp2
  go_ret
  exact ⟨by rw [hfin.out]; rfl, B3.out⟩
/-- A record that marks have been written over. -/
def upOc (K : Int) (o : Oc) : Oc := ⟨upI (K) o.f0.length, upI (K + (o.f0.length : Int)) o.f1.length, upB (K + (o.f0.length : Int) + (o.f1.length : Int)) o.f2.length⟩
def allOc (o : Oc) : Int := (o.f0.length : Int) + (o.f1.length : Int) + (o.f2.length : Int)
theorem markOc_any (h : OcH) (o : Oc) (K : Int) (w : World) (lo hi : Nat) (hO : OcO w lo hi h o) (hhi : hi ≤ w.heap.size) (hL : OcL o 1048576) (hK : 0 ≤ K) (hK2 : K ≤ 100000000) :
    Calls Try.prog 48 #[OcV h o, .int .i64 K] w fun e w' => e = .returned (.int .i64 (K + allOc o)) ∧ Only lo hi w w' ∧ OcO w' lo hi h (upOc K o) := by
  obtain ⟨l0, l1, l2⟩ := hL
  have D := Lib.hid hO
  obtain ⟨W, hW⟩ : ∃ W, W = w.alloc (.cells #[.slice h.A0 o.f0.length h.c0, .slice h.A1 o.f1.length h.c1, .slice h.A2 o.f2.length h.c2] 68) := ⟨_, rfl⟩
  have bW : Below w.heap.size w W := by rw [hW]; go_grown
  have k0 : Bk W w.heap.size 68 #[.slice h.A0 o.f0.length h.c0, .slice h.A1 o.f1.length h.c1, .slice h.A2 o.f2.length h.c2] := by rw [hW]; exact Bk.new w _ _
  have zW := bW.size
  have J0 := Lib.hid (hO.o0.below bW hhi)
  have J1 := Lib.hid (hO.o1.below bW hhi)
  have J2 := Lib.hid (hO.o2.below bW hhi)
  have On0 := Lib.hid (Only.of_below (lo := lo) (hi := hi) bW)
  have K00 := Lib.hid k0
  have HW := Lib.hid hW
  clear hW bW k0 hO
  go_enter Try.func48, Try.ntmps48
  go_wp2_with fail
  rw [← HW.out]
  refine (markInt_own h.A0 o.f0 h.c0 (K) W lo hi J0.out l0 (by omega) (by omega)).mono ?_
  rintro e u1 ⟨rfl, on, own, same⟩
  have On1 := Lib.hid (On0.out.trans on)
  have z1 := on.size
  have K01 := Lib.hid (only_bk K00.out on (by omega))
  have J0' := Lib.hid own
  clear J0
  have J0 := J0'
  clear J0'
  have J1' := Lib.hid (J1.out.same (by omega) same fun a b => D.out.d01 b (by simpa using a))
  clear J1
  have J1 := J1'
  clear J1'
  have J2' := Lib.hid (J2.out.same (by omega) same fun a b => D.out.d02 b (by simpa using a))
  clear J2
  have J2 := J2'
  clear J2'
  clear on own same
  have c1 : u1.cell? ⟨w.heap.size, 1, none⟩ = some (.slice h.A1 o.f1.length h.c1) := K01.out.cell 1
  go_wp2_with fail
  clear c1
  refine (markInt_own h.A1 o.f1 h.c1 (K + (o.f0.length : Int)) u1 lo hi J1.out l1 (by omega) (by omega)).mono ?_
  rintro e u2 ⟨rfl, on, own, same⟩
  have On2 := Lib.hid (On1.out.trans on)
  have z2 := on.size
  have K02 := Lib.hid (only_bk K01.out on (by omega))
  have J0' := Lib.hid (J0.out.same (by omega) same fun a b => (D.out.d01 (by simpa using a) b).symm)
  clear J0
  have J0 := J0'
  clear J0'
  have J1' := Lib.hid own
  clear J1
  have J1 := J1'
  clear J1'
  have J2' := Lib.hid (J2.out.same (by omega) same fun a b => D.out.d12 b (by simpa using a))
  clear J2
  have J2 := J2'
  clear J2'
  clear on own same
  have c2 : u2.cell? ⟨w.heap.size, 2, none⟩ = some (.slice h.A2 o.f2.length h.c2) := K02.out.cell 2
  go_wp2_with fail
  clear c2
  refine (markBool_own h.A2 o.f2 h.c2 (K + (o.f0.length : Int) + (o.f1.length : Int)) u2 lo hi J2.out l2 (by omega) (by omega)).mono ?_
  rintro e u3 ⟨rfl, on, own, same⟩
  have On3 := Lib.hid (On2.out.trans on)
  have z3 := on.size
  have K03 := Lib.hid (only_bk K02.out on (by omega))
  have J0' := Lib.hid (J0.out.same (by omega) same fun a b => (D.out.d02 (by simpa using a) b).symm)
  clear J0
  have J0 := J0'
  clear J0'
  have J1' := Lib.hid (J1.out.same (by omega) same fun a b => (D.out.d12 (by simpa using a) b).symm)
  clear J1
  have J1 := J1'
  clear J1'
  have J2' := Lib.hid own
  clear J2
  have J2 := J2'
  clear J2'
  clear on own same
  go_wp2
  go_ret
  exact ⟨by rw [allOc, show K + ((o.f0.length : Int) + (o.f1.length : Int) + (o.f2.length : Int)) = K + (o.f0.length : Int) + (o.f1.length : Int) + (o.f2.length : Int) by omega]; rfl, On3.out, J0.out, J1.out, J2.out, fun a b => D.out.d01 (by simpa [upOc] using a) (by simpa [upOc] using b), fun a b => D.out.d02 (by simpa [upOc] using a) (by simpa [upOc] using b), fun a b => D.out.d12 (by simpa [upOc] using a) (by simpa [upOc] using b)⟩
theorem heldOc_any (h : OcH) (o : Oc) (K : Int) (w : World) (B : Nat) (hR : OcR w B h (upOc K o)) (hB : B ≤ w.heap.size) (hL : OcL o 1048576) (hK : 0 ≤ K) (hK2 : K ≤ 100000000) :
    Calls Try.prog 49 #[OcV h o, .int .i64 K] w fun e w' => e = .returned (.int .i64 (K + allOc o)) ∧ Below w.heap.size w w' := by
  obtain ⟨l0, l1, l2⟩ := hL
  obtain ⟨W, hW⟩ : ∃ W, W = w.alloc (.cells #[.slice h.A0 o.f0.length h.c0, .slice h.A1 o.f1.length h.c1, .slice h.A2 o.f2.length h.c2] 68) := ⟨_, rfl⟩
  have bW : Below w.heap.size w W := by rw [hW]; go_grown
  have k0 : Bk W w.heap.size 68 #[.slice h.A0 o.f0.length h.c0, .slice h.A1 o.f1.length h.c1, .slice h.A2 o.f2.length h.c2] := by rw [hW]; exact Bk.new w _ _
  have J := Lib.hid (hR.below bW hB)
  have BW := Lib.hid bW
  have c1 : W.cell? ⟨w.heap.size, 1, none⟩ = some (.slice h.A1 o.f1.length h.c1) := k0.cell 1
  have c2 : W.cell? ⟨w.heap.size, 2, none⟩ = some (.slice h.A2 o.f2.length h.c2) := k0.cell 2
  have HW := Lib.hid hW
  clear hW bW k0 hR
  go_enter Try.func49, Try.ntmps49
  go_wp2_with fail
  rw [← HW.out]
  refine (heldInt_any h.A0 o.f0.length h.c0 (K) W B J.out.r0 l0 (by omega) (by omega)).mono ?_
  rintro e w' ⟨rfl, rfl⟩
  go_wp2_with fail
  refine (heldInt_any h.A1 o.f1.length h.c1 (K + (o.f0.length : Int)) W B J.out.r1 l1 (by omega) (by omega)).mono ?_
  rintro e w' ⟨rfl, rfl⟩
  go_wp2_with fail
  refine (heldBool_any h.A2 o.f2.length h.c2 (K + (o.f0.length : Int) + (o.f1.length : Int)) W B J.out.r2 l2 (by omega) (by omega)).mono ?_
  rintro e w' ⟨rfl, rfl⟩
  go_wp2
  go_ret
  exact ⟨by rw [allOc, show K + ((o.f0.length : Int) + (o.f1.length : Int) + (o.f2.length : Int)) = K + (o.f0.length : Int) + (o.f1.length : Int) + (o.f2.length : Int) by omega]; rfl, BW.out⟩

end Go.Proofs.Yteinbbhhjalbeaa
