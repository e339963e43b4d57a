/-
  States as records of lists: how they lie in memory, and contracts of the laws' functions over them: sizes, copies, equality, marks, held marks.
-/
import Derived.Test.YtaghidaamcnpkabVec
import Derived.Test.YtaghidaamcnpkabRec0
namespace Go.Proofs.Ytaghidaamcnpkab
open Go.RowKit Pl
set_option maxHeartbeats 1000000
set_option maxRecDepth 100000
set_option linter.unusedVariables false

structure Sta where
  f0 : List Int
  f1 : List Int
  f2 : List Int
  f3 : List Int
  f4 : List Int
deriving DecidableEq, Inhabited
/-- Where a record's lists lie, and their room. -/
structure StaH where
  A0 : Option Addr
  A1 : Option Addr
  A2 : Option Addr
  A3 : Option Addr
  A4 : Option Addr
  c0 : Nat
  c1 : Nat
  c2 : Nat
  c3 : Nat
  c4 : Nat
deriving Inhabited
abbrev StaV (h : StaH) (o : Sta) : Value := .agg #[.slice h.A0 o.f0.length h.c0, .slice h.A1 o.f1.length h.c1, .slice h.A2 o.f2.length h.c2, .slice h.A3 o.f3.length h.c3, .slice h.A4 o.f4.length h.c4]
def StaN : StaH := ⟨none, none, none, none, none, 0, 0, 0, 0, 0⟩
def StaE : Sta := ⟨[], [], [], [], []⟩
structure StaR (w : World) (B : Nat) (h : StaH) (o : Sta) : Prop where
  r0 : Vs w B h.A0 (ints o.f0)
  r1 : Vs w B h.A1 (ints o.f1)
  r2 : Vs w B h.A2 (ints o.f2)
  r3 : Vs w B h.A3 (ints o.f3)
  r4 : Vs w B h.A4 (ints o.f4)
structure StaL (o : Sta) (m : Nat) : Prop where
  l0 : o.f0.length ≤ m
  l1 : o.f1.length ≤ m
  l2 : o.f2.length ≤ m
  l3 : o.f3.length ≤ m
  l4 : o.f4.length ≤ m
structure StaI (w : World) (lo hi : Nat) (h : StaH) (o : Sta) : Prop where
  i0 : InVs w lo hi h.A0 (ints o.f0)
  i1 : InVs w lo hi h.A1 (ints o.f1)
  i2 : InVs w lo hi h.A2 (ints o.f2)
  i3 : InVs w lo hi h.A3 (ints o.f3)
  i4 : InVs w lo hi h.A4 (ints o.f4)
/-- A record of the call's own: its lists lie in blocks that no two of them share. -/
structure StaO (w : World) (lo hi : Nat) (h : StaH) (o : Sta) : Prop where
  o0 : OwnVs w lo hi 3 h.A0 (ints o.f0)
  o1 : OwnVs w lo hi 3 h.A1 (ints o.f1)
  o2 : OwnVs w lo hi 3 h.A2 (ints o.f2)
  o3 : OwnVs w lo hi 3 h.A3 (ints o.f3)
  o4 : OwnVs w lo hi 3 h.A4 (ints o.f4)
  d01 : 0 < o.f0.length → 0 < o.f1.length → h.A0 ≠ h.A1
  d02 : 0 < o.f0.length → 0 < o.f2.length → h.A0 ≠ h.A2
  d03 : 0 < o.f0.length → 0 < o.f3.length → h.A0 ≠ h.A3
  d04 : 0 < o.f0.length → 0 < o.f4.length → h.A0 ≠ h.A4
  d12 : 0 < o.f1.length → 0 < o.f2.length → h.A1 ≠ h.A2
  d13 : 0 < o.f1.length → 0 < o.f3.length → h.A1 ≠ h.A3
  d14 : 0 < o.f1.length → 0 < o.f4.length → h.A1 ≠ h.A4
  d23 : 0 < o.f2.length → 0 < o.f3.length → h.A2 ≠ h.A3
  d24 : 0 < o.f2.length → 0 < o.f4.length → h.A2 ≠ h.A4
  d34 : 0 < o.f3.length → 0 < o.f4.length → h.A3 ≠ h.A4
section
variable {w w' : World} {B B' B'' lo hi lo' hi' : Nat} {h : StaH} {o : Sta}
theorem StaR.below (r : StaR w B h o) (hb : Below B' w w') (hB : B ≤ B') : StaR w' B h o := ⟨r.r0.below hb hB, r.r1.below hb hB, r.r2.below hb hB, r.r3.below hb hB, r.r4.below hb hB⟩
theorem StaR.up (r : StaR w B h o) (hb : Below B' w w') (hB : B ≤ B') (hB2 : B ≤ B'') : StaR w' B'' h o := ⟨r.r0.up hb hB hB2, r.r1.up hb hB hB2, r.r2.up hb hB hB2, r.r3.up hb hB hB2, r.r4.up hb hB hB2⟩
theorem StaR.keepV (r : StaR w B h o) (hk : ∀ b o, b < B → w'.cell? ⟨b, o, none⟩ = w.cell? ⟨b, o, none⟩) : StaR w' B h o := ⟨r.r0.keepV hk, r.r1.keepV hk, r.r2.keepV hk, r.r3.keepV hk, r.r4.keepV hk⟩
theorem StaI.keep (r : StaI w lo hi h o) (hl : lo' ≤ lo) (hh : hi ≤ hi') (hk : ∀ i, lo ≤ i → i < hi → w'.heap[i]? = w.heap[i]?) : StaI w' lo' hi' h o := ⟨r.i0.keep hl hh hk, r.i1.keep hl hh hk, r.i2.keep hl hh hk, r.i3.keep hl hh hk, r.i4.keep hl hh hk⟩
theorem StaI.below (r : StaI w lo hi h o) (hb : Below B w w') (hB : hi ≤ B) : StaI w' lo hi h o := ⟨r.i0.below hb hB, r.i1.below hb hB, r.i2.below hb hB, r.i3.below hb hB, r.i4.below hb hB⟩
theorem StaI.rd (r : StaI w lo hi h o) : StaR w hi h o := ⟨r.i0.vs, r.i1.vs, r.i2.vs, r.i3.vs, r.i4.vs⟩
theorem StaO.keep (r : StaO w lo hi h o) (hl : lo' ≤ lo) (hh : hi ≤ hi') (hk : ∀ i, lo ≤ i → i < hi → w'.heap[i]? = w.heap[i]?) : StaO w' lo' hi' h o := ⟨r.o0.keep hl hh hk, r.o1.keep hl hh hk, r.o2.keep hl hh hk, r.o3.keep hl hh hk, r.o4.keep hl hh hk, r.d01, r.d02, r.d03, r.d04, r.d12, r.d13, r.d14, r.d23, r.d24, r.d34⟩
theorem StaO.below (r : StaO w lo hi h o) (hb : Below B w w') (hB : hi ≤ B) : StaO w' lo hi h o := ⟨r.o0.below hb hB, r.o1.below hb hB, r.o2.below hb hB, r.o3.below hb hB, r.o4.below hb hB, r.d01, r.d02, r.d03, r.d04, r.d12, r.d13, r.d14, r.d23, r.d24, r.d34⟩
theorem StaO.in_ (r : StaO w lo hi h o) : StaI w lo hi h o := ⟨r.o0.in_, r.o1.in_, r.o2.in_, r.o3.in_, r.o4.in_⟩
theorem StaO.rd (r : StaO w lo hi h o) : StaR w hi h o := r.in_.rd
theorem StaO.none_ (w : World) (lo hi : Nat) (h : StaH) : StaO w lo hi h StaE := ⟨OwnVs.nil _ _ _ _ _, OwnVs.nil _ _ _ _ _, OwnVs.nil _ _ _ _ _, OwnVs.nil _ _ _ _ _, OwnVs.nil _ _ _ _ _, by intro a; simp [StaE] at a, by intro a; simp [StaE] at a, by intro a; simp [StaE] at a, by intro a; simp [StaE] at a, by intro a; simp [StaE] at a, by intro a; simp [StaE] at a, by intro a; simp [StaE] at a, by intro a; simp [StaE] at a, by intro a; simp [StaE] at a, by intro a; simp [StaE] at a⟩
theorem StaI.none_ (w : World) (lo hi : Nat) (h : StaH) : StaI w lo hi h StaE := (StaO.none_ w lo hi h).in_
theorem StaL.le {m k : Nat} (l : StaL o m) (hm : m ≤ k) : StaL o k := ⟨Nat.le_trans l.l0 hm, Nat.le_trans l.l1 hm, Nat.le_trans l.l2 hm, Nat.le_trans l.l3 hm, Nat.le_trans l.l4 hm⟩
end
/-- what the size function comes to -/
def szSta (a : Int) (o : Sta) : Int := szN a [o.f0.length, o.f1.length, o.f2.length, o.f3.length, o.f4.length]
theorem szSta_ge (a : Int) (o : Sta) (ha : 0 ≤ a) : -1 ≤ szSta a o ∧ szSta a o ≤ a := szN_ge _ _ ha
theorem szSta_len {a : Int} {o : Sta} (h : 0 ≤ szSta a o) (ha : 0 ≤ a) : (o.f0.length : Int) + (o.f1.length : Int) + (o.f2.length : Int) + (o.f3.length : Int) + (o.f4.length : Int) ≤ a := by
  have := szN_len _ _ h ha
  simp at this
  omega
theorem szSta_small {a : Int} {o : Sta} (h : 0 ≤ szSta a o) (ha : 0 ≤ a) (ha2 : a ≤ 1048576) : StaL o 1048576 := by
  have := szSta_len h ha
  exact ⟨by omega, by omega, by omega, by omega, by omega⟩
abbrev StaS (o : Sta) : Prop := StaL o 1048576
theorem StaS_L {o : Sta} (s : StaS o) : StaL o maxLen := StaL.le s (by unfold maxLen; omega)
theorem szSta_any (h : StaH) (o : Sta) (left : Int) (w : World) (B : Nat) (hR : StaR w B h o) (hB : B ≤ w.heap.size) (hL : StaL o maxLen) (h0 : 0 ≤ left) (h1 : left ≤ 1048576) (r : Int) (hr : Hid (szSta left o = r)) :
    Calls Try.prog 42 #[StaV h o, .int .i64 left] w fun e w' => e = .returned (.int .i64 r) ∧ Below w.heap.size w w' := by
  obtain ⟨l0, l1, l2, l3, l4⟩ := hL
  unfold maxLen at *
  have hr' := hr.out
  simp only [szSta, szN] at hr'
  clear hr
  obtain ⟨a0, e0⟩ : ∃ a, sz1 left o.f0.length = a := ⟨_, rfl⟩
  have u0 : a0 ≤ left ∧ -1 ≤ a0 := by rw [← e0]; unfold sz1; split <;> omega
  have E0 := Lib.hid e0
  rw [e0] at hr'
  clear e0
  by_cases n0 : a0 < 0
  · rw [if_pos n0] at hr'
    have hfin := Lib.hid hr'
    clear hr'
    go_enter Try.func42, Try.ntmps42
    go_wp2_with fail
    refine (szInt_any' _ _ _ _ _ (by unfold maxLen; omega) (by omega) (by omega) _ E0).mono ?_
    rintro e w' ⟨rfl, rfl⟩
    go_wp2
    go_ret
    exact ⟨by rw [← hfin.out]; rfl, by go_grown⟩
  rw [if_neg n0] at hr'
  obtain ⟨a1, e1⟩ : ∃ a, sz1 a0 o.f1.length = a := ⟨_, rfl⟩
  have u1 : a1 ≤ a0 ∧ -1 ≤ a1 := by rw [← e1]; unfold sz1; split <;> omega
  have E1 := Lib.hid e1
  rw [e1] at hr'
  clear e1
  by_cases n1 : a1 < 0
  · rw [if_pos n1] at hr'
    have hfin := Lib.hid hr'
    clear hr'
    go_enter Try.func42, Try.ntmps42
    go_wp2_with fail
    refine (szInt_any' _ _ _ _ _ (by unfold maxLen; omega) (by omega) (by omega) _ E0).mono ?_
    rintro e w' ⟨rfl, rfl⟩
    go_wp2_with fail
    refine (szInt_any' _ _ _ _ _ (by unfold maxLen; omega) (by omega) (by omega) _ E1).mono ?_
    rintro e w' ⟨rfl, rfl⟩
    go_wp2
    go_ret
    exact ⟨by rw [← hfin.out]; rfl, by go_grown⟩
  rw [if_neg n1] at hr'
  obtain ⟨a2, e2⟩ : ∃ a, sz1 a1 o.f2.length = a := ⟨_, rfl⟩
  have u2 : a2 ≤ a1 ∧ -1 ≤ a2 := by rw [← e2]; unfold sz1; split <;> omega
  have E2 := Lib.hid e2
  rw [e2] at hr'
  clear e2
  by_cases n2 : a2 < 0
  · rw [if_pos n2] at hr'
    have hfin := Lib.hid hr'
    clear hr'
    go_enter Try.func42, Try.ntmps42
    go_wp2_with fail
    refine (szInt_any' _ _ _ _ _ (by unfold maxLen; omega) (by omega) (by omega) _ E0).mono ?_
    rintro e w' ⟨rfl, rfl⟩
    go_wp2_with fail
    refine (szInt_any' _ _ _ _ _ (by unfold maxLen; omega) (by omega) (by omega) _ E1).mono ?_
    rintro e w' ⟨rfl, rfl⟩
    go_wp2_with fail
    refine (szInt_any' _ _ _ _ _ (by unfold maxLen; omega) (by omega) (by omega) _ E2).mono ?_
    rintro e w' ⟨rfl, rfl⟩
    go_wp2
    go_ret
    exact ⟨by rw [← hfin.out]; rfl, by go_grown⟩
  rw [if_neg n2] at hr'
  obtain ⟨a3, e3⟩ : ∃ a, sz1 a2 o.f3.length = a := ⟨_, rfl⟩
  have u3 : a3 ≤ a2 ∧ -1 ≤ a3 := by rw [← e3]; unfold sz1; split <;> omega
  have E3 := Lib.hid e3
  rw [e3] at hr'
  clear e3
  by_cases n3 : a3 < 0
  · rw [if_pos n3] at hr'
    have hfin := Lib.hid hr'
    clear hr'
    go_enter Try.func42, Try.ntmps42
    go_wp2_with fail
    refine (szInt_any' _ _ _ _ _ (by unfold maxLen; omega) (by omega) (by omega) _ E0).mono ?_
    rintro e w' ⟨rfl, rfl⟩
    go_wp2_with fail
    refine (szInt_any' _ _ _ _ _ (by unfold maxLen; omega) (by omega) (by omega) _ E1).mono ?_
    rintro e w' ⟨rfl, rfl⟩
    go_wp2_with fail
    refine (szInt_any' _ _ _ _ _ (by unfold maxLen; omega) (by omega) (by omega) _ E2).mono ?_
    rintro e w' ⟨rfl, rfl⟩
    go_wp2_with fail
    refine (szInt_any' _ _ _ _ _ (by unfold maxLen; omega) (by omega) (by omega) _ E3).mono ?_
    rintro e w' ⟨rfl, rfl⟩
    go_wp2
    go_ret
    exact ⟨by rw [← hfin.out]; rfl, by go_grown⟩
  rw [if_neg n3] at hr'
  obtain ⟨a4, e4⟩ : ∃ a, sz1 a3 o.f4.length = a := ⟨_, rfl⟩
  have u4 : a4 ≤ a3 ∧ -1 ≤ a4 := by rw [← e4]; unfold sz1; split <;> omega
  have E4 := Lib.hid e4
  rw [e4] at hr'
  clear e4
  by_cases n4 : a4 < 0
  · rw [if_pos n4] at hr'
    have hfin := Lib.hid hr'
    clear hr'
    go_enter Try.func42, Try.ntmps42
    go_wp2_with fail
    refine (szInt_any' _ _ _ _ _ (by unfold maxLen; omega) (by omega) (by omega) _ E0).mono ?_
    rintro e w' ⟨rfl, rfl⟩
    go_wp2_with fail
    refine (szInt_any' _ _ _ _ _ (by unfold maxLen; omega) (by omega) (by omega) _ E1).mono ?_
    rintro e w' ⟨rfl, rfl⟩
    go_wp2_with fail
    refine (szInt_any' _ _ _ _ _ (by unfold maxLen; omega) (by omega) (by omega) _ E2).mono ?_
    rintro e w' ⟨rfl, rfl⟩
    go_wp2_with fail
    refine (szInt_any' _ _ _ _ _ (by unfold maxLen; omega) (by omega) (by omega) _ E3).mono ?_
    rintro e w' ⟨rfl, rfl⟩
    go_wp2_with fail
    refine (szInt_any' _ _ _ _ _ (by unfold maxLen; omega) (by omega) (by omega) _ E4).mono ?_
    rintro e w' ⟨rfl, rfl⟩
    go_wp2
    go_ret
    exact ⟨by rw [← hfin.out]; rfl, by go_grown⟩
  rw [if_neg n4] at hr'
  have hfin := Lib.hid hr'
  clear hr'
  go_enter Try.func42, Try.ntmps42
  go_wp2_with fail
  refine (szInt_any' _ _ _ _ _ (by unfold maxLen; omega) (by omega) (by omega) _ E0).mono ?_
  rintro e w' ⟨rfl, rfl⟩
  go_wp2_with fail
  refine (szInt_any' _ _ _ _ _ (by unfold maxLen; omega) (by omega) (by omega) _ E1).mono ?_
  rintro e w' ⟨rfl, rfl⟩
  go_wp2_with fail
  refine (szInt_any' _ _ _ _ _ (by unfold maxLen; omega) (by omega) (by omega) _ E2).mono ?_
  rintro e w' ⟨rfl, rfl⟩
  go_wp2_with fail
  refine (szInt_any' _ _ _ _ _ (by unfold maxLen; omega) (by omega) (by omega) _ E3).mono ?_
  rintro e w' ⟨rfl, rfl⟩
  go_wp2_with fail
  refine (szInt_any' _ _ _ _ _ (by unfold maxLen; omega) (by omega) (by omega) _ E4).mono ?_
  rintro e w' ⟨rfl, rfl⟩
  go_wp2
  go_ret
  exact ⟨by rw [← hfin.out]; rfl, by go_grown⟩
/-- What a copy comes to. -/
def ToSta (w : World) (o : Sta) (e : Ending) (w' : World) : Prop := ∃ h, e = .returned (StaV h o) ∧ Below w.heap.size w w' ∧ w.heap.size < w'.heap.size ∧ StaO w' w.heap.size w'.heap.size h o
theorem toSta_any (h : StaH) (o : Sta) (w : World) (B : Nat) (hR : StaR w B h o) (hB : B ≤ w.heap.size) (hL : StaL o 1048576) :
    Calls Try.prog 49 #[StaV h o] w (ToSta w o) := by
  obtain ⟨l0, l1, l2, l3, l4⟩ := hL
  obtain ⟨W, hW⟩ : ∃ W, W = ((w.alloc (.cells #[.slice h.A0 o.f0.length h.c0, .slice h.A1 o.f1.length h.c1, .slice h.A2 o.f2.length h.c2, .slice h.A3 o.f3.length h.c3, .slice h.A4 o.f4.length h.c4] 43)).alloc (.cells #[.slice none 0 0, .slice none 0 0, .slice none 0 0, .slice none 0 0, .slice none 0 0] 50)).alloc (.cells #[.slice none 0 0, .slice none 0 0, .slice none 0 0, .slice none 0 0, .slice none 0 0] 50) := ⟨_, rfl⟩
  have bW : Below w.heap.size w W := by rw [hW]; go_grown
  have sW : W.heap.size = w.heap.size + 1 + 1 + 1 := by rw [hW]; simp
  have k0 : Bk W w.heap.size 43 #[.slice h.A0 o.f0.length h.c0, .slice h.A1 o.f1.length h.c1, .slice h.A2 o.f2.length h.c2, .slice h.A3 o.f3.length h.c3, .slice h.A4 o.f4.length h.c4] := by rw [hW]; exact ((Bk.new w _ _).alloc _).alloc _
  have k1 : Bk W (w.heap.size + 1) 50 #[.slice none 0 0, .slice none 0 0, .slice none 0 0, .slice none 0 0, .slice none 0 0] := by
    rw [hW]; have := (Bk.new (w.alloc (.cells #[.slice h.A0 o.f0.length h.c0, .slice h.A1 o.f1.length h.c1, .slice h.A2 o.f2.length h.c2, .slice h.A3 o.f3.length h.c3, .slice h.A4 o.f4.length h.c4] 43)) #[.slice none 0 0, .slice none 0 0, .slice none 0 0, .slice none 0 0, .slice none 0 0] 50).alloc (.cells #[.slice none 0 0, .slice none 0 0, .slice none 0 0, .slice none 0 0, .slice none 0 0] 50)
    rwa [World.size_alloc] at this
  have k2 : Bk W (w.heap.size + 1 + 1) 50 #[.slice none 0 0, .slice none 0 0, .slice none 0 0, .slice none 0 0, .slice none 0 0] := by
    rw [hW]; have := Bk.new ((w.alloc (.cells #[.slice h.A0 o.f0.length h.c0, .slice h.A1 o.f1.length h.c1, .slice h.A2 o.f2.length h.c2, .slice h.A3 o.f3.length h.c3, .slice h.A4 o.f4.length h.c4] 43)).alloc (.cells #[.slice none 0 0, .slice none 0 0, .slice none 0 0, .slice none 0 0, .slice none 0 0] 50)) #[.slice none 0 0, .slice none 0 0, .slice none 0 0, .slice none 0 0, .slice none 0 0] 50
    rwa [World.size_alloc, World.size_alloc] at this
  have HR_ := Lib.hid (hR.below bW hB)
  have K0_ := Lib.hid k0
  have K1_ := Lib.hid k1
  have K2_ := Lib.hid k2
  have BW_ := Lib.hid bW
  have sWl : w.heap.size + 3 ≤ W.heap.size := by omega
  have HW := Lib.hid hW
  clear hW bW sW k0 k1 k2 hR
  go_enter Try.func49, Try.ntmps49
  go_wp2_with fail
  rw [← HW.out]
  refine (toInt_any h.A0 o.f0 h.c0 W B HR_.out.r0 (by omega) l0).mono ?_
  rintro e w1 ⟨rfl, cp0⟩
  have own0 := Lib.hid (cp0.done)
  have lt0 := cp0.lt
  have Bl0 := Lib.hid cp0.1
  clear cp0
  have K00 := Lib.hid (K0_.out.below Bl0.out K0_.out.lt)
  have K10 := Lib.hid (K1_.out.below Bl0.out K1_.out.lt)
  have K20 := Lib.hid (K2_.out.below Bl0.out K2_.out.lt)
  have HR0 := Lib.hid (HR_.out.below Bl0.out (by omega))
  clear K0_ K1_ K2_ HR_
  have y0 := K20.out.free 0
  have x0 : w1.cell? ⟨w.heap.size + 1 + 1, 0, none⟩ = some (.slice none 0 0) := K20.out.cell 0
  have v0 : w1.cell? ⟨w.heap.size, 1, none⟩ = some (.slice h.A1 o.f1.length h.c1) := K00.out.cell 1
  go_wp2_with fail
  obtain ⟨X1, hX⟩ : ∃ V, V = w1.setCell ⟨w.heap.size + 1 + 1, 0, none⟩ (.slice (some ⟨W.heap.size, 0, none⟩) o.f0.length o.f0.length) := ⟨_, rfl⟩
  rw [← hX]
  have bX : Below w.heap.size w1 X1 := by rw [hX]; exact (Below.refl _ _).setCell (by show _ ≤ w.heap.size + 1 + 1; omega) _
  have sX : X1.heap.size = w1.heap.size := by rw [hX]; simp
  have nX : ∀ q, q ≠ w.heap.size + 1 + 1 → X1.heap[q]? = w1.heap[q]? := fun q hq => by rw [hX]; exact Below.heap_setCell _ _ _ q hq
  have K0_ := Lib.hid (show Bk X1 w.heap.size _ _ from (nX _ (by omega)).trans K00.out)
  have K1_ := Lib.hid (show Bk X1 (w.heap.size + 1) _ _ from (nX _ (by omega)).trans K10.out)
  have K2_ : Hid (Bk X1 (w.heap.size + 1 + 1) 50 #[.slice (some ⟨W.heap.size, 0, none⟩) o.f0.length o.f0.length, Value.slice none 0 0, Value.slice none 0 0, Value.slice none 0 0, Value.slice none 0 0]) := Lib.hid (by rw [hX]; have := K20.out.set 0 (.slice (some ⟨W.heap.size, 0, none⟩) o.f0.length o.f0.length); simpa using this)
  have HR_ := Lib.hid (HR0.out.keepV fun b o' hb => World.cell?_of_block (a := ⟨b, o', none⟩) (nX b (by omega)))
  have own0' := Lib.hid (own0.out.keep (Nat.le_refl _) (Nat.le_refl _) fun q h1 h2 => nX q (by omega))
  clear own0
  have own0 := own0'
  clear own0'
  have Bx0 := Lib.hid (BW_.out.trans (Bl0.out.mono (by omega)) |>.trans bX)
  have sXl := Nat.le_of_eq sX
  have sXr := Nat.le_of_eq sX.symm
  clear x0 y0 v0 K00 K10 K20 HR0 hX sX nX bX
  refine (toInt_any h.A1 o.f1 h.c1 X1 B HR_.out.r1 (by omega) l1).mono ?_
  rintro e w2 ⟨rfl, cp1⟩
  have own1 := Lib.hid (cp1.done)
  have lt1 := cp1.lt
  have Bl1 := Lib.hid cp1.1
  clear cp1
  have K01 := Lib.hid (K0_.out.below Bl1.out K0_.out.lt)
  have K11 := Lib.hid (K1_.out.below Bl1.out K1_.out.lt)
  have K21 := Lib.hid (K2_.out.below Bl1.out K2_.out.lt)
  have HR1 := Lib.hid (HR_.out.below Bl1.out (by omega))
  clear K0_ K1_ K2_ HR_
  have own0' := Lib.hid (own0.out.below Bl1.out (by omega))
  clear own0
  have own0 := own0'
  clear own0'
  have y1 := K21.out.free 1
  have x1 : w2.cell? ⟨w.heap.size + 1 + 1, 1, none⟩ = some (.slice none 0 0) := K21.out.cell 1
  have v1 : w2.cell? ⟨w.heap.size, 2, none⟩ = some (.slice h.A2 o.f2.length h.c2) := K01.out.cell 2
  go_wp2_with fail
  obtain ⟨X2, hX⟩ : ∃ V, V = w2.setCell ⟨w.heap.size + 1 + 1, 1, none⟩ (.slice (some ⟨X1.heap.size, 0, none⟩) o.f1.length o.f1.length) := ⟨_, rfl⟩
  rw [← hX]
  have bX : Below w.heap.size w2 X2 := by rw [hX]; exact (Below.refl _ _).setCell (by show _ ≤ w.heap.size + 1 + 1; omega) _
  have sX : X2.heap.size = w2.heap.size := by rw [hX]; simp
  have nX : ∀ q, q ≠ w.heap.size + 1 + 1 → X2.heap[q]? = w2.heap[q]? := fun q hq => by rw [hX]; exact Below.heap_setCell _ _ _ q hq
  have K0_ := Lib.hid (show Bk X2 w.heap.size _ _ from (nX _ (by omega)).trans K01.out)
  have K1_ := Lib.hid (show Bk X2 (w.heap.size + 1) _ _ from (nX _ (by omega)).trans K11.out)
  have K2_ : Hid (Bk X2 (w.heap.size + 1 + 1) 50 #[.slice (some ⟨W.heap.size, 0, none⟩) o.f0.length o.f0.length, .slice (some ⟨X1.heap.size, 0, none⟩) o.f1.length o.f1.length, Value.slice none 0 0, Value.slice none 0 0, Value.slice none 0 0]) := Lib.hid (by rw [hX]; have := K21.out.set 1 (.slice (some ⟨X1.heap.size, 0, none⟩) o.f1.length o.f1.length); simpa using this)
  have HR_ := Lib.hid (HR1.out.keepV fun b o' hb => World.cell?_of_block (a := ⟨b, o', none⟩) (nX b (by omega)))
  have own0' := Lib.hid (own0.out.keep (Nat.le_refl _) (Nat.le_refl _) fun q h1 h2 => nX q (by omega))
  clear own0
  have own0 := own0'
  clear own0'
  have own1' := Lib.hid (own1.out.keep (Nat.le_refl _) (Nat.le_refl _) fun q h1 h2 => nX q (by omega))
  clear own1
  have own1 := own1'
  clear own1'
  have Bx1 := Lib.hid (Bx0.out.trans (Bl1.out.mono (by omega)) |>.trans bX)
  have sXl := Nat.le_of_eq sX
  have sXr := Nat.le_of_eq sX.symm
  clear x1 y1 v1 K01 K11 K21 HR1 hX sX nX bX
  refine (toInt_any h.A2 o.f2 h.c2 X2 B HR_.out.r2 (by omega) l2).mono ?_
  rintro e w3 ⟨rfl, cp2⟩
  have own2 := Lib.hid (cp2.done)
  have lt2 := cp2.lt
  have Bl2 := Lib.hid cp2.1
  clear cp2
  have K02 := Lib.hid (K0_.out.below Bl2.out K0_.out.lt)
  have K12 := Lib.hid (K1_.out.below Bl2.out K1_.out.lt)
  have K22 := Lib.hid (K2_.out.below Bl2.out K2_.out.lt)
  have HR2 := Lib.hid (HR_.out.below Bl2.out (by omega))
  clear K0_ K1_ K2_ HR_
  have own0' := Lib.hid (own0.out.below Bl2.out (by omega))
  clear own0
  have own0 := own0'
  clear own0'
  have own1' := Lib.hid (own1.out.below Bl2.out (by omega))
  clear own1
  have own1 := own1'
  clear own1'
  have y2 := K22.out.free 2
  have x2 : w3.cell? ⟨w.heap.size + 1 + 1, 2, none⟩ = some (.slice none 0 0) := K22.out.cell 2
  have v2 : w3.cell? ⟨w.heap.size, 3, none⟩ = some (.slice h.A3 o.f3.length h.c3) := K02.out.cell 3
  go_wp2_with fail
  obtain ⟨X3, hX⟩ : ∃ V, V = w3.setCell ⟨w.heap.size + 1 + 1, 2, none⟩ (.slice (some ⟨X2.heap.size, 0, none⟩) o.f2.length o.f2.length) := ⟨_, rfl⟩
  rw [← hX]
  have bX : Below w.heap.size w3 X3 := by rw [hX]; exact (Below.refl _ _).setCell (by show _ ≤ w.heap.size + 1 + 1; omega) _
  have sX : X3.heap.size = w3.heap.size := by rw [hX]; simp
  have nX : ∀ q, q ≠ w.heap.size + 1 + 1 → X3.heap[q]? = w3.heap[q]? := fun q hq => by rw [hX]; exact Below.heap_setCell _ _ _ q hq
  have K0_ := Lib.hid (show Bk X3 w.heap.size _ _ from (nX _ (by omega)).trans K02.out)
  have K1_ := Lib.hid (show Bk X3 (w.heap.size + 1) _ _ from (nX _ (by omega)).trans K12.out)
  have K2_ : Hid (Bk X3 (w.heap.size + 1 + 1) 50 #[.slice (some ⟨W.heap.size, 0, none⟩) o.f0.length o.f0.length, .slice (some ⟨X1.heap.size, 0, none⟩) o.f1.length o.f1.length, .slice (some ⟨X2.heap.size, 0, none⟩) o.f2.length o.f2.length, Value.slice none 0 0, Value.slice none 0 0]) := Lib.hid (by rw [hX]; have := K22.out.set 2 (.slice (some ⟨X2.heap.size, 0, none⟩) o.f2.length o.f2.length); simpa using this)
  have HR_ := Lib.hid (HR2.out.keepV fun b o' hb => World.cell?_of_block (a := ⟨b, o', none⟩) (nX b (by omega)))
  have own0' := Lib.hid (own0.out.keep (Nat.le_refl _) (Nat.le_refl _) fun q h1 h2 => nX q (by omega))
  clear own0
  have own0 := own0'
  clear own0'
  have own1' := Lib.hid (own1.out.keep (Nat.le_refl _) (Nat.le_refl _) fun q h1 h2 => nX q (by omega))
  clear own1
  have own1 := own1'
  clear own1'
  have own2' := Lib.hid (own2.out.keep (Nat.le_refl _) (Nat.le_refl _) fun q h1 h2 => nX q (by omega))
  clear own2
  have own2 := own2'
  clear own2'
  have Bx2 := Lib.hid (Bx1.out.trans (Bl2.out.mono (by omega)) |>.trans bX)
  have sXl := Nat.le_of_eq sX
  have sXr := Nat.le_of_eq sX.symm
  clear x2 y2 v2 K02 K12 K22 HR2 hX sX nX bX
  refine (toInt_any h.A3 o.f3 h.c3 X3 B HR_.out.r3 (by omega) l3).mono ?_
  rintro e w4 ⟨rfl, cp3⟩
  have own3 := Lib.hid (cp3.done)
  have lt3 := cp3.lt
  have Bl3 := Lib.hid cp3.1
  clear cp3
  have K03 := Lib.hid (K0_.out.below Bl3.out K0_.out.lt)
  have K13 := Lib.hid (K1_.out.below Bl3.out K1_.out.lt)
  have K23 := Lib.hid (K2_.out.below Bl3.out K2_.out.lt)
  have HR3 := Lib.hid (HR_.out.below Bl3.out (by omega))
  clear K0_ K1_ K2_ HR_
  have own0' := Lib.hid (own0.out.below Bl3.out (by omega))
  clear own0
  have own0 := own0'
  clear own0'
  have own1' := Lib.hid (own1.out.below Bl3.out (by omega))
  clear own1
  have own1 := own1'
  clear own1'
  have own2' := Lib.hid (own2.out.below Bl3.out (by omega))
  clear own2
  have own2 := own2'
  clear own2'
  have y3 := K23.out.free 3
  have x3 : w4.cell? ⟨w.heap.size + 1 + 1, 3, none⟩ = some (.slice none 0 0) := K23.out.cell 3
  have v3 : w4.cell? ⟨w.heap.size, 4, none⟩ = some (.slice h.A4 o.f4.length h.c4) := K03.out.cell 4
  go_wp2_with fail
  obtain ⟨X4, hX⟩ : ∃ V, V = w4.setCell ⟨w.heap.size + 1 + 1, 3, none⟩ (.slice (some ⟨X3.heap.size, 0, none⟩) o.f3.length o.f3.length) := ⟨_, rfl⟩
  rw [← hX]
  have bX : Below w.heap.size w4 X4 := by rw [hX]; exact (Below.refl _ _).setCell (by show _ ≤ w.heap.size + 1 + 1; omega) _
  have sX : X4.heap.size = w4.heap.size := by rw [hX]; simp
  have nX : ∀ q, q ≠ w.heap.size + 1 + 1 → X4.heap[q]? = w4.heap[q]? := fun q hq => by rw [hX]; exact Below.heap_setCell _ _ _ q hq
  have K0_ := Lib.hid (show Bk X4 w.heap.size _ _ from (nX _ (by omega)).trans K03.out)
  have K1_ := Lib.hid (show Bk X4 (w.heap.size + 1) _ _ from (nX _ (by omega)).trans K13.out)
  have K2_ : Hid (Bk X4 (w.heap.size + 1 + 1) 50 #[.slice (some ⟨W.heap.size, 0, none⟩) o.f0.length o.f0.length, .slice (some ⟨X1.heap.size, 0, none⟩) o.f1.length o.f1.length, .slice (some ⟨X2.heap.size, 0, none⟩) o.f2.length o.f2.length, .slice (some ⟨X3.heap.size, 0, none⟩) o.f3.length o.f3.length, Value.slice none 0 0]) := Lib.hid (by rw [hX]; have := K23.out.set 3 (.slice (some ⟨X3.heap.size, 0, none⟩) o.f3.length o.f3.length); simpa using this)
  have HR_ := Lib.hid (HR3.out.keepV fun b o' hb => World.cell?_of_block (a := ⟨b, o', none⟩) (nX b (by omega)))
  have own0' := Lib.hid (own0.out.keep (Nat.le_refl _) (Nat.le_refl _) fun q h1 h2 => nX q (by omega))
  clear own0
  have own0 := own0'
  clear own0'
  have own1' := Lib.hid (own1.out.keep (Nat.le_refl _) (Nat.le_refl _) fun q h1 h2 => nX q (by omega))
  clear own1
  have own1 := own1'
  clear own1'
  have own2' := Lib.hid (own2.out.keep (Nat.le_refl _) (Nat.le_refl _) fun q h1 h2 => nX q (by omega))
  clear own2
  have own2 := own2'
  clear own2'
  have own3' := Lib.hid (own3.out.keep (Nat.le_refl _) (Nat.le_refl _) fun q h1 h2 => nX q (by omega))
  clear own3
  have own3 := own3'
  clear own3'
  have Bx3 := Lib.hid (Bx2.out.trans (Bl3.out.mono (by omega)) |>.trans bX)
  have sXl := Nat.le_of_eq sX
  have sXr := Nat.le_of_eq sX.symm
  clear x3 y3 v3 K03 K13 K23 HR3 hX sX nX bX
  refine (toInt_any h.A4 o.f4 h.c4 X4 B HR_.out.r4 (by omega) l4).mono ?_
  rintro e w5 ⟨rfl, cp4⟩
  have own4 := Lib.hid (cp4.done)
  have lt4 := cp4.lt
  have Bl4 := Lib.hid cp4.1
  clear cp4
  have K04 := Lib.hid (K0_.out.below Bl4.out K0_.out.lt)
  have K14 := Lib.hid (K1_.out.below Bl4.out K1_.out.lt)
  have K24 := Lib.hid (K2_.out.below Bl4.out K2_.out.lt)
  have HR4 := Lib.hid (HR_.out.below Bl4.out (by omega))
  clear K0_ K1_ K2_ HR_
  have own0' := Lib.hid (own0.out.below Bl4.out (by omega))
  clear own0
  have own0 := own0'
  clear own0'
  have own1' := Lib.hid (own1.out.below Bl4.out (by omega))
  clear own1
  have own1 := own1'
  clear own1'
  have own2' := Lib.hid (own2.out.below Bl4.out (by omega))
  clear own2
  have own2 := own2'
  clear own2'
  have own3' := Lib.hid (own3.out.below Bl4.out (by omega))
  clear own3
  have own3 := own3'
  clear own3'
  have y4 := K24.out.free 4
  have x4 : w5.cell? ⟨w.heap.size + 1 + 1, 4, none⟩ = some (.slice none 0 0) := K24.out.cell 4
  have Bf := Lib.hid (Bx3.out.trans (Bl4.out.mono (by omega)))
  have fr0 := K14.out.free 0
  have xr0 : w5.cell? ⟨w.heap.size + 1, 0, none⟩ = some (.slice none 0 0) := K14.out.cell 0
  have xo0 : w5.cell? ⟨w.heap.size + 1 + 1, 0, none⟩ = some (.slice (some ⟨W.heap.size, 0, none⟩) o.f0.length o.f0.length) := K24.out.cell 0
  have fr1 := K14.out.free 1
  have xr1 : w5.cell? ⟨w.heap.size + 1, 1, none⟩ = some (.slice none 0 0) := K14.out.cell 1
  have xo1 : w5.cell? ⟨w.heap.size + 1 + 1, 1, none⟩ = some (.slice (some ⟨X1.heap.size, 0, none⟩) o.f1.length o.f1.length) := K24.out.cell 1
  have fr2 := K14.out.free 2
  have xr2 : w5.cell? ⟨w.heap.size + 1, 2, none⟩ = some (.slice none 0 0) := K14.out.cell 2
  have xo2 : w5.cell? ⟨w.heap.size + 1 + 1, 2, none⟩ = some (.slice (some ⟨X2.heap.size, 0, none⟩) o.f2.length o.f2.length) := K24.out.cell 2
  have fr3 := K14.out.free 3
  have xr3 : w5.cell? ⟨w.heap.size + 1, 3, none⟩ = some (.slice none 0 0) := K14.out.cell 3
  have xo3 : w5.cell? ⟨w.heap.size + 1 + 1, 3, none⟩ = some (.slice (some ⟨X3.heap.size, 0, none⟩) o.f3.length o.f3.length) := K24.out.cell 3
  have fr4 := K14.out.free 4
  have xr4 : w5.cell? ⟨w.heap.size + 1, 4, none⟩ = some (.slice none 0 0) := K14.out.cell 4
  obtain ⟨F, hF⟩ : ∃ F, F = ((((((w5.setCell ⟨w.heap.size + 1 + 1, 4, none⟩ (.slice (some ⟨X4.heap.size, 0, none⟩) o.f4.length o.f4.length)).setCell ⟨w.heap.size + 1, 0, none⟩ (.slice (some ⟨W.heap.size, 0, none⟩) o.f0.length o.f0.length)).setCell ⟨w.heap.size + 1, 1, none⟩ (.slice (some ⟨X1.heap.size, 0, none⟩) o.f1.length o.f1.length)).setCell ⟨w.heap.size + 1, 2, none⟩ (.slice (some ⟨X2.heap.size, 0, none⟩) o.f2.length o.f2.length)).setCell ⟨w.heap.size + 1, 3, none⟩ (.slice (some ⟨X3.heap.size, 0, none⟩) o.f3.length o.f3.length)).setCell ⟨w.heap.size + 1, 4, none⟩ (.slice (some ⟨X4.heap.size, 0, none⟩) o.f4.length o.f4.length)) := ⟨_, rfl⟩
  have kF : Bk F (w.heap.size + 1) 50 #[.slice (some ⟨W.heap.size, 0, none⟩) o.f0.length o.f0.length, .slice (some ⟨X1.heap.size, 0, none⟩) o.f1.length o.f1.length, .slice (some ⟨X2.heap.size, 0, none⟩) o.f2.length o.f2.length, .slice (some ⟨X3.heap.size, 0, none⟩) o.f3.length o.f3.length, .slice (some ⟨X4.heap.size, 0, none⟩) o.f4.length o.f4.length] := by
    rw [hF]; have a0 := K14.out.far (p := ⟨w.heap.size + 1 + 1, 4, none⟩) (by show w.heap.size + 1 ≠ w.heap.size + 1 + 1; omega) (.slice (some ⟨X4.heap.size, 0, none⟩) o.f4.length o.f4.length)
    have a1 := a0.set 0 (.slice (some ⟨W.heap.size, 0, none⟩) o.f0.length o.f0.length)
    have a2 := a1.set 1 (.slice (some ⟨X1.heap.size, 0, none⟩) o.f1.length o.f1.length)
    have a3 := a2.set 2 (.slice (some ⟨X2.heap.size, 0, none⟩) o.f2.length o.f2.length)
    have a4 := a3.set 3 (.slice (some ⟨X3.heap.size, 0, none⟩) o.f3.length o.f3.length)
    have a5 := a4.set 4 (.slice (some ⟨X4.heap.size, 0, none⟩) o.f4.length o.f4.length)
    simpa using a5
  have bF : Below w.heap.size w5 F := by rw [hF]; exact (((((((Below.refl _ _).setCell (by show _ ≤ w.heap.size + 1 + 1; omega) _).setCell (by show _ ≤ w.heap.size + 1; omega) _).setCell (by show _ ≤ w.heap.size + 1; omega) _).setCell (by show _ ≤ w.heap.size + 1; omega) _).setCell (by show _ ≤ w.heap.size + 1; omega) _).setCell (by show _ ≤ w.heap.size + 1; omega) _)
  have nF : ∀ q, w.heap.size + 1 + 1 < q → F.heap[q]? = w5.heap[q]? := fun q hq => by rw [hF]; exact (Below.heap_setCell _ _ _ q (by show q ≠ w.heap.size + 1; omega)).trans ((Below.heap_setCell _ _ _ q (by show q ≠ w.heap.size + 1; omega)).trans ((Below.heap_setCell _ _ _ q (by show q ≠ w.heap.size + 1; omega)).trans ((Below.heap_setCell _ _ _ q (by show q ≠ w.heap.size + 1; omega)).trans ((Below.heap_setCell _ _ _ q (by show q ≠ w.heap.size + 1; omega)).trans (Below.heap_setCell _ _ _ q (by show q ≠ w.heap.size + 1 + 1; omega))))))
  have sF : w5.heap.size ≤ F.heap.size := by rw [hF]; simp
  have cF0 := kF.cell 0
  have cF1 := kF.cell 1
  have cF2 := kF.cell 2
  have cF3 := kF.cell 3
  have cF4 := kF.cell 4
  simp only [List.getElem?_toArray, List.getElem?_cons_zero, List.getElem?_cons_succ] at cF0 cF1 cF2 cF3 cF4
  have HF := Lib.hid hF
  clear hF kF
  have CF0 := Lib.hid cF0
  clear cF0
  have CF1 := Lib.hid cF1
  clear cF1
  have CF2 := Lib.hid cF2
  clear cF2
  have CF3 := Lib.hid cF3
  clear cF3
  have CF4 := Lib.hid cF4
  clear cF4
  have NF := Lib.hid nF
  have BF := Lib.hid bF
  clear nF bF
  go_wp2
  rw [← HF.out]
  have cF0 := CF0.out
  have cF1 := CF1.out
  have cF2 := CF2.out
  have cF3 := CF3.out
  have cF4 := CF4.out
  refine bodyPost_ret (v := .agg #[.slice (some ⟨W.heap.size, 0, none⟩) o.f0.length o.f0.length, .slice (some ⟨X1.heap.size, 0, none⟩) o.f1.length o.f1.length, .slice (some ⟨X2.heap.size, 0, none⟩) o.f2.length o.f2.length, .slice (some ⟨X3.heap.size, 0, none⟩) o.f3.length o.f3.length, .slice (some ⟨X4.heap.size, 0, none⟩) o.f4.length o.f4.length]) (by simp [results, Try.results49, cF0, cF1, cF2, cF3, cF4, go_sem]) rfl ?_
  refine ⟨⟨some ⟨W.heap.size, 0, none⟩, some ⟨X1.heap.size, 0, none⟩, some ⟨X2.heap.size, 0, none⟩, some ⟨X3.heap.size, 0, none⟩, some ⟨X4.heap.size, 0, none⟩, o.f0.length, o.f1.length, o.f2.length, o.f3.length, o.f4.length⟩, rfl, Bf.out.trans BF.out, by omega, own0.out.keep (by omega) (by omega) fun q h1 h2 => NF.out q (by omega), own1.out.keep (by omega) (by omega) fun q h1 h2 => NF.out q (by omega), own2.out.keep (by omega) (by omega) fun q h1 h2 => NF.out q (by omega), own3.out.keep (by omega) (by omega) fun q h1 h2 => NF.out q (by omega), own4.out.keep (by omega) (by omega) fun q h1 h2 => NF.out q (by omega), fun _ _ e => by injection e with e; injection e with e; omega, fun _ _ e => by injection e with e; injection e with e; omega, fun _ _ e => by injection e with e; injection e with e; omega, fun _ _ e => by injection e with e; injection e with e; omega, fun _ _ e => by injection e with e; injection e with e; omega, fun _ _ e => by injection e with e; injection e with e; omega, fun _ _ e => by injection e with e; injection e with e; omega, fun _ _ e => by injection e with e; injection e with e; omega, fun _ _ e => by injection e with e; injection e with e; omega, fun _ _ e => by injection e with e; injection e with e; omega⟩
/-- An answer of a record and a truth: the record is the call's own. -/
def AnsSta (w : World) (o : Sta) (r : Bool) (e : Ending) (w' : World) : Prop := ∃ h, e = .returned (.tuple #[StaV h o, .bool r]) ∧ Below w.heap.size w w' ∧ w.heap.size ≤ w'.heap.size ∧ StaO w' w.heap.size w'.heap.size h o
def AnsISta (w : World) (o : Sta) (r : Bool) (e : Ending) (w' : World) : Prop := ∃ h, e = .returned (.tuple #[StaV h o, .bool r]) ∧ Below w.heap.size w w' ∧ w.heap.size ≤ w'.heap.size ∧ StaI w' w.heap.size w'.heap.size h o
theorem AnsSta.in_ {w w' : World} {o : Sta} {r : Bool} {e : Ending} (h : AnsSta w o r e w') : AnsISta w o r e w' := by
  obtain ⟨k, h1, h2, h3, h4⟩ := h
  exact ⟨k, h1, h2, h3, h4.in_⟩
theorem eqSta_any (h1 h2 : StaH) (o1 o2 : Sta) (w : World) (B : Nat) (r1 : StaR w B h1 o1) (r2 : StaR w B h2 o2) (hB : B ≤ w.heap.size) (L1 : StaL o1 maxLen) (L2 : StaL o2 maxLen) (r : Bool) (hr : Hid (decide (o1 = o2) = r)) :
    Calls Try.prog 55 #[StaV h1 o1, StaV h2 o2] w fun e w' => e = .returned (.bool r) ∧ Below w.heap.size w w' := by
  obtain ⟨l0, l1, l2, l3, l4⟩ := L1
  obtain ⟨m0, m1, m2, m3, m4⟩ := L2
  obtain ⟨W, hW⟩ : ∃ W, W = (w.alloc (.cells #[.slice h1.A0 o1.f0.length h1.c0, .slice h1.A1 o1.f1.length h1.c1, .slice h1.A2 o1.f2.length h1.c2, .slice h1.A3 o1.f3.length h1.c3, .slice h1.A4 o1.f4.length h1.c4] 50)).alloc (.cells #[.slice h2.A0 o2.f0.length h2.c0, .slice h2.A1 o2.f1.length h2.c1, .slice h2.A2 o2.f2.length h2.c2, .slice h2.A3 o2.f3.length h2.c3, .slice h2.A4 o2.f4.length h2.c4] 50) := ⟨_, rfl⟩
  have bW : Below w.heap.size w W := by rw [hW]; go_grown
  have k0 : Bk W w.heap.size 50 #[.slice h1.A0 o1.f0.length h1.c0, .slice h1.A1 o1.f1.length h1.c1, .slice h1.A2 o1.f2.length h1.c2, .slice h1.A3 o1.f3.length h1.c3, .slice h1.A4 o1.f4.length h1.c4] := by rw [hW]; exact (Bk.new w _ _).alloc _
  have k1 : Bk W (w.heap.size + 1) 50 #[.slice h2.A0 o2.f0.length h2.c0, .slice h2.A1 o2.f1.length h2.c1, .slice h2.A2 o2.f2.length h2.c2, .slice h2.A3 o2.f3.length h2.c3, .slice h2.A4 o2.f4.length h2.c4] := by
    rw [hW]; have := Bk.new (w.alloc (.cells #[.slice h1.A0 o1.f0.length h1.c0, .slice h1.A1 o1.f1.length h1.c1, .slice h1.A2 o1.f2.length h1.c2, .slice h1.A3 o1.f3.length h1.c3, .slice h1.A4 o1.f4.length h1.c4] 50)) #[.slice h2.A0 o2.f0.length h2.c0, .slice h2.A1 o2.f1.length h2.c1, .slice h2.A2 o2.f2.length h2.c2, .slice h2.A3 o2.f3.length h2.c3, .slice h2.A4 o2.f4.length h2.c4] 50
    rwa [World.size_alloc] at this
  have P0 := Lib.hid (r1.below bW hB)
  have Q0 := Lib.hid (r2.below bW hB)
  have K00 := Lib.hid k0
  have K10 := Lib.hid k1
  have B0 := Lib.hid bW
  have z0 := bW.size
  have HW := Lib.hid hW
  clear hW bW k0 k1 r1 r2
  by_cases q0 : o1.f0 = o2.f0
  rotate_left
  · have Y0 := Lib.hid q0
    have hfin : Hid (r = false) := Lib.hid (by rw [← hr.out]; exact decide_eq_false (fun e => Y0.out (by rw [e])))
    clear hr q0
    go_enter Try.func55, Try.ntmps55
    go_wp2_with fail
    rw [← HW.out]
    refine (eqInt_any h1.A0 h2.A0 o1.f0 o2.f0 h1.c0 h2.c0 W B P0.out.r0 Q0.out.r0 l0 m0 false (Lib.hid (by simpa using Y0.out))).mono ?_
    rintro e u1 ⟨rfl, hb⟩
    have B1 := Lib.hid (below_on B0.out hb)
    clear hb
    go_wp2
    go_ret
    exact ⟨by rw [hfin.out]; rfl, B1.out⟩
  have Y0 := Lib.hid q0
  clear q0
  by_cases q1 : o1.f1 = o2.f1
  rotate_left
  · have Y1 := Lib.hid q1
    have hfin : Hid (r = false) := Lib.hid (by rw [← hr.out]; exact decide_eq_false (fun e => Y1.out (by rw [e])))
    clear hr q1
    go_enter Try.func55, Try.ntmps55
    go_wp2_with fail
    rw [← HW.out]
    refine (eqInt_any h1.A0 h2.A0 o1.f0 o2.f0 h1.c0 h2.c0 W B P0.out.r0 Q0.out.r0 l0 m0 true (Lib.hid (by simpa using Y0.out))).mono ?_
    rintro e u1 ⟨rfl, hb⟩
    have B1 := Lib.hid (below_on B0.out hb)
    have P1 := Lib.hid (P0.out.below hb (by omega))
    have Q1 := Lib.hid (Q0.out.below hb (by omega))
    have K01 := Lib.hid (K00.out.below hb K00.out.lt)
    have K11 := Lib.hid (K10.out.below hb K10.out.lt)
    have z1 := hb.size
    have ca : u1.cell? ⟨w.heap.size, 1, none⟩ = some (.slice h1.A1 o1.f1.length h1.c1) := K01.out.cell 1
    have cb : u1.cell? ⟨w.heap.size + 1, 1, none⟩ = some (.slice h2.A1 o2.f1.length h2.c1) := K11.out.cell 1
    clear hb
    go_wp2_with fail
    refine (eqInt_any h1.A1 h2.A1 o1.f1 o2.f1 h1.c1 h2.c1 u1 B P1.out.r1 Q1.out.r1 l1 m1 false (Lib.hid (by simpa using Y1.out))).mono ?_
    rintro e u2 ⟨rfl, hb⟩
    have B2 := Lib.hid (below_on B1.out hb)
    clear hb
    go_wp2
    go_ret
    exact ⟨by rw [hfin.out]; rfl, B2.out⟩
  have Y1 := Lib.hid q1
  clear q1
  by_cases q2 : o1.f2 = o2.f2
  rotate_left
  · have Y2 := Lib.hid q2
    have hfin : Hid (r = false) := Lib.hid (by rw [← hr.out]; exact decide_eq_false (fun e => Y2.out (by rw [e])))
    clear hr q2
    go_enter Try.func55, Try.ntmps55
    go_wp2_with fail
    rw [← HW.out]
    refine (eqInt_any h1.A0 h2.A0 o1.f0 o2.f0 h1.c0 h2.c0 W B P0.out.r0 Q0.out.r0 l0 m0 true (Lib.hid (by simpa using Y0.out))).mono ?_
    rintro e u1 ⟨rfl, hb⟩
    have B1 := Lib.hid (below_on B0.out hb)
    have P1 := Lib.hid (P0.out.below hb (by omega))
    have Q1 := Lib.hid (Q0.out.below hb (by omega))
    have K01 := Lib.hid (K00.out.below hb K00.out.lt)
    have K11 := Lib.hid (K10.out.below hb K10.out.lt)
    have z1 := hb.size
    have ca : u1.cell? ⟨w.heap.size, 1, none⟩ = some (.slice h1.A1 o1.f1.length h1.c1) := K01.out.cell 1
    have cb : u1.cell? ⟨w.heap.size + 1, 1, none⟩ = some (.slice h2.A1 o2.f1.length h2.c1) := K11.out.cell 1
    clear hb
    go_wp2_with fail
    refine (eqInt_any h1.A1 h2.A1 o1.f1 o2.f1 h1.c1 h2.c1 u1 B P1.out.r1 Q1.out.r1 l1 m1 true (Lib.hid (by simpa using Y1.out))).mono ?_
    rintro e u2 ⟨rfl, hb⟩
    have B2 := Lib.hid (below_on B1.out hb)
    have P2 := Lib.hid (P1.out.below hb (by omega))
    have Q2 := Lib.hid (Q1.out.below hb (by omega))
    have K02 := Lib.hid (K01.out.below hb K01.out.lt)
    have K12 := Lib.hid (K11.out.below hb K11.out.lt)
    have z2 := hb.size
    have ca : u2.cell? ⟨w.heap.size, 2, none⟩ = some (.slice h1.A2 o1.f2.length h1.c2) := K02.out.cell 2
    have cb : u2.cell? ⟨w.heap.size + 1, 2, none⟩ = some (.slice h2.A2 o2.f2.length h2.c2) := K12.out.cell 2
    clear hb
    go_wp2_with fail
    refine (eqInt_any h1.A2 h2.A2 o1.f2 o2.f2 h1.c2 h2.c2 u2 B P2.out.r2 Q2.out.r2 l2 m2 false (Lib.hid (by simpa using Y2.out))).mono ?_
    rintro e u3 ⟨rfl, hb⟩
    have B3 := Lib.hid (below_on B2.out hb)
    clear hb
    go_wp2
    go_ret
    exact ⟨by rw [hfin.out]; rfl, B3.out⟩
  have Y2 := Lib.hid q2
  clear q2
  by_cases q3 : o1.f3 = o2.f3
  rotate_left
  · have Y3 := Lib.hid q3
    have hfin : Hid (r = false) := Lib.hid (by rw [← hr.out]; exact decide_eq_false (fun e => Y3.out (by rw [e])))
    clear hr q3
    go_enter Try.func55, Try.ntmps55
    go_wp2_with fail
    rw [← HW.out]
    refine (eqInt_any h1.A0 h2.A0 o1.f0 o2.f0 h1.c0 h2.c0 W B P0.out.r0 Q0.out.r0 l0 m0 true (Lib.hid (by simpa using Y0.out))).mono ?_
    rintro e u1 ⟨rfl, hb⟩
    have B1 := Lib.hid (below_on B0.out hb)
    have P1 := Lib.hid (P0.out.below hb (by omega))
    have Q1 := Lib.hid (Q0.out.below hb (by omega))
    have K01 := Lib.hid (K00.out.below hb K00.out.lt)
    have K11 := Lib.hid (K10.out.below hb K10.out.lt)
    have z1 := hb.size
    have ca : u1.cell? ⟨w.heap.size, 1, none⟩ = some (.slice h1.A1 o1.f1.length h1.c1) := K01.out.cell 1
    have cb : u1.cell? ⟨w.heap.size + 1, 1, none⟩ = some (.slice h2.A1 o2.f1.length h2.c1) := K11.out.cell 1
    clear hb
    go_wp2_with fail
    refine (eqInt_any h1.A1 h2.A1 o1.f1 o2.f1 h1.c1 h2.c1 u1 B P1.out.r1 Q1.out.r1 l1 m1 true (Lib.hid (by simpa using Y1.out))).mono ?_
    rintro e u2 ⟨rfl, hb⟩
    have B2 := Lib.hid (below_on B1.out hb)
    have P2 := Lib.hid (P1.out.below hb (by omega))
    have Q2 := Lib.hid (Q1.out.below hb (by omega))
    have K02 := Lib.hid (K01.out.below hb K01.out.lt)
    have K12 := Lib.hid (K11.out.below hb K11.out.lt)
    have z2 := hb.size
    have ca : u2.cell? ⟨w.heap.size, 2, none⟩ = some (.slice h1.A2 o1.f2.length h1.c2) := K02.out.cell 2
    have cb : u2.cell? ⟨w.heap.size + 1, 2, none⟩ = some (.slice h2.A2 o2.f2.length h2.c2) := K12.out.cell 2
    clear hb
    go_wp2_with fail
    refine (eqInt_any h1.A2 h2.A2 o1.f2 o2.f2 h1.c2 h2.c2 u2 B P2.out.r2 Q2.out.r2 l2 m2 true (Lib.hid (by simpa using Y2.out))).mono ?_
    rintro e u3 ⟨rfl, hb⟩
    have B3 := Lib.hid (below_on B2.out hb)
    have P3 := Lib.hid (P2.out.below hb (by omega))
    have Q3 := Lib.hid (Q2.out.below hb (by omega))
    have K03 := Lib.hid (K02.out.below hb K02.out.lt)
    have K13 := Lib.hid (K12.out.below hb K12.out.lt)
    have z3 := hb.size
    have ca : u3.cell? ⟨w.heap.size, 3, none⟩ = some (.slice h1.A3 o1.f3.length h1.c3) := K03.out.cell 3
    have cb : u3.cell? ⟨w.heap.size + 1, 3, none⟩ = some (.slice h2.A3 o2.f3.length h2.c3) := K13.out.cell 3
    clear hb
    go_wp2_with fail
    refine (eqInt_any h1.A3 h2.A3 o1.f3 o2.f3 h1.c3 h2.c3 u3 B P3.out.r3 Q3.out.r3 l3 m3 false (Lib.hid (by simpa using Y3.out))).mono ?_
    rintro e u4 ⟨rfl, hb⟩
    have B4 := Lib.hid (below_on B3.out hb)
    clear hb
    go_wp2
    go_ret
    exact ⟨by rw [hfin.out]; rfl, B4.out⟩
  have Y3 := Lib.hid q3
  clear q3
  by_cases q4 : o1.f4 = o2.f4
  rotate_left
  · have Y4 := Lib.hid q4
    have hfin : Hid (r = false) := Lib.hid (by rw [← hr.out]; exact decide_eq_false (fun e => Y4.out (by rw [e])))
    clear hr q4
    go_enter Try.func55, Try.ntmps55
    go_wp2_with fail
    rw [← HW.out]
    refine (eqInt_any h1.A0 h2.A0 o1.f0 o2.f0 h1.c0 h2.c0 W B P0.out.r0 Q0.out.r0 l0 m0 true (Lib.hid (by simpa using Y0.out))).mono ?_
    rintro e u1 ⟨rfl, hb⟩
    have B1 := Lib.hid (below_on B0.out hb)
    have P1 := Lib.hid (P0.out.below hb (by omega))
    have Q1 := Lib.hid (Q0.out.below hb (by omega))
    have K01 := Lib.hid (K00.out.below hb K00.out.lt)
    have K11 := Lib.hid (K10.out.below hb K10.out.lt)
    have z1 := hb.size
    have ca : u1.cell? ⟨w.heap.size, 1, none⟩ = some (.slice h1.A1 o1.f1.length h1.c1) := K01.out.cell 1
    have cb : u1.cell? ⟨w.heap.size + 1, 1, none⟩ = some (.slice h2.A1 o2.f1.length h2.c1) := K11.out.cell 1
    clear hb
    go_wp2_with fail
    refine (eqInt_any h1.A1 h2.A1 o1.f1 o2.f1 h1.c1 h2.c1 u1 B P1.out.r1 Q1.out.r1 l1 m1 true (Lib.hid (by simpa using Y1.out))).mono ?_
    rintro e u2 ⟨rfl, hb⟩
    have B2 := Lib.hid (below_on B1.out hb)
    have P2 := Lib.hid (P1.out.below hb (by omega))
    have Q2 := Lib.hid (Q1.out.below hb (by omega))
    have K02 := Lib.hid (K01.out.below hb K01.out.lt)
    have K12 := Lib.hid (K11.out.below hb K11.out.lt)
    have z2 := hb.size
    have ca : u2.cell? ⟨w.heap.size, 2, none⟩ = some (.slice h1.A2 o1.f2.length h1.c2) := K02.out.cell 2
    have cb : u2.cell? ⟨w.heap.size + 1, 2, none⟩ = some (.slice h2.A2 o2.f2.length h2.c2) := K12.out.cell 2
    clear hb
    go_wp2_with fail
    refine (eqInt_any h1.A2 h2.A2 o1.f2 o2.f2 h1.c2 h2.c2 u2 B P2.out.r2 Q2.out.r2 l2 m2 true (Lib.hid (by simpa using Y2.out))).mono ?_
    rintro e u3 ⟨rfl, hb⟩
    have B3 := Lib.hid (below_on B2.out hb)
    have P3 := Lib.hid (P2.out.below hb (by omega))
    have Q3 := Lib.hid (Q2.out.below hb (by omega))
    have K03 := Lib.hid (K02.out.below hb K02.out.lt)
    have K13 := Lib.hid (K12.out.below hb K12.out.lt)
    have z3 := hb.size
    have ca : u3.cell? ⟨w.heap.size, 3, none⟩ = some (.slice h1.A3 o1.f3.length h1.c3) := K03.out.cell 3
    have cb : u3.cell? ⟨w.heap.size + 1, 3, none⟩ = some (.slice h2.A3 o2.f3.length h2.c3) := K13.out.cell 3
    clear hb
    go_wp2_with fail
    refine (eqInt_any h1.A3 h2.A3 o1.f3 o2.f3 h1.c3 h2.c3 u3 B P3.out.r3 Q3.out.r3 l3 m3 true (Lib.hid (by simpa using Y3.out))).mono ?_
    rintro e u4 ⟨rfl, hb⟩
    have B4 := Lib.hid (below_on B3.out hb)
    have P4 := Lib.hid (P3.out.below hb (by omega))
    have Q4 := Lib.hid (Q3.out.below hb (by omega))
    have K04 := Lib.hid (K03.out.below hb K03.out.lt)
    have K14 := Lib.hid (K13.out.below hb K13.out.lt)
    have z4 := hb.size
    have ca : u4.cell? ⟨w.heap.size, 4, none⟩ = some (.slice h1.A4 o1.f4.length h1.c4) := K04.out.cell 4
    have cb : u4.cell? ⟨w.heap.size + 1, 4, none⟩ = some (.slice h2.A4 o2.f4.length h2.c4) := K14.out.cell 4
    clear hb
    go_wp2_with fail
    refine (eqInt_any h1.A4 h2.A4 o1.f4 o2.f4 h1.c4 h2.c4 u4 B P4.out.r4 Q4.out.r4 l4 m4 false (Lib.hid (by simpa using Y4.out))).mono ?_
    rintro e u5 ⟨rfl, hb⟩
    have B5 := Lib.hid (below_on B4.out hb)
    clear hb
    go_wp2
    go_ret
    exact ⟨by rw [hfin.out]; rfl, B5.out⟩
  have Y4 := Lib.hid q4
  clear q4
  have hfin : Hid (r = true) := Lib.hid (by
    rw [← hr.out]; apply decide_eq_true; cases o1; cases o2; simp only [Sta.mk.injEq]; exact ⟨Y0.out, Y1.out, Y2.out, Y3.out, Y4.out⟩)
  clear hr
  go_enter Try.func55, Try.ntmps55
  go_wp2_with fail
  rw [← HW.out]
  refine (eqInt_any h1.A0 h2.A0 o1.f0 o2.f0 h1.c0 h2.c0 W B P0.out.r0 Q0.out.r0 l0 m0 true (Lib.hid (by simpa using Y0.out))).mono ?_
  rintro e u1 ⟨rfl, hb⟩
  have B1 := Lib.hid (below_on B0.out hb)
  have P1 := Lib.hid (P0.out.below hb (by omega))
  have Q1 := Lib.hid (Q0.out.below hb (by omega))
  have K01 := Lib.hid (K00.out.below hb K00.out.lt)
  have K11 := Lib.hid (K10.out.below hb K10.out.lt)
  have z1 := hb.size
  have ca : u1.cell? ⟨w.heap.size, 1, none⟩ = some (.slice h1.A1 o1.f1.length h1.c1) := K01.out.cell 1
  have cb : u1.cell? ⟨w.heap.size + 1, 1, none⟩ = some (.slice h2.A1 o2.f1.length h2.c1) := K11.out.cell 1
  clear hb
  go_wp2_with fail
  refine (eqInt_any h1.A1 h2.A1 o1.f1 o2.f1 h1.c1 h2.c1 u1 B P1.out.r1 Q1.out.r1 l1 m1 true (Lib.hid (by simpa using Y1.out))).mono ?_
  rintro e u2 ⟨rfl, hb⟩
  have B2 := Lib.hid (below_on B1.out hb)
  have P2 := Lib.hid (P1.out.below hb (by omega))
  have Q2 := Lib.hid (Q1.out.below hb (by omega))
  have K02 := Lib.hid (K01.out.below hb K01.out.lt)
  have K12 := Lib.hid (K11.out.below hb K11.out.lt)
  have z2 := hb.size
  have ca : u2.cell? ⟨w.heap.size, 2, none⟩ = some (.slice h1.A2 o1.f2.length h1.c2) := K02.out.cell 2
  have cb : u2.cell? ⟨w.heap.size + 1, 2, none⟩ = some (.slice h2.A2 o2.f2.length h2.c2) := K12.out.cell 2
  clear hb
  go_wp2_with fail
  refine (eqInt_any h1.A2 h2.A2 o1.f2 o2.f2 h1.c2 h2.c2 u2 B P2.out.r2 Q2.out.r2 l2 m2 true (Lib.hid (by simpa using Y2.out))).mono ?_
  rintro e u3 ⟨rfl, hb⟩
  have B3 := Lib.hid (below_on B2.out hb)
  have P3 := Lib.hid (P2.out.below hb (by omega))
  have Q3 := Lib.hid (Q2.out.below hb (by omega))
  have K03 := Lib.hid (K02.out.below hb K02.out.lt)
  have K13 := Lib.hid (K12.out.below hb K12.out.lt)
  have z3 := hb.size
  have ca : u3.cell? ⟨w.heap.size, 3, none⟩ = some (.slice h1.A3 o1.f3.length h1.c3) := K03.out.cell 3
  have cb : u3.cell? ⟨w.heap.size + 1, 3, none⟩ = some (.slice h2.A3 o2.f3.length h2.c3) := K13.out.cell 3
  clear hb
  go_wp2_with fail
  refine (eqInt_any h1.A3 h2.A3 o1.f3 o2.f3 h1.c3 h2.c3 u3 B P3.out.r3 Q3.out.r3 l3 m3 true (Lib.hid (by simpa using Y3.out))).mono ?_
  rintro e u4 ⟨rfl, hb⟩
  have B4 := Lib.hid (below_on B3.out hb)
  have P4 := Lib.hid (P3.out.below hb (by omega))
  have Q4 := Lib.hid (Q3.out.below hb (by omega))
  have K04 := Lib.hid (K03.out.below hb K03.out.lt)
  have K14 := Lib.hid (K13.out.below hb K13.out.lt)
  have z4 := hb.size
  have ca : u4.cell? ⟨w.heap.size, 4, none⟩ = some (.slice h1.A4 o1.f4.length h1.c4) := K04.out.cell 4
  have cb : u4.cell? ⟨w.heap.size + 1, 4, none⟩ = some (.slice h2.A4 o2.f4.length h2.c4) := K14.out.cell 4
  clear hb
  go_wp2_with fail
  refine (eqInt_any h1.A4 h2.A4 o1.f4 o2.f4 h1.c4 h2.c4 u4 B P4.out.r4 Q4.out.r4 l4 m4 true (Lib.hid (by simpa using Y4.out))).mono ?_
  rintro e u5 ⟨rfl, hb⟩
  have B5 := Lib.hid (below_on B4.out hb)
  clear hb
  go_wp2
  go_ret
  exact ⟨by rw [hfin.out]; rfl, B5.out⟩
/-- A record that marks have been written over. -/
def upSta (K : Int) (o : Sta) : Sta := ⟨upI (K) o.f0.length, upI (K + (o.f0.length : Int)) o.f1.length, upI (K + (o.f0.length : Int) + (o.f1.length : Int)) o.f2.length, upI (K + (o.f0.length : Int) + (o.f1.length : Int) + (o.f2.length : Int)) o.f3.length, upI (K + (o.f0.length : Int) + (o.f1.length : Int) + (o.f2.length : Int) + (o.f3.length : Int)) o.f4.length⟩
def allSta (o : Sta) : Int := (o.f0.length : Int) + (o.f1.length : Int) + (o.f2.length : Int) + (o.f3.length : Int) + (o.f4.length : Int)
theorem markSta_any (h : StaH) (o : Sta) (K : Int) (w : World) (lo hi : Nat) (hO : StaO w lo hi h o) (hhi : hi ≤ w.heap.size) (hL : StaL o 1048576) (hK : 0 ≤ K) (hK2 : K ≤ 100000000) :
    Calls Try.prog 58 #[StaV h o, .int .i64 K] w fun e w' => e = .returned (.int .i64 (K + allSta o)) ∧ Only lo hi w w' ∧ StaO w' lo hi h (upSta K o) := by
  obtain ⟨l0, l1, l2, l3, l4⟩ := hL
  have D := Lib.hid hO
  obtain ⟨W, hW⟩ : ∃ W, W = w.alloc (.cells #[.slice h.A0 o.f0.length h.c0, .slice h.A1 o.f1.length h.c1, .slice h.A2 o.f2.length h.c2, .slice h.A3 o.f3.length h.c3, .slice h.A4 o.f4.length h.c4] 50) := ⟨_, rfl⟩
  have bW : Below w.heap.size w W := by rw [hW]; go_grown
  have k0 : Bk W w.heap.size 50 #[.slice h.A0 o.f0.length h.c0, .slice h.A1 o.f1.length h.c1, .slice h.A2 o.f2.length h.c2, .slice h.A3 o.f3.length h.c3, .slice h.A4 o.f4.length h.c4] := by rw [hW]; exact Bk.new w _ _
  have zW := bW.size
  have J0 := Lib.hid (hO.o0.below bW hhi)
  have J1 := Lib.hid (hO.o1.below bW hhi)
  have J2 := Lib.hid (hO.o2.below bW hhi)
  have J3 := Lib.hid (hO.o3.below bW hhi)
  have J4 := Lib.hid (hO.o4.below bW hhi)
  have On0 := Lib.hid (Only.of_below (lo := lo) (hi := hi) bW)
  have K00 := Lib.hid k0
  have HW := Lib.hid hW
  clear hW bW k0 hO
  go_enter Try.func58, Try.ntmps58
  go_wp2_with fail
  rw [← HW.out]
  refine (markInt_own h.A0 o.f0 h.c0 (K) W lo hi J0.out l0 (by omega) (by omega)).mono ?_
  rintro e u1 ⟨rfl, on, own, same⟩
  have On1 := Lib.hid (On0.out.trans on)
  have z1 := on.size
  have K01 := Lib.hid (only_bk K00.out on (by omega))
  have J0' := Lib.hid own
  clear J0
  have J0 := J0'
  clear J0'
  have J1' := Lib.hid (J1.out.same (by omega) same fun a b => D.out.d01 b (by simpa using a))
  clear J1
  have J1 := J1'
  clear J1'
  have J2' := Lib.hid (J2.out.same (by omega) same fun a b => D.out.d02 b (by simpa using a))
  clear J2
  have J2 := J2'
  clear J2'
  have J3' := Lib.hid (J3.out.same (by omega) same fun a b => D.out.d03 b (by simpa using a))
  clear J3
  have J3 := J3'
  clear J3'
  have J4' := Lib.hid (J4.out.same (by omega) same fun a b => D.out.d04 b (by simpa using a))
  clear J4
  have J4 := J4'
  clear J4'
  clear on own same
  have c1 : u1.cell? ⟨w.heap.size, 1, none⟩ = some (.slice h.A1 o.f1.length h.c1) := K01.out.cell 1
  go_wp2_with fail
  clear c1
  refine (markInt_own h.A1 o.f1 h.c1 (K + (o.f0.length : Int)) u1 lo hi J1.out l1 (by omega) (by omega)).mono ?_
  rintro e u2 ⟨rfl, on, own, same⟩
  have On2 := Lib.hid (On1.out.trans on)
  have z2 := on.size
  have K02 := Lib.hid (only_bk K01.out on (by omega))
  have J0' := Lib.hid (J0.out.same (by omega) same fun a b => (D.out.d01 (by simpa using a) b).symm)
  clear J0
  have J0 := J0'
  clear J0'
  have J1' := Lib.hid own
  clear J1
  have J1 := J1'
  clear J1'
  have J2' := Lib.hid (J2.out.same (by omega) same fun a b => D.out.d12 b (by simpa using a))
  clear J2
  have J2 := J2'
  clear J2'
  have J3' := Lib.hid (J3.out.same (by omega) same fun a b => D.out.d13 b (by simpa using a))
  clear J3
  have J3 := J3'
  clear J3'
  have J4' := Lib.hid (J4.out.same (by omega) same fun a b => D.out.d14 b (by simpa using a))
  clear J4
  have J4 := J4'
  clear J4'
  clear on own same
  have c2 : u2.cell? ⟨w.heap.size, 2, none⟩ = some (.slice h.A2 o.f2.length h.c2) := K02.out.cell 2
  go_wp2_with fail
  clear c2
  refine (markInt_own h.A2 o.f2 h.c2 (K + (o.f0.length : Int) + (o.f1.length : Int)) u2 lo hi J2.out l2 (by omega) (by omega)).mono ?_
  rintro e u3 ⟨rfl, on, own, same⟩
  have On3 := Lib.hid (On2.out.trans on)
  have z3 := on.size
  have K03 := Lib.hid (only_bk K02.out on (by omega))
  have J0' := Lib.hid (J0.out.same (by omega) same fun a b => (D.out.d02 (by simpa using a) b).symm)
  clear J0
  have J0 := J0'
  clear J0'
  have J1' := Lib.hid (J1.out.same (by omega) same fun a b => (D.out.d12 (by simpa using a) b).symm)
  clear J1
  have J1 := J1'
  clear J1'
  have J2' := Lib.hid own
  clear J2
  have J2 := J2'
  clear J2'
  have J3' := Lib.hid (J3.out.same (by omega) same fun a b => D.out.d23 b (by simpa using a))
  clear J3
  have J3 := J3'
  clear J3'
  have J4' := Lib.hid (J4.out.same (by omega) same fun a b => D.out.d24 b (by simpa using a))
  clear J4
  have J4 := J4'
  clear J4'
  clear on own same
  have c3 : u3.cell? ⟨w.heap.size, 3, none⟩ = some (.slice h.A3 o.f3.length h.c3) := K03.out.cell 3
  go_wp2_with fail
  clear c3
  refine (markInt_own h.A3 o.f3 h.c3 (K + (o.f0.length : Int) + (o.f1.length : Int) + (o.f2.length : Int)) u3 lo hi J3.out l3 (by omega) (by omega)).mono ?_
  rintro e u4 ⟨rfl, on, own, same⟩
  have On4 := Lib.hid (On3.out.trans on)
  have z4 := on.size
  have K04 := Lib.hid (only_bk K03.out on (by omega))
  have J0' := Lib.hid (J0.out.same (by omega) same fun a b => (D.out.d03 (by simpa using a) b).symm)
  clear J0
  have J0 := J0'
  clear J0'
  have J1' := Lib.hid (J1.out.same (by omega) same fun a b => (D.out.d13 (by simpa using a) b).symm)
  clear J1
  have J1 := J1'
  clear J1'
  have J2' := Lib.hid (J2.out.same (by omega) same fun a b => (D.out.d23 (by simpa using a) b).symm)
  clear J2
  have J2 := J2'
  clear J2'
  have J3' := Lib.hid own
  clear J3
  have J3 := J3'
  clear J3'
  have J4' := Lib.hid (J4.out.same (by omega) same fun a b => D.out.d34 b (by simpa using a))
  clear J4
  have J4 := J4'
  clear J4'
  clear on own same
  have c4 : u4.cell? ⟨w.heap.size, 4, none⟩ = some (.slice h.A4 o.f4.length h.c4) := K04.out.cell 4
  go_wp2_with fail
  clear c4
  refine (markInt_own h.A4 o.f4 h.c4 (K + (o.f0.length : Int) + (o.f1.length : Int) + (o.f2.length : Int) + (o.f3.length : Int)) u4 lo hi J4.out l4 (by omega) (by omega)).mono ?_
  rintro e u5 ⟨rfl, on, own, same⟩
  have On5 := Lib.hid (On4.out.trans on)
  have z5 := on.size
  have K05 := Lib.hid (only_bk K04.out on (by omega))
  have J0' := Lib.hid (J0.out.same (by omega) same fun a b => (D.out.d04 (by simpa using a) b).symm)
  clear J0
  have J0 := J0'
  clear J0'
  have J1' := Lib.hid (J1.out.same (by omega) same fun a b => (D.out.d14 (by simpa using a) b).symm)
  clear J1
  have J1 := J1'
  clear J1'
  have J2' := Lib.hid (J2.out.same (by omega) same fun a b => (D.out.d24 (by simpa using a) b).symm)
  clear J2
  have J2 := J2'
  clear J2'
  have J3' := Lib.hid (J3.out.same (by omega) same fun a b => (D.out.d34 (by simpa using a) b).symm)
  clear J3
  have J3 := J3'
  clear J3'
  have J4' := Lib.hid own
  clear J4
  have J4 := J4'
  clear J4'
  clear on own same
  go_wp2
  go_ret
  exact ⟨by rw [allSta, show K + ((o.f0.length : Int) + (o.f1.length : Int) + (o.f2.length : Int) + (o.f3.length : Int) + (o.f4.length : Int)) = K + (o.f0.length : Int) + (o.f1.length : Int) + (o.f2.length : Int) + (o.f3.length : Int) + (o.f4.length : Int) by omega]; rfl, On5.out, J0.out, J1.out, J2.out, J3.out, J4.out, fun a b => D.out.d01 (by simpa [upSta] using a) (by simpa [upSta] using b), fun a b => D.out.d02 (by simpa [upSta] using a) (by simpa [upSta] using b), fun a b => D.out.d03 (by simpa [upSta] using a) (by simpa [upSta] using b), fun a b => D.out.d04 (by simpa [upSta] using a) (by simpa [upSta] using b), fun a b => D.out.d12 (by simpa [upSta] using a) (by simpa [upSta] using b), fun a b => D.out.d13 (by simpa [upSta] using a) (by simpa [upSta] using b), fun a b => D.out.d14 (by simpa [upSta] using a) (by simpa [upSta] using b), fun a b => D.out.d23 (by simpa [upSta] using a) (by simpa [upSta] using b), fun a b => D.out.d24 (by simpa [upSta] using a) (by simpa [upSta] using b), fun a b => D.out.d34 (by simpa [upSta] using a) (by simpa [upSta] using b)⟩
end Go.Proofs.Ytaghidaamcnpkab
