/-
  Plain facts on the word of an outcome.
-/
import Derived.Test.YtbddmicgfhljeaaSt
import Derived.Test.YtbddmicgfhljeaaOc
import Derived.Test.YtbddmicgfhljeaaFrame
import Derived.Test.YtbddmicgfhljeaaDoZ
namespace Go.Proofs.Ytbddmicgfhljeaa
open Go.RowKit Pl
set_option maxHeartbeats 1000000
set_option linter.unusedVariables false

theorem bk_drew {w : World} {g : Nat} {t : TypeId} {cs : Array Value} (h : Bk w g t cs) : Bk w.drew g t cs := h
/-- An answer lies in a box; the box lies apart. -/
def GotISta (w : World) (E : Sta) (r : Bool) (sa sb : Value) (wx : World) : Prop :=
  ∃ (b : Nat) (h : StaH) (lo hi : Nat), sa = .pointer (some ⟨b, 0, none⟩) ∧ sb = .bool r ∧ Below w.heap.size w wx ∧ Bk wx b 84 #[.slice h.A0 E.f0.length h.c0, .slice h.A1 E.f1.length h.c1, .slice h.A2 E.f2.length h.c2, .slice h.A3 E.f3.length h.c3, .slice h.A4 E.f4.length h.c4] ∧ StaI wx lo hi h E ∧ w.heap.size ≤ lo ∧ lo ≤ hi ∧ hi ≤ wx.heap.size ∧ w.heap.size ≤ b ∧ b < wx.heap.size ∧ (b < lo ∨ hi ≤ b)
/-- The box was made behind the answer. -/
theorem gotISta_late {w V w9 : World} {E : Sta} {r : Bool} {h : StaH} (h1 : Below w.heap.size w V) (h2 : Below V.heap.size V w9) (h3 : StaI w9 V.heap.size w9.heap.size h E) :
    GotISta w E r (.pointer (some ⟨w9.heap.size, 0, none⟩)) (.bool r) (w9.alloc (.cells #[.slice h.A0 E.f0.length h.c0, .slice h.A1 E.f1.length h.c1, .slice h.A2 E.f2.length h.c2, .slice h.A3 E.f3.length h.c3, .slice h.A4 E.f4.length h.c4] 84)) :=
  ⟨_, h, V.heap.size, w9.heap.size, rfl, rfl, (below_on h1 h2).alloc (below_on h1 h2).size _, Bk.new _ _ _, h3.below ((Below.refl _ _).alloc (Nat.le_refl _) _) (Nat.le_refl _), h1.size, h2.size, by simp, (below_on h1 h2).size, by simp, Or.inr (Nat.le_refl _)⟩
/-- The box was made ahead of the answer. -/
theorem gotISta_early {w V w9 : World} {E : Sta} {r : Bool} {h : StaH} {b : Nat} {v0 v1 v2 v3 v4 : Value} (h1 : Below w.heap.size w V) (hb : Bk V b 84 #[v0, v1, v2, v3, v4]) (hwb : w.heap.size ≤ b) (h2 : Below V.heap.size V w9) (h3 : StaI w9 V.heap.size w9.heap.size h E) :
    GotISta w E r (.pointer (some ⟨b, 0, none⟩)) (.bool r) (((((w9.setCell ⟨b, 0, none⟩ (.slice h.A0 E.f0.length h.c0)).setCell ⟨b, 1, none⟩ (.slice h.A1 E.f1.length h.c1)).setCell ⟨b, 2, none⟩ (.slice h.A2 E.f2.length h.c2)).setCell ⟨b, 3, none⟩ (.slice h.A3 E.f3.length h.c3)).setCell ⟨b, 4, none⟩ (.slice h.A4 E.f4.length h.c4)) := by
  have hbl := hb.lt
  have hz := h2.size
  have kF : Bk (((((w9.setCell ⟨b, 0, none⟩ (.slice h.A0 E.f0.length h.c0)).setCell ⟨b, 1, none⟩ (.slice h.A1 E.f1.length h.c1)).setCell ⟨b, 2, none⟩ (.slice h.A2 E.f2.length h.c2)).setCell ⟨b, 3, none⟩ (.slice h.A3 E.f3.length h.c3)).setCell ⟨b, 4, none⟩ (.slice h.A4 E.f4.length h.c4)) b 84 #[.slice h.A0 E.f0.length h.c0, .slice h.A1 E.f1.length h.c1, .slice h.A2 E.f2.length h.c2, .slice h.A3 E.f3.length h.c3, .slice h.A4 E.f4.length h.c4] := by
    have a0 := hb.below h2 hbl
    have a1 := a0.set 0 (.slice h.A0 E.f0.length h.c0)
    have a2 := a1.set 1 (.slice h.A1 E.f1.length h.c1)
    have a3 := a2.set 2 (.slice h.A2 E.f2.length h.c2)
    have a4 := a3.set 3 (.slice h.A3 E.f3.length h.c3)
    have a5 := a4.set 4 (.slice h.A4 E.f4.length h.c4)
    simpa using a5
  have zF : (((((w9.setCell ⟨b, 0, none⟩ (.slice h.A0 E.f0.length h.c0)).setCell ⟨b, 1, none⟩ (.slice h.A1 E.f1.length h.c1)).setCell ⟨b, 2, none⟩ (.slice h.A2 E.f2.length h.c2)).setCell ⟨b, 3, none⟩ (.slice h.A3 E.f3.length h.c3)).setCell ⟨b, 4, none⟩ (.slice h.A4 E.f4.length h.c4)).heap.size = w9.heap.size := by simp
  refine ⟨b, h, V.heap.size, w9.heap.size, rfl, rfl, ((((((below_on h1 h2).setCell (p := ⟨b, 0, none⟩) (show w.heap.size ≤ b from hwb) _).setCell (p := ⟨b, 1, none⟩) (show w.heap.size ≤ b from hwb) _).setCell (p := ⟨b, 2, none⟩) (show w.heap.size ≤ b from hwb) _).setCell (p := ⟨b, 3, none⟩) (show w.heap.size ≤ b from hwb) _).setCell (p := ⟨b, 4, none⟩) (show w.heap.size ≤ b from hwb) _), kF, ?_, h1.size, hz, Nat.le_of_eq zF.symm, hwb, by rw [zF]; omega, Or.inl hbl⟩
  exact h3.keep (Nat.le_refl _) (Nat.le_refl _) fun i h4 _ => ((Below.heap_setCell _ _ _ i (by show i ≠ b; omega)).trans ((Below.heap_setCell _ _ _ i (by show i ≠ b; omega)).trans ((Below.heap_setCell _ _ _ i (by show i ≠ b; omega)).trans ((Below.heap_setCell _ _ _ i (by show i ≠ b; omega)).trans (Below.heap_setCell _ _ _ i (by show i ≠ b; omega))))))
/-- An answer lies in a box; the box lies apart. -/
def GotOSta (w : World) (E : Sta) (r : Bool) (sa sb : Value) (wx : World) : Prop :=
  ∃ (b : Nat) (h : StaH) (lo hi : Nat), sa = .pointer (some ⟨b, 0, none⟩) ∧ sb = .bool r ∧ Below w.heap.size w wx ∧ Bk wx b 84 #[.slice h.A0 E.f0.length h.c0, .slice h.A1 E.f1.length h.c1, .slice h.A2 E.f2.length h.c2, .slice h.A3 E.f3.length h.c3, .slice h.A4 E.f4.length h.c4] ∧ StaO wx lo hi h E ∧ w.heap.size ≤ lo ∧ lo ≤ hi ∧ hi ≤ wx.heap.size ∧ w.heap.size ≤ b ∧ b < wx.heap.size ∧ (b < lo ∨ hi ≤ b)
/-- The box was made behind the answer. -/
theorem gotOSta_late {w V w9 : World} {E : Sta} {r : Bool} {h : StaH} (h1 : Below w.heap.size w V) (h2 : Below V.heap.size V w9) (h3 : StaO w9 V.heap.size w9.heap.size h E) :
    GotOSta w E r (.pointer (some ⟨w9.heap.size, 0, none⟩)) (.bool r) (w9.alloc (.cells #[.slice h.A0 E.f0.length h.c0, .slice h.A1 E.f1.length h.c1, .slice h.A2 E.f2.length h.c2, .slice h.A3 E.f3.length h.c3, .slice h.A4 E.f4.length h.c4] 84)) :=
  ⟨_, h, V.heap.size, w9.heap.size, rfl, rfl, (below_on h1 h2).alloc (below_on h1 h2).size _, Bk.new _ _ _, h3.below ((Below.refl _ _).alloc (Nat.le_refl _) _) (Nat.le_refl _), h1.size, h2.size, by simp, (below_on h1 h2).size, by simp, Or.inr (Nat.le_refl _)⟩
/-- The box was made ahead of the answer. -/
theorem gotOSta_early {w V w9 : World} {E : Sta} {r : Bool} {h : StaH} {b : Nat} {v0 v1 v2 v3 v4 : Value} (h1 : Below w.heap.size w V) (hb : Bk V b 84 #[v0, v1, v2, v3, v4]) (hwb : w.heap.size ≤ b) (h2 : Below V.heap.size V w9) (h3 : StaO w9 V.heap.size w9.heap.size h E) :
    GotOSta w E r (.pointer (some ⟨b, 0, none⟩)) (.bool r) (((((w9.setCell ⟨b, 0, none⟩ (.slice h.A0 E.f0.length h.c0)).setCell ⟨b, 1, none⟩ (.slice h.A1 E.f1.length h.c1)).setCell ⟨b, 2, none⟩ (.slice h.A2 E.f2.length h.c2)).setCell ⟨b, 3, none⟩ (.slice h.A3 E.f3.length h.c3)).setCell ⟨b, 4, none⟩ (.slice h.A4 E.f4.length h.c4)) := by
  have hbl := hb.lt
  have hz := h2.size
  have kF : Bk (((((w9.setCell ⟨b, 0, none⟩ (.slice h.A0 E.f0.length h.c0)).setCell ⟨b, 1, none⟩ (.slice h.A1 E.f1.length h.c1)).setCell ⟨b, 2, none⟩ (.slice h.A2 E.f2.length h.c2)).setCell ⟨b, 3, none⟩ (.slice h.A3 E.f3.length h.c3)).setCell ⟨b, 4, none⟩ (.slice h.A4 E.f4.length h.c4)) b 84 #[.slice h.A0 E.f0.length h.c0, .slice h.A1 E.f1.length h.c1, .slice h.A2 E.f2.length h.c2, .slice h.A3 E.f3.length h.c3, .slice h.A4 E.f4.length h.c4] := by
    have a0 := hb.below h2 hbl
    have a1 := a0.set 0 (.slice h.A0 E.f0.length h.c0)
    have a2 := a1.set 1 (.slice h.A1 E.f1.length h.c1)
    have a3 := a2.set 2 (.slice h.A2 E.f2.length h.c2)
    have a4 := a3.set 3 (.slice h.A3 E.f3.length h.c3)
    have a5 := a4.set 4 (.slice h.A4 E.f4.length h.c4)
    simpa using a5
  have zF : (((((w9.setCell ⟨b, 0, none⟩ (.slice h.A0 E.f0.length h.c0)).setCell ⟨b, 1, none⟩ (.slice h.A1 E.f1.length h.c1)).setCell ⟨b, 2, none⟩ (.slice h.A2 E.f2.length h.c2)).setCell ⟨b, 3, none⟩ (.slice h.A3 E.f3.length h.c3)).setCell ⟨b, 4, none⟩ (.slice h.A4 E.f4.length h.c4)).heap.size = w9.heap.size := by simp
  refine ⟨b, h, V.heap.size, w9.heap.size, rfl, rfl, ((((((below_on h1 h2).setCell (p := ⟨b, 0, none⟩) (show w.heap.size ≤ b from hwb) _).setCell (p := ⟨b, 1, none⟩) (show w.heap.size ≤ b from hwb) _).setCell (p := ⟨b, 2, none⟩) (show w.heap.size ≤ b from hwb) _).setCell (p := ⟨b, 3, none⟩) (show w.heap.size ≤ b from hwb) _).setCell (p := ⟨b, 4, none⟩) (show w.heap.size ≤ b from hwb) _), kF, ?_, h1.size, hz, Nat.le_of_eq zF.symm, hwb, by rw [zF]; omega, Or.inl hbl⟩
  exact h3.keep (Nat.le_refl _) (Nat.le_refl _) fun i h4 _ => ((Below.heap_setCell _ _ _ i (by show i ≠ b; omega)).trans ((Below.heap_setCell _ _ _ i (by show i ≠ b; omega)).trans ((Below.heap_setCell _ _ _ i (by show i ≠ b; omega)).trans ((Below.heap_setCell _ _ _ i (by show i ≠ b; omega)).trans (Below.heap_setCell _ _ _ i (by show i ≠ b; omega))))))
/-- An answer lies in a box; the box lies apart. -/
def GotIOc (w : World) (E : Oc) (r : Bool) (sa sb : Value) (wx : World) : Prop :=
  ∃ (b : Nat) (h : OcH) (lo hi : Nat), sa = .pointer (some ⟨b, 0, none⟩) ∧ sb = .bool r ∧ Below w.heap.size w wx ∧ Bk wx b 90 #[.slice h.A0 E.f0.length h.c0, .slice h.A1 E.f1.length h.c1, .slice h.A2 E.f2.length h.c2] ∧ OcI wx lo hi h E ∧ w.heap.size ≤ lo ∧ lo ≤ hi ∧ hi ≤ wx.heap.size ∧ w.heap.size ≤ b ∧ b < wx.heap.size ∧ (b < lo ∨ hi ≤ b)
/-- The box was made behind the answer. -/
theorem gotIOc_late {w V w9 : World} {E : Oc} {r : Bool} {h : OcH} (h1 : Below w.heap.size w V) (h2 : Below V.heap.size V w9) (h3 : OcI w9 V.heap.size w9.heap.size h E) :
    GotIOc w E r (.pointer (some ⟨w9.heap.size, 0, none⟩)) (.bool r) (w9.alloc (.cells #[.slice h.A0 E.f0.length h.c0, .slice h.A1 E.f1.length h.c1, .slice h.A2 E.f2.length h.c2] 90)) :=
  ⟨_, h, V.heap.size, w9.heap.size, rfl, rfl, (below_on h1 h2).alloc (below_on h1 h2).size _, Bk.new _ _ _, h3.below ((Below.refl _ _).alloc (Nat.le_refl _) _) (Nat.le_refl _), h1.size, h2.size, by simp, (below_on h1 h2).size, by simp, Or.inr (Nat.le_refl _)⟩
/-- The box was made ahead of the answer. -/
theorem gotIOc_early {w V w9 : World} {E : Oc} {r : Bool} {h : OcH} {b : Nat} {v0 v1 v2 : Value} (h1 : Below w.heap.size w V) (hb : Bk V b 90 #[v0, v1, v2]) (hwb : w.heap.size ≤ b) (h2 : Below V.heap.size V w9) (h3 : OcI w9 V.heap.size w9.heap.size h E) :
    GotIOc w E r (.pointer (some ⟨b, 0, none⟩)) (.bool r) (((w9.setCell ⟨b, 0, none⟩ (.slice h.A0 E.f0.length h.c0)).setCell ⟨b, 1, none⟩ (.slice h.A1 E.f1.length h.c1)).setCell ⟨b, 2, none⟩ (.slice h.A2 E.f2.length h.c2)) := by
  have hbl := hb.lt
  have hz := h2.size
  have kF : Bk (((w9.setCell ⟨b, 0, none⟩ (.slice h.A0 E.f0.length h.c0)).setCell ⟨b, 1, none⟩ (.slice h.A1 E.f1.length h.c1)).setCell ⟨b, 2, none⟩ (.slice h.A2 E.f2.length h.c2)) b 90 #[.slice h.A0 E.f0.length h.c0, .slice h.A1 E.f1.length h.c1, .slice h.A2 E.f2.length h.c2] := by
    have a0 := hb.below h2 hbl
    have a1 := a0.set 0 (.slice h.A0 E.f0.length h.c0)
    have a2 := a1.set 1 (.slice h.A1 E.f1.length h.c1)
    have a3 := a2.set 2 (.slice h.A2 E.f2.length h.c2)
    simpa using a3
  have zF : (((w9.setCell ⟨b, 0, none⟩ (.slice h.A0 E.f0.length h.c0)).setCell ⟨b, 1, none⟩ (.slice h.A1 E.f1.length h.c1)).setCell ⟨b, 2, none⟩ (.slice h.A2 E.f2.length h.c2)).heap.size = w9.heap.size := by simp
  refine ⟨b, h, V.heap.size, w9.heap.size, rfl, rfl, ((((below_on h1 h2).setCell (p := ⟨b, 0, none⟩) (show w.heap.size ≤ b from hwb) _).setCell (p := ⟨b, 1, none⟩) (show w.heap.size ≤ b from hwb) _).setCell (p := ⟨b, 2, none⟩) (show w.heap.size ≤ b from hwb) _), kF, ?_, h1.size, hz, Nat.le_of_eq zF.symm, hwb, by rw [zF]; omega, Or.inl hbl⟩
  exact h3.keep (Nat.le_refl _) (Nat.le_refl _) fun i h4 _ => ((Below.heap_setCell _ _ _ i (by show i ≠ b; omega)).trans ((Below.heap_setCell _ _ _ i (by show i ≠ b; omega)).trans (Below.heap_setCell _ _ _ i (by show i ≠ b; omega))))
/-- An answer lies in a box; the box lies apart. -/
def GotOOc (w : World) (E : Oc) (r : Bool) (sa sb : Value) (wx : World) : Prop :=
  ∃ (b : Nat) (h : OcH) (lo hi : Nat), sa = .pointer (some ⟨b, 0, none⟩) ∧ sb = .bool r ∧ Below w.heap.size w wx ∧ Bk wx b 90 #[.slice h.A0 E.f0.length h.c0, .slice h.A1 E.f1.length h.c1, .slice h.A2 E.f2.length h.c2] ∧ OcO wx lo hi h E ∧ w.heap.size ≤ lo ∧ lo ≤ hi ∧ hi ≤ wx.heap.size ∧ w.heap.size ≤ b ∧ b < wx.heap.size ∧ (b < lo ∨ hi ≤ b)
/-- The box was made behind the answer. -/
theorem gotOOc_late {w V w9 : World} {E : Oc} {r : Bool} {h : OcH} (h1 : Below w.heap.size w V) (h2 : Below V.heap.size V w9) (h3 : OcO w9 V.heap.size w9.heap.size h E) :
    GotOOc w E r (.pointer (some ⟨w9.heap.size, 0, none⟩)) (.bool r) (w9.alloc (.cells #[.slice h.A0 E.f0.length h.c0, .slice h.A1 E.f1.length h.c1, .slice h.A2 E.f2.length h.c2] 90)) :=
  ⟨_, h, V.heap.size, w9.heap.size, rfl, rfl, (below_on h1 h2).alloc (below_on h1 h2).size _, Bk.new _ _ _, h3.below ((Below.refl _ _).alloc (Nat.le_refl _) _) (Nat.le_refl _), h1.size, h2.size, by simp, (below_on h1 h2).size, by simp, Or.inr (Nat.le_refl _)⟩
/-- The box was made ahead of the answer. -/
theorem gotOOc_early {w V w9 : World} {E : Oc} {r : Bool} {h : OcH} {b : Nat} {v0 v1 v2 : Value} (h1 : Below w.heap.size w V) (hb : Bk V b 90 #[v0, v1, v2]) (hwb : w.heap.size ≤ b) (h2 : Below V.heap.size V w9) (h3 : OcO w9 V.heap.size w9.heap.size h E) :
    GotOOc w E r (.pointer (some ⟨b, 0, none⟩)) (.bool r) (((w9.setCell ⟨b, 0, none⟩ (.slice h.A0 E.f0.length h.c0)).setCell ⟨b, 1, none⟩ (.slice h.A1 E.f1.length h.c1)).setCell ⟨b, 2, none⟩ (.slice h.A2 E.f2.length h.c2)) := by
  have hbl := hb.lt
  have hz := h2.size
  have kF : Bk (((w9.setCell ⟨b, 0, none⟩ (.slice h.A0 E.f0.length h.c0)).setCell ⟨b, 1, none⟩ (.slice h.A1 E.f1.length h.c1)).setCell ⟨b, 2, none⟩ (.slice h.A2 E.f2.length h.c2)) b 90 #[.slice h.A0 E.f0.length h.c0, .slice h.A1 E.f1.length h.c1, .slice h.A2 E.f2.length h.c2] := by
    have a0 := hb.below h2 hbl
    have a1 := a0.set 0 (.slice h.A0 E.f0.length h.c0)
    have a2 := a1.set 1 (.slice h.A1 E.f1.length h.c1)
    have a3 := a2.set 2 (.slice h.A2 E.f2.length h.c2)
    simpa using a3
  have zF : (((w9.setCell ⟨b, 0, none⟩ (.slice h.A0 E.f0.length h.c0)).setCell ⟨b, 1, none⟩ (.slice h.A1 E.f1.length h.c1)).setCell ⟨b, 2, none⟩ (.slice h.A2 E.f2.length h.c2)).heap.size = w9.heap.size := by simp
  refine ⟨b, h, V.heap.size, w9.heap.size, rfl, rfl, ((((below_on h1 h2).setCell (p := ⟨b, 0, none⟩) (show w.heap.size ≤ b from hwb) _).setCell (p := ⟨b, 1, none⟩) (show w.heap.size ≤ b from hwb) _).setCell (p := ⟨b, 2, none⟩) (show w.heap.size ≤ b from hwb) _), kF, ?_, h1.size, hz, Nat.le_of_eq zF.symm, hwb, by rw [zF]; omega, Or.inl hbl⟩
  exact h3.keep (Nat.le_refl _) (Nat.le_refl _) fun i h4 _ => ((Below.heap_setCell _ _ _ i (by show i ≠ b; omega)).trans ((Below.heap_setCell _ _ _ i (by show i ≠ b; omega)).trans (Below.heap_setCell _ _ _ i (by show i ≠ b; omega))))
end Go.Proofs.Ytbddmicgfhljeaa
namespace Go.Proofs.Ytbddmicgfhljeaa
open Go.RowKit Pl
set_option maxHeartbeats 2000000
set_option maxRecDepth 100000
set_option linter.unusedVariables false

def regN (L : Pg) (f : Nat → Nat) : List Nat := (List.range (L.length * 3)).map fun i => f (6 + i)
def memN (f : Nat → Nat) : List Nat := (List.range 3).map fun i => f (15 + i)
def doneB (L : Pg) (f : Nat → Nat) (t : Nat) : Bool := f (3 + t) == (L.getD t []).length
/-- The word of an outcome, as far as k threads are told. -/
def outF (L : Pg) (f : Nat → Nat) (k : Nat) : Nat → Nat := fun p => if 13 ≤ p ∧ p < 13 + k then bitN (doneB L f (p - 13)) else updL (updL zeroF 0 (regN L f)) 9 (memN f) p
def ocF (L : Pg) (f : Nat → Nat) : Oc := ⟨fldI f 6 (fL 1) (L.length * 3), fldI f 15 (fL 2) 3, (List.range L.length).map (doneB L f)⟩
theorem regN_length (L : Pg) (f : Nat → Nat) : (regN L f).length = L.length * 3 := by simp [regN]
theorem memN_length (f : Nat → Nat) : (memN f).length = 3 := by simp [memN]
theorem zeroO_ok : okF WO zeroF := okF_of fun p hp => by unfold zeroF; exact Nat.two_pow_pos _
theorem zeroO_enc : enc WO zeroF = 0 := by decide
theorem regN_lt {L : Pg} {f : Nat → Nat} (h : okF WS f) (h3 : L.length ≤ 3) : ∀ v ∈ regN L f, v < 2 ^ fB 1 := fun v hv => by
  obtain ⟨i, hi, rfl⟩ := List.mem_map.1 hv
  exact fld_lt fld1 h (i := i) (by have := List.mem_range.1 hi; show i < 9; omega)
theorem memN_lt {f : Nat → Nat} (h : okF WS f) : ∀ v ∈ memN f, v < 2 ^ fB 2 := fun v hv => by
  obtain ⟨i, hi, rfl⟩ := List.mem_map.1 hv
  exact fld_lt fld2 h (i := i) (by have := List.mem_range.1 hi; show i < 3; omega)
theorem out0_ok {L : Pg} {f : Nat → Nat} (h : okF WS f) (h3 : L.length ≤ 3) : okF WO (updL zeroF 0 (regN L f)) :=
  okF_updL flo1 (regN L f) zeroF 0 zeroO_ok (by rw [regN_length]; show 0 + L.length * 3 ≤ 9; omega) (regN_lt h h3)
theorem out1_ok {L : Pg} {f : Nat → Nat} (h : okF WS f) (h3 : L.length ≤ 3) : okF WO (updL (updL zeroF 0 (regN L f)) 9 (memN f)) :=
  okF_updL flo2 (memN f) _ 0 (out0_ok h h3) (by rw [memN_length]; exact Nat.le_refl 3) (memN_lt h)
theorem outF_next (L : Pg) (f : Nat → Nat) (k : Nat) : upd (outF L f k) (13 + k) (bitN (doneB L f k)) = outF L f (k + 1) := by
  funext p
  unfold upd outF
  by_cases e : p = 13 + k
  · subst e
    rw [if_pos rfl, if_pos (by omega), show 13 + k - 13 = k by omega]
  · rw [if_neg e]
    by_cases h : 13 ≤ p ∧ p < 13 + k
    · rw [if_pos h, if_pos (by omega)]
    · rw [if_neg h, if_neg (by omega)]
theorem outF_zero (L : Pg) (f : Nat → Nat) : outF L f 0 = updL (updL zeroF 0 (regN L f)) 9 (memN f) := by
  funext p; unfold outF; rw [if_neg (by omega)]
theorem outF_ok {L : Pg} {f : Nat → Nat} (h : okF WS f) (h3 : L.length ≤ 3) : ∀ k, k ≤ 3 → okF WO (outF L f k)
  | 0, _ => by rw [outF_zero]; exact out1_ok h h3
  | k + 1, hk => by
    rw [← outF_next]
    exact okF_upd flo6 (outF_ok h h3 k (by omega)) (i := k) (show k < 3 by omega) (by show bitN _ < 2; exact bitN_lt _)
theorem regN_at {L : Pg} {f : Nat → Nat} {k v : Nat} (h : (regN L f)[k]? = some v) : (fldI f 6 (fL 1) (L.length * 3))[k]? = some ((v : Int) + fL 1) := by
  have hk : k < L.length * 3 := by have := (List.getElem?_eq_some_iff.1 h).1; rwa [regN_length] at this
  rw [fldI_at hk]
  simp [regN, hk] at h
  rw [← h]
theorem memN_at {f : Nat → Nat} {k v : Nat} (h : (memN f)[k]? = some v) : (fldI f 15 (fL 2) 3)[k]? = some ((v : Int) + fL 2) := by
  have hk : k < 3 := by have := (List.getElem?_eq_some_iff.1 h).1; rwa [memN_length] at this
  rw [fldI_at hk]
  simp [memN, hk] at h
  rw [← h]
/-- The outcome of the word of a state's outcome is the state's. -/
theorem out_regs (L : Pg) (f : Nat → Nat) (h3 : L.length ≤ 3) : fldI (outF L f L.length) 0 (fL 1) (L.length * 3) = fldI f 6 (fL 1) (L.length * 3) := by
  unfold fldI
  apply List.map_congr_left
  intro i hi
  have hi' := List.mem_range.1 hi
  have : outF L f L.length (0 + i) = f (6 + i) := by
    unfold outF
    rw [if_neg (by omega), updL_at, if_neg (by rw [memN_length]; omega), updL_at, if_pos (by rw [regN_length]; omega)]
    simp [regN, hi']
  rw [this]
theorem out_mem (L : Pg) (f : Nat → Nat) : fldI (outF L f L.length) 9 (fL 2) 3 = fldI f 15 (fL 2) 3 := by
  unfold fldI
  apply List.map_congr_left
  intro i hi
  have hi' := List.mem_range.1 hi
  have : outF L f L.length (9 + i) = f (15 + i) := by
    unfold outF
    rw [if_neg (by omega), updL_at, if_pos (by rw [memN_length]; omega)]
    simp [memN, hi']
  rw [this]
theorem out_done (L : Pg) (f : Nat → Nat) {t : Nat} (ht : t < L.length) : outF L f L.length (13 + t) = bitN (doneB L f t) := by
  unfold outF
  rw [if_pos (by omega), show 13 + t - 13 = t by omega]
end Go.Proofs.Ytbddmicgfhljeaa
