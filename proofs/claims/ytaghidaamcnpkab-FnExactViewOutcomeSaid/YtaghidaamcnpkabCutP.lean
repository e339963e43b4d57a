/-
  What the laws' statements with two results leave, a record in a box and a truth, whatever order they are carried out in.
-/
import Derived.Test.YtaghidaamcnpkabSt
import Derived.Test.YtaghidaamcnpkabOc
import Derived.Test.YtaghidaamcnpkabFrame
namespace Go.Proofs.Ytaghidaamcnpkab
open Go.RowKit Pl
set_option maxHeartbeats 1000000
set_option linter.unusedVariables false

theorem bk_drew {w : World} {g : Nat} {t : TypeId} {cs : Array Value} (h : Bk w g t cs) : Bk w.drew g t cs := h
/-- An answer lies in a box; the box lies apart. -/
def GotISta (w : World) (E : Sta) (r : Bool) (sa sb : Value) (wx : World) : Prop :=
  ∃ (b : Nat) (h : StaH) (lo hi : Nat), sa = .pointer (some ⟨b, 0, none⟩) ∧ sb = .bool r ∧ Below w.heap.size w wx ∧ Bk wx b 50 #[.slice h.A0 E.f0.length h.c0, .slice h.A1 E.f1.length h.c1, .slice h.A2 E.f2.length h.c2, .slice h.A3 E.f3.length h.c3, .slice h.A4 E.f4.length h.c4] ∧ StaI wx lo hi h E ∧ w.heap.size ≤ lo ∧ lo ≤ hi ∧ hi ≤ wx.heap.size ∧ w.heap.size ≤ b ∧ b < wx.heap.size ∧ (b < lo ∨ hi ≤ b)
/-- The box was made behind the answer. -/
theorem gotISta_late {w V w9 : World} {E : Sta} {r : Bool} {h : StaH} (h1 : Below w.heap.size w V) (h2 : Below V.heap.size V w9) (h3 : StaI w9 V.heap.size w9.heap.size h E) :
    GotISta w E r (.pointer (some ⟨w9.heap.size, 0, none⟩)) (.bool r) (w9.alloc (.cells #[.slice h.A0 E.f0.length h.c0, .slice h.A1 E.f1.length h.c1, .slice h.A2 E.f2.length h.c2, .slice h.A3 E.f3.length h.c3, .slice h.A4 E.f4.length h.c4] 50)) :=
  ⟨_, h, V.heap.size, w9.heap.size, rfl, rfl, (below_on h1 h2).alloc (below_on h1 h2).size _, Bk.new _ _ _, h3.below ((Below.refl _ _).alloc (Nat.le_refl _) _) (Nat.le_refl _), h1.size, h2.size, by simp, (below_on h1 h2).size, by simp, Or.inr (Nat.le_refl _)⟩
/-- The box was made ahead of the answer. -/
theorem gotISta_early {w V w9 : World} {E : Sta} {r : Bool} {h : StaH} {b : Nat} {v0 v1 v2 v3 v4 : Value} (h1 : Below w.heap.size w V) (hb : Bk V b 50 #[v0, v1, v2, v3, v4]) (hwb : w.heap.size ≤ b) (h2 : Below V.heap.size V w9) (h3 : StaI w9 V.heap.size w9.heap.size h E) :
    GotISta w E r (.pointer (some ⟨b, 0, none⟩)) (.bool r) (((((w9.setCell ⟨b, 0, none⟩ (.slice h.A0 E.f0.length h.c0)).setCell ⟨b, 1, none⟩ (.slice h.A1 E.f1.length h.c1)).setCell ⟨b, 2, none⟩ (.slice h.A2 E.f2.length h.c2)).setCell ⟨b, 3, none⟩ (.slice h.A3 E.f3.length h.c3)).setCell ⟨b, 4, none⟩ (.slice h.A4 E.f4.length h.c4)) := by
  have hbl := hb.lt
  have hz := h2.size
  have kF : Bk (((((w9.setCell ⟨b, 0, none⟩ (.slice h.A0 E.f0.length h.c0)).setCell ⟨b, 1, none⟩ (.slice h.A1 E.f1.length h.c1)).setCell ⟨b, 2, none⟩ (.slice h.A2 E.f2.length h.c2)).setCell ⟨b, 3, none⟩ (.slice h.A3 E.f3.length h.c3)).setCell ⟨b, 4, none⟩ (.slice h.A4 E.f4.length h.c4)) b 50 #[.slice h.A0 E.f0.length h.c0, .slice h.A1 E.f1.length h.c1, .slice h.A2 E.f2.length h.c2, .slice h.A3 E.f3.length h.c3, .slice h.A4 E.f4.length h.c4] := by
    have a0 := hb.below h2 hbl
    have a1 := a0.set 0 (.slice h.A0 E.f0.length h.c0)
    have a2 := a1.set 1 (.slice h.A1 E.f1.length h.c1)
    have a3 := a2.set 2 (.slice h.A2 E.f2.length h.c2)
    have a4 := a3.set 3 (.slice h.A3 E.f3.length h.c3)
    have a5 := a4.set 4 (.slice h.A4 E.f4.length h.c4)
    simpa using a5
  have zF : (((((w9.setCell ⟨b, 0, none⟩ (.slice h.A0 E.f0.length h.c0)).setCell ⟨b, 1, none⟩ (.slice h.A1 E.f1.length h.c1)).setCell ⟨b, 2, none⟩ (.slice h.A2 E.f2.length h.c2)).setCell ⟨b, 3, none⟩ (.slice h.A3 E.f3.length h.c3)).setCell ⟨b, 4, none⟩ (.slice h.A4 E.f4.length h.c4)).heap.size = w9.heap.size := by simp
  refine ⟨b, h, V.heap.size, w9.heap.size, rfl, rfl, ((((((below_on h1 h2).setCell (p := ⟨b, 0, none⟩) (show w.heap.size ≤ b from hwb) _).setCell (p := ⟨b, 1, none⟩) (show w.heap.size ≤ b from hwb) _).setCell (p := ⟨b, 2, none⟩) (show w.heap.size ≤ b from hwb) _).setCell (p := ⟨b, 3, none⟩) (show w.heap.size ≤ b from hwb) _).setCell (p := ⟨b, 4, none⟩) (show w.heap.size ≤ b from hwb) _), kF, ?_, h1.size, hz, Nat.le_of_eq zF.symm, hwb, by rw [zF]; omega, Or.inl hbl⟩
  exact h3.keep (Nat.le_refl _) (Nat.le_refl _) fun i h4 _ => ((Below.heap_setCell _ _ _ i (by show i ≠ b; omega)).trans ((Below.heap_setCell _ _ _ i (by show i ≠ b; omega)).trans ((Below.heap_setCell _ _ _ i (by show i ≠ b; omega)).trans ((Below.heap_setCell _ _ _ i (by show i ≠ b; omega)).trans (Below.heap_setCell _ _ _ i (by show i ≠ b; omega))))))
/-- An answer lies in a box; the box lies apart. -/
def GotOSta (w : World) (E : Sta) (r : Bool) (sa sb : Value) (wx : World) : Prop :=
  ∃ (b : Nat) (h : StaH) (lo hi : Nat), sa = .pointer (some ⟨b, 0, none⟩) ∧ sb = .bool r ∧ Below w.heap.size w wx ∧ Bk wx b 50 #[.slice h.A0 E.f0.length h.c0, .slice h.A1 E.f1.length h.c1, .slice h.A2 E.f2.length h.c2, .slice h.A3 E.f3.length h.c3, .slice h.A4 E.f4.length h.c4] ∧ StaO wx lo hi h E ∧ w.heap.size ≤ lo ∧ lo ≤ hi ∧ hi ≤ wx.heap.size ∧ w.heap.size ≤ b ∧ b < wx.heap.size ∧ (b < lo ∨ hi ≤ b)
/-- The box was made behind the answer. -/
theorem gotOSta_late {w V w9 : World} {E : Sta} {r : Bool} {h : StaH} (h1 : Below w.heap.size w V) (h2 : Below V.heap.size V w9) (h3 : StaO w9 V.heap.size w9.heap.size h E) :
    GotOSta w E r (.pointer (some ⟨w9.heap.size, 0, none⟩)) (.bool r) (w9.alloc (.cells #[.slice h.A0 E.f0.length h.c0, .slice h.A1 E.f1.length h.c1, .slice h.A2 E.f2.length h.c2, .slice h.A3 E.f3.length h.c3, .slice h.A4 E.f4.length h.c4] 50)) :=
  ⟨_, h, V.heap.size, w9.heap.size, rfl, rfl, (below_on h1 h2).alloc (below_on h1 h2).size _, Bk.new _ _ _, h3.below ((Below.refl _ _).alloc (Nat.le_refl _) _) (Nat.le_refl _), h1.size, h2.size, by simp, (below_on h1 h2).size, by simp, Or.inr (Nat.le_refl _)⟩
/-- The box was made ahead of the answer. -/
theorem gotOSta_early {w V w9 : World} {E : Sta} {r : Bool} {h : StaH} {b : Nat} {v0 v1 v2 v3 v4 : Value} (h1 : Below w.heap.size w V) (hb : Bk V b 50 #[v0, v1, v2, v3, v4]) (hwb : w.heap.size ≤ b) (h2 : Below V.heap.size V w9) (h3 : StaO w9 V.heap.size w9.heap.size h E) :
    GotOSta w E r (.pointer (some ⟨b, 0, none⟩)) (.bool r) (((((w9.setCell ⟨b, 0, none⟩ (.slice h.A0 E.f0.length h.c0)).setCell ⟨b, 1, none⟩ (.slice h.A1 E.f1.length h.c1)).setCell ⟨b, 2, none⟩ (.slice h.A2 E.f2.length h.c2)).setCell ⟨b, 3, none⟩ (.slice h.A3 E.f3.length h.c3)).setCell ⟨b, 4, none⟩ (.slice h.A4 E.f4.length h.c4)) := by
  have hbl := hb.lt
  have hz := h2.size
  have kF : Bk (((((w9.setCell ⟨b, 0, none⟩ (.slice h.A0 E.f0.length h.c0)).setCell ⟨b, 1, none⟩ (.slice h.A1 E.f1.length h.c1)).setCell ⟨b, 2, none⟩ (.slice h.A2 E.f2.length h.c2)).setCell ⟨b, 3, none⟩ (.slice h.A3 E.f3.length h.c3)).setCell ⟨b, 4, none⟩ (.slice h.A4 E.f4.length h.c4)) b 50 #[.slice h.A0 E.f0.length h.c0, .slice h.A1 E.f1.length h.c1, .slice h.A2 E.f2.length h.c2, .slice h.A3 E.f3.length h.c3, .slice h.A4 E.f4.length h.c4] := by
    have a0 := hb.below h2 hbl
    have a1 := a0.set 0 (.slice h.A0 E.f0.length h.c0)
    have a2 := a1.set 1 (.slice h.A1 E.f1.length h.c1)
    have a3 := a2.set 2 (.slice h.A2 E.f2.length h.c2)
    have a4 := a3.set 3 (.slice h.A3 E.f3.length h.c3)
    have a5 := a4.set 4 (.slice h.A4 E.f4.length h.c4)
    simpa using a5
  have zF : (((((w9.setCell ⟨b, 0, none⟩ (.slice h.A0 E.f0.length h.c0)).setCell ⟨b, 1, none⟩ (.slice h.A1 E.f1.length h.c1)).setCell ⟨b, 2, none⟩ (.slice h.A2 E.f2.length h.c2)).setCell ⟨b, 3, none⟩ (.slice h.A3 E.f3.length h.c3)).setCell ⟨b, 4, none⟩ (.slice h.A4 E.f4.length h.c4)).heap.size = w9.heap.size := by simp
  refine ⟨b, h, V.heap.size, w9.heap.size, rfl, rfl, ((((((below_on h1 h2).setCell (p := ⟨b, 0, none⟩) (show w.heap.size ≤ b from hwb) _).setCell (p := ⟨b, 1, none⟩) (show w.heap.size ≤ b from hwb) _).setCell (p := ⟨b, 2, none⟩) (show w.heap.size ≤ b from hwb) _).setCell (p := ⟨b, 3, none⟩) (show w.heap.size ≤ b from hwb) _).setCell (p := ⟨b, 4, none⟩) (show w.heap.size ≤ b from hwb) _), kF, ?_, h1.size, hz, Nat.le_of_eq zF.symm, hwb, by rw [zF]; omega, Or.inl hbl⟩
  exact h3.keep (Nat.le_refl _) (Nat.le_refl _) fun i h4 _ => ((Below.heap_setCell _ _ _ i (by show i ≠ b; omega)).trans ((Below.heap_setCell _ _ _ i (by show i ≠ b; omega)).trans ((Below.heap_setCell _ _ _ i (by show i ≠ b; omega)).trans ((Below.heap_setCell _ _ _ i (by show i ≠ b; omega)).trans (Below.heap_setCell _ _ _ i (by show i ≠ b; omega))))))
/-- An answer lies in a box; the box lies apart. -/
def GotIOc (w : World) (E : Oc) (r : Bool) (sa sb : Value) (wx : World) : Prop :=
  ∃ (b : Nat) (h : OcH) (lo hi : Nat), sa = .pointer (some ⟨b, 0, none⟩) ∧ sb = .bool r ∧ Below w.heap.size w wx ∧ Bk wx b 60 #[.slice h.A0 E.f0.length h.c0, .slice h.A1 E.f1.length h.c1, .slice h.A2 E.f2.length h.c2] ∧ OcI wx lo hi h E ∧ w.heap.size ≤ lo ∧ lo ≤ hi ∧ hi ≤ wx.heap.size ∧ w.heap.size ≤ b ∧ b < wx.heap.size ∧ (b < lo ∨ hi ≤ b)
/-- The box was made behind the answer. -/
theorem gotIOc_late {w V w9 : World} {E : Oc} {r : Bool} {h : OcH} (h1 : Below w.heap.size w V) (h2 : Below V.heap.size V w9) (h3 : OcI w9 V.heap.size w9.heap.size h E) :
    GotIOc w E r (.pointer (some ⟨w9.heap.size, 0, none⟩)) (.bool r) (w9.alloc (.cells #[.slice h.A0 E.f0.length h.c0, .slice h.A1 E.f1.length h.c1, .slice h.A2 E.f2.length h.c2] 60)) :=
  ⟨_, h, V.heap.size, w9.heap.size, rfl, rfl, (below_on h1 h2).alloc (below_on h1 h2).size _, Bk.new _ _ _, h3.below ((Below.refl _ _).alloc (Nat.le_refl _) _) (Nat.le_refl _), h1.size, h2.size, by simp, (below_on h1 h2).size, by simp, Or.inr (Nat.le_refl _)⟩
/-- The box was made ahead of the answer. -/
theorem gotIOc_early {w V w9 : World} {E : Oc} {r : Bool} {h : OcH} {b : Nat} {v0 v1 v2 : Value} (h1 : Below w.heap.size w V) (hb : Bk V b 60 #[v0, v1, v2]) (hwb : w.heap.size ≤ b) (h2 : Below V.heap.size V w9) (h3 : OcI w9 V.heap.size w9.heap.size h E) :
    GotIOc w E r (.pointer (some ⟨b, 0, none⟩)) (.bool r) (((w9.setCell ⟨b, 0, none⟩ (.slice h.A0 E.f0.length h.c0)).setCell ⟨b, 1, none⟩ (.slice h.A1 E.f1.length h.c1)).setCell ⟨b, 2, none⟩ (.slice h.A2 E.f2.length h.c2)) := by
  have hbl := hb.lt
  have hz := h2.size
  have kF : Bk (((w9.setCell ⟨b, 0, none⟩ (.slice h.A0 E.f0.length h.c0)).setCell ⟨b, 1, none⟩ (.slice h.A1 E.f1.length h.c1)).setCell ⟨b, 2, none⟩ (.slice h.A2 E.f2.length h.c2)) b 60 #[.slice h.A0 E.f0.length h.c0, .slice h.A1 E.f1.length h.c1, .slice h.A2 E.f2.length h.c2] := by
    have a0 := hb.below h2 hbl
    have a1 := a0.set 0 (.slice h.A0 E.f0.length h.c0)
    have a2 := a1.set 1 (.slice h.A1 E.f1.length h.c1)
    have a3 := a2.set 2 (.slice h.A2 E.f2.length h.c2)
    simpa using a3
  have zF : (((w9.setCell ⟨b, 0, none⟩ (.slice h.A0 E.f0.length h.c0)).setCell ⟨b, 1, none⟩ (.slice h.A1 E.f1.length h.c1)).setCell ⟨b, 2, none⟩ (.slice h.A2 E.f2.length h.c2)).heap.size = w9.heap.size := by simp
  refine ⟨b, h, V.heap.size, w9.heap.size, rfl, rfl, ((((below_on h1 h2).setCell (p := ⟨b, 0, none⟩) (show w.heap.size ≤ b from hwb) _).setCell (p := ⟨b, 1, none⟩) (show w.heap.size ≤ b from hwb) _).setCell (p := ⟨b, 2, none⟩) (show w.heap.size ≤ b from hwb) _), kF, ?_, h1.size, hz, Nat.le_of_eq zF.symm, hwb, by rw [zF]; omega, Or.inl hbl⟩
  exact h3.keep (Nat.le_refl _) (Nat.le_refl _) fun i h4 _ => ((Below.heap_setCell _ _ _ i (by show i ≠ b; omega)).trans ((Below.heap_setCell _ _ _ i (by show i ≠ b; omega)).trans (Below.heap_setCell _ _ _ i (by show i ≠ b; omega))))
/-- An answer lies in a box; the box lies apart. -/
def GotOOc (w : World) (E : Oc) (r : Bool) (sa sb : Value) (wx : World) : Prop :=
  ∃ (b : Nat) (h : OcH) (lo hi : Nat), sa = .pointer (some ⟨b, 0, none⟩) ∧ sb = .bool r ∧ Below w.heap.size w wx ∧ Bk wx b 60 #[.slice h.A0 E.f0.length h.c0, .slice h.A1 E.f1.length h.c1, .slice h.A2 E.f2.length h.c2] ∧ OcO wx lo hi h E ∧ w.heap.size ≤ lo ∧ lo ≤ hi ∧ hi ≤ wx.heap.size ∧ w.heap.size ≤ b ∧ b < wx.heap.size ∧ (b < lo ∨ hi ≤ b)
/-- The box was made behind the answer. -/
theorem gotOOc_late {w V w9 : World} {E : Oc} {r : Bool} {h : OcH} (h1 : Below w.heap.size w V) (h2 : Below V.heap.size V w9) (h3 : OcO w9 V.heap.size w9.heap.size h E) :
    GotOOc w E r (.pointer (some ⟨w9.heap.size, 0, none⟩)) (.bool r) (w9.alloc (.cells #[.slice h.A0 E.f0.length h.c0, .slice h.A1 E.f1.length h.c1, .slice h.A2 E.f2.length h.c2] 60)) :=
  ⟨_, h, V.heap.size, w9.heap.size, rfl, rfl, (below_on h1 h2).alloc (below_on h1 h2).size _, Bk.new _ _ _, h3.below ((Below.refl _ _).alloc (Nat.le_refl _) _) (Nat.le_refl _), h1.size, h2.size, by simp, (below_on h1 h2).size, by simp, Or.inr (Nat.le_refl _)⟩
/-- The box was made ahead of the answer. -/
theorem gotOOc_early {w V w9 : World} {E : Oc} {r : Bool} {h : OcH} {b : Nat} {v0 v1 v2 : Value} (h1 : Below w.heap.size w V) (hb : Bk V b 60 #[v0, v1, v2]) (hwb : w.heap.size ≤ b) (h2 : Below V.heap.size V w9) (h3 : OcO w9 V.heap.size w9.heap.size h E) :
    GotOOc w E r (.pointer (some ⟨b, 0, none⟩)) (.bool r) (((w9.setCell ⟨b, 0, none⟩ (.slice h.A0 E.f0.length h.c0)).setCell ⟨b, 1, none⟩ (.slice h.A1 E.f1.length h.c1)).setCell ⟨b, 2, none⟩ (.slice h.A2 E.f2.length h.c2)) := by
  have hbl := hb.lt
  have hz := h2.size
  have kF : Bk (((w9.setCell ⟨b, 0, none⟩ (.slice h.A0 E.f0.length h.c0)).setCell ⟨b, 1, none⟩ (.slice h.A1 E.f1.length h.c1)).setCell ⟨b, 2, none⟩ (.slice h.A2 E.f2.length h.c2)) b 60 #[.slice h.A0 E.f0.length h.c0, .slice h.A1 E.f1.length h.c1, .slice h.A2 E.f2.length h.c2] := by
    have a0 := hb.below h2 hbl
    have a1 := a0.set 0 (.slice h.A0 E.f0.length h.c0)
    have a2 := a1.set 1 (.slice h.A1 E.f1.length h.c1)
    have a3 := a2.set 2 (.slice h.A2 E.f2.length h.c2)
    simpa using a3
  have zF : (((w9.setCell ⟨b, 0, none⟩ (.slice h.A0 E.f0.length h.c0)).setCell ⟨b, 1, none⟩ (.slice h.A1 E.f1.length h.c1)).setCell ⟨b, 2, none⟩ (.slice h.A2 E.f2.length h.c2)).heap.size = w9.heap.size := by simp
  refine ⟨b, h, V.heap.size, w9.heap.size, rfl, rfl, ((((below_on h1 h2).setCell (p := ⟨b, 0, none⟩) (show w.heap.size ≤ b from hwb) _).setCell (p := ⟨b, 1, none⟩) (show w.heap.size ≤ b from hwb) _).setCell (p := ⟨b, 2, none⟩) (show w.heap.size ≤ b from hwb) _), kF, ?_, h1.size, hz, Nat.le_of_eq zF.symm, hwb, by rw [zF]; omega, Or.inl hbl⟩
  exact h3.keep (Nat.le_refl _) (Nat.le_refl _) fun i h4 _ => ((Below.heap_setCell _ _ _ i (by show i ≠ b; omega)).trans ((Below.heap_setCell _ _ _ i (by show i ≠ b; omega)).trans (Below.heap_setCell _ _ _ i (by show i ≠ b; omega))))
end Go.Proofs.Ytaghidaamcnpkab
