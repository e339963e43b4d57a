/-
  What the laws' statements with two results leave, a record in a box and a truth, whatever order they are carried out in.
-/
import Derived.Test.YtnadihepgmbhaaaGreatSpr
import Derived.Test.YtnadihepgmbhaaaGreatFrame
namespace Go.Proofs.YtnadihepgmbhaaaGreat
open Go.RowKit Pl
set_option maxHeartbeats 1000000
set_option linter.unusedVariables false

theorem bk_drew {w : World} {g : Nat} {t : TypeId} {cs : Array Value} (h : Bk w g t cs) : Bk w.drew g t cs := h
/-- An answer lies in a box; the box lies apart. -/
def GotIBuf (w : World) (E : Buf) (r : Bool) (sa sb : Value) (wx : World) : Prop :=
  ∃ (b : Nat) (h : BufH) (lo hi : Nat), sa = .pointer (some ⟨b, 0, none⟩) ∧ sb = .bool r ∧ Below w.heap.size w wx ∧ Bk wx b 50 #[.slice h.h.A0 E.st.f0.length h.h.c0, .slice h.h.A1 E.st.f1.length h.h.c1, .slice h.h.A2 E.st.f2.length h.h.c2, .slice h.h.A3 E.st.f3.length h.h.c3, .slice h.h.A4 E.st.f4.length h.h.c4, .slice h.k.A E.bs.length h.k.c] ∧ BufI wx lo hi h E ∧ w.heap.size ≤ lo ∧ lo ≤ hi ∧ hi ≤ wx.heap.size ∧ w.heap.size ≤ b ∧ b < wx.heap.size ∧ (b < lo ∨ hi ≤ b)
/-- The box was made behind the answer. -/
theorem gotIBuf_late {w V w9 : World} {E : Buf} {r : Bool} {h : BufH} (h1 : Below w.heap.size w V) (h2 : Below V.heap.size V w9) (h3 : BufI w9 V.heap.size w9.heap.size h E) :
    GotIBuf w E r (.pointer (some ⟨w9.heap.size, 0, none⟩)) (.bool r) (w9.alloc (.cells #[.slice h.h.A0 E.st.f0.length h.h.c0, .slice h.h.A1 E.st.f1.length h.h.c1, .slice h.h.A2 E.st.f2.length h.h.c2, .slice h.h.A3 E.st.f3.length h.h.c3, .slice h.h.A4 E.st.f4.length h.h.c4, .slice h.k.A E.bs.length h.k.c] 50)) :=
  ⟨_, h, V.heap.size, w9.heap.size, rfl, rfl, (below_on h1 h2).alloc (below_on h1 h2).size _, Bk.new _ _ _, h3.below ((Below.refl _ _).alloc (Nat.le_refl _) _) (Nat.le_refl _), h1.size, h2.size, by simp, (below_on h1 h2).size, by simp, Or.inr (Nat.le_refl _)⟩
/-- The box was made ahead of the answer. -/
theorem gotIBuf_early {w V w9 : World} {E : Buf} {r : Bool} {h : BufH} {b : Nat} {v0 v1 v2 v3 v4 v5 : Value} (h1 : Below w.heap.size w V) (hb : Bk V b 50 #[v0, v1, v2, v3, v4, v5]) (hwb : w.heap.size ≤ b) (h2 : Below V.heap.size V w9) (h3 : BufI w9 V.heap.size w9.heap.size h E) :
    GotIBuf w E r (.pointer (some ⟨b, 0, none⟩)) (.bool r) ((((((w9.setCell ⟨b, 0, none⟩ (.slice h.h.A0 E.st.f0.length h.h.c0)).setCell ⟨b, 1, none⟩ (.slice h.h.A1 E.st.f1.length h.h.c1)).setCell ⟨b, 2, none⟩ (.slice h.h.A2 E.st.f2.length h.h.c2)).setCell ⟨b, 3, none⟩ (.slice h.h.A3 E.st.f3.length h.h.c3)).setCell ⟨b, 4, none⟩ (.slice h.h.A4 E.st.f4.length h.h.c4)).setCell ⟨b, 5, none⟩ (.slice h.k.A E.bs.length h.k.c)) := by
  have hbl := hb.lt
  have hz := h2.size
  have kF : Bk ((((((w9.setCell ⟨b, 0, none⟩ (.slice h.h.A0 E.st.f0.length h.h.c0)).setCell ⟨b, 1, none⟩ (.slice h.h.A1 E.st.f1.length h.h.c1)).setCell ⟨b, 2, none⟩ (.slice h.h.A2 E.st.f2.length h.h.c2)).setCell ⟨b, 3, none⟩ (.slice h.h.A3 E.st.f3.length h.h.c3)).setCell ⟨b, 4, none⟩ (.slice h.h.A4 E.st.f4.length h.h.c4)).setCell ⟨b, 5, none⟩ (.slice h.k.A E.bs.length h.k.c)) b 50 #[.slice h.h.A0 E.st.f0.length h.h.c0, .slice h.h.A1 E.st.f1.length h.h.c1, .slice h.h.A2 E.st.f2.length h.h.c2, .slice h.h.A3 E.st.f3.length h.h.c3, .slice h.h.A4 E.st.f4.length h.h.c4, .slice h.k.A E.bs.length h.k.c] := by
    have a0 := hb.below h2 hbl
    have a1 := a0.set 0 (.slice h.h.A0 E.st.f0.length h.h.c0)
    have a2 := a1.set 1 (.slice h.h.A1 E.st.f1.length h.h.c1)
    have a3 := a2.set 2 (.slice h.h.A2 E.st.f2.length h.h.c2)
    have a4 := a3.set 3 (.slice h.h.A3 E.st.f3.length h.h.c3)
    have a5 := a4.set 4 (.slice h.h.A4 E.st.f4.length h.h.c4)
    have a6 := a5.set 5 (.slice h.k.A E.bs.length h.k.c)
    simpa using a6
  have zF : ((((((w9.setCell ⟨b, 0, none⟩ (.slice h.h.A0 E.st.f0.length h.h.c0)).setCell ⟨b, 1, none⟩ (.slice h.h.A1 E.st.f1.length h.h.c1)).setCell ⟨b, 2, none⟩ (.slice h.h.A2 E.st.f2.length h.h.c2)).setCell ⟨b, 3, none⟩ (.slice h.h.A3 E.st.f3.length h.h.c3)).setCell ⟨b, 4, none⟩ (.slice h.h.A4 E.st.f4.length h.h.c4)).setCell ⟨b, 5, none⟩ (.slice h.k.A E.bs.length h.k.c)).heap.size = w9.heap.size := by simp
  refine ⟨b, h, V.heap.size, w9.heap.size, rfl, rfl, (((((((below_on h1 h2).setCell (p := ⟨b, 0, none⟩) (show w.heap.size ≤ b from hwb) _).setCell (p := ⟨b, 1, none⟩) (show w.heap.size ≤ b from hwb) _).setCell (p := ⟨b, 2, none⟩) (show w.heap.size ≤ b from hwb) _).setCell (p := ⟨b, 3, none⟩) (show w.heap.size ≤ b from hwb) _).setCell (p := ⟨b, 4, none⟩) (show w.heap.size ≤ b from hwb) _).setCell (p := ⟨b, 5, none⟩) (show w.heap.size ≤ b from hwb) _), kF, ?_, h1.size, hz, Nat.le_of_eq zF.symm, hwb, by rw [zF]; omega, Or.inl hbl⟩
  exact h3.keep (Nat.le_refl _) (Nat.le_refl _) fun i h4 _ => ((Below.heap_setCell _ _ _ i (by show i ≠ b; omega)).trans ((Below.heap_setCell _ _ _ i (by show i ≠ b; omega)).trans ((Below.heap_setCell _ _ _ i (by show i ≠ b; omega)).trans ((Below.heap_setCell _ _ _ i (by show i ≠ b; omega)).trans ((Below.heap_setCell _ _ _ i (by show i ≠ b; omega)).trans (Below.heap_setCell _ _ _ i (by show i ≠ b; omega)))))))
/-- An answer lies in a box; the box lies apart. -/
def GotOBuf (w : World) (E : Buf) (r : Bool) (sa sb : Value) (wx : World) : Prop :=
  ∃ (b : Nat) (h : BufH) (lo hi : Nat), sa = .pointer (some ⟨b, 0, none⟩) ∧ sb = .bool r ∧ Below w.heap.size w wx ∧ Bk wx b 50 #[.slice h.h.A0 E.st.f0.length h.h.c0, .slice h.h.A1 E.st.f1.length h.h.c1, .slice h.h.A2 E.st.f2.length h.h.c2, .slice h.h.A3 E.st.f3.length h.h.c3, .slice h.h.A4 E.st.f4.length h.h.c4, .slice h.k.A E.bs.length h.k.c] ∧ BufO wx lo hi h E ∧ w.heap.size ≤ lo ∧ lo ≤ hi ∧ hi ≤ wx.heap.size ∧ w.heap.size ≤ b ∧ b < wx.heap.size ∧ (b < lo ∨ hi ≤ b)
/-- The box was made behind the answer. -/
theorem gotOBuf_late {w V w9 : World} {E : Buf} {r : Bool} {h : BufH} (h1 : Below w.heap.size w V) (h2 : Below V.heap.size V w9) (h3 : BufO w9 V.heap.size w9.heap.size h E) :
    GotOBuf w E r (.pointer (some ⟨w9.heap.size, 0, none⟩)) (.bool r) (w9.alloc (.cells #[.slice h.h.A0 E.st.f0.length h.h.c0, .slice h.h.A1 E.st.f1.length h.h.c1, .slice h.h.A2 E.st.f2.length h.h.c2, .slice h.h.A3 E.st.f3.length h.h.c3, .slice h.h.A4 E.st.f4.length h.h.c4, .slice h.k.A E.bs.length h.k.c] 50)) :=
  ⟨_, h, V.heap.size, w9.heap.size, rfl, rfl, (below_on h1 h2).alloc (below_on h1 h2).size _, Bk.new _ _ _, h3.below ((Below.refl _ _).alloc (Nat.le_refl _) _) (Nat.le_refl _), h1.size, h2.size, by simp, (below_on h1 h2).size, by simp, Or.inr (Nat.le_refl _)⟩
/-- The box was made ahead of the answer. -/
theorem gotOBuf_early {w V w9 : World} {E : Buf} {r : Bool} {h : BufH} {b : Nat} {v0 v1 v2 v3 v4 v5 : Value} (h1 : Below w.heap.size w V) (hb : Bk V b 50 #[v0, v1, v2, v3, v4, v5]) (hwb : w.heap.size ≤ b) (h2 : Below V.heap.size V w9) (h3 : BufO w9 V.heap.size w9.heap.size h E) :
    GotOBuf w E r (.pointer (some ⟨b, 0, none⟩)) (.bool r) ((((((w9.setCell ⟨b, 0, none⟩ (.slice h.h.A0 E.st.f0.length h.h.c0)).setCell ⟨b, 1, none⟩ (.slice h.h.A1 E.st.f1.length h.h.c1)).setCell ⟨b, 2, none⟩ (.slice h.h.A2 E.st.f2.length h.h.c2)).setCell ⟨b, 3, none⟩ (.slice h.h.A3 E.st.f3.length h.h.c3)).setCell ⟨b, 4, none⟩ (.slice h.h.A4 E.st.f4.length h.h.c4)).setCell ⟨b, 5, none⟩ (.slice h.k.A E.bs.length h.k.c)) := by
  have hbl := hb.lt
  have hz := h2.size
  have kF : Bk ((((((w9.setCell ⟨b, 0, none⟩ (.slice h.h.A0 E.st.f0.length h.h.c0)).setCell ⟨b, 1, none⟩ (.slice h.h.A1 E.st.f1.length h.h.c1)).setCell ⟨b, 2, none⟩ (.slice h.h.A2 E.st.f2.length h.h.c2)).setCell ⟨b, 3, none⟩ (.slice h.h.A3 E.st.f3.length h.h.c3)).setCell ⟨b, 4, none⟩ (.slice h.h.A4 E.st.f4.length h.h.c4)).setCell ⟨b, 5, none⟩ (.slice h.k.A E.bs.length h.k.c)) b 50 #[.slice h.h.A0 E.st.f0.length h.h.c0, .slice h.h.A1 E.st.f1.length h.h.c1, .slice h.h.A2 E.st.f2.length h.h.c2, .slice h.h.A3 E.st.f3.length h.h.c3, .slice h.h.A4 E.st.f4.length h.h.c4, .slice h.k.A E.bs.length h.k.c] := by
    have a0 := hb.below h2 hbl
    have a1 := a0.set 0 (.slice h.h.A0 E.st.f0.length h.h.c0)
    have a2 := a1.set 1 (.slice h.h.A1 E.st.f1.length h.h.c1)
    have a3 := a2.set 2 (.slice h.h.A2 E.st.f2.length h.h.c2)
    have a4 := a3.set 3 (.slice h.h.A3 E.st.f3.length h.h.c3)
    have a5 := a4.set 4 (.slice h.h.A4 E.st.f4.length h.h.c4)
    have a6 := a5.set 5 (.slice h.k.A E.bs.length h.k.c)
    simpa using a6
  have zF : ((((((w9.setCell ⟨b, 0, none⟩ (.slice h.h.A0 E.st.f0.length h.h.c0)).setCell ⟨b, 1, none⟩ (.slice h.h.A1 E.st.f1.length h.h.c1)).setCell ⟨b, 2, none⟩ (.slice h.h.A2 E.st.f2.length h.h.c2)).setCell ⟨b, 3, none⟩ (.slice h.h.A3 E.st.f3.length h.h.c3)).setCell ⟨b, 4, none⟩ (.slice h.h.A4 E.st.f4.length h.h.c4)).setCell ⟨b, 5, none⟩ (.slice h.k.A E.bs.length h.k.c)).heap.size = w9.heap.size := by simp
  refine ⟨b, h, V.heap.size, w9.heap.size, rfl, rfl, (((((((below_on h1 h2).setCell (p := ⟨b, 0, none⟩) (show w.heap.size ≤ b from hwb) _).setCell (p := ⟨b, 1, none⟩) (show w.heap.size ≤ b from hwb) _).setCell (p := ⟨b, 2, none⟩) (show w.heap.size ≤ b from hwb) _).setCell (p := ⟨b, 3, none⟩) (show w.heap.size ≤ b from hwb) _).setCell (p := ⟨b, 4, none⟩) (show w.heap.size ≤ b from hwb) _).setCell (p := ⟨b, 5, none⟩) (show w.heap.size ≤ b from hwb) _), kF, ?_, h1.size, hz, Nat.le_of_eq zF.symm, hwb, by rw [zF]; omega, Or.inl hbl⟩
  exact h3.keep (Nat.le_refl _) (Nat.le_refl _) fun i h4 _ => ((Below.heap_setCell _ _ _ i (by show i ≠ b; omega)).trans ((Below.heap_setCell _ _ _ i (by show i ≠ b; omega)).trans ((Below.heap_setCell _ _ _ i (by show i ≠ b; omega)).trans ((Below.heap_setCell _ _ _ i (by show i ≠ b; omega)).trans ((Below.heap_setCell _ _ _ i (by show i ≠ b; omega)).trans (Below.heap_setCell _ _ _ i (by show i ≠ b; omega)))))))
/-- An answer lies in a box; the box lies apart. -/
def GotISpr (w : World) (E : Spr) (r : Bool) (sa sb : Value) (wx : World) : Prop :=
  ∃ (b : Nat) (h : SprH) (lo hi : Nat), sa = .pointer (some ⟨b, 0, none⟩) ∧ sb = .bool r ∧ Below w.heap.size w wx ∧ Bk wx b 35 #[.slice h.h.A0 E.st.f0.length h.h.c0, .slice h.h.A1 E.st.f1.length h.h.c1, .slice h.h.A2 E.st.f2.length h.h.c2, .slice h.h.A3 E.st.f3.length h.h.c3, .slice h.h.A4 E.st.f4.length h.h.c4, .slice h.k.A E.bs.length h.k.c] ∧ SprI wx lo hi h E ∧ w.heap.size ≤ lo ∧ lo ≤ hi ∧ hi ≤ wx.heap.size ∧ w.heap.size ≤ b ∧ b < wx.heap.size ∧ (b < lo ∨ hi ≤ b)
/-- The box was made behind the answer. -/
theorem gotISpr_late {w V w9 : World} {E : Spr} {r : Bool} {h : SprH} (h1 : Below w.heap.size w V) (h2 : Below V.heap.size V w9) (h3 : SprI w9 V.heap.size w9.heap.size h E) :
    GotISpr w E r (.pointer (some ⟨w9.heap.size, 0, none⟩)) (.bool r) (w9.alloc (.cells #[.slice h.h.A0 E.st.f0.length h.h.c0, .slice h.h.A1 E.st.f1.length h.h.c1, .slice h.h.A2 E.st.f2.length h.h.c2, .slice h.h.A3 E.st.f3.length h.h.c3, .slice h.h.A4 E.st.f4.length h.h.c4, .slice h.k.A E.bs.length h.k.c] 35)) :=
  ⟨_, h, V.heap.size, w9.heap.size, rfl, rfl, (below_on h1 h2).alloc (below_on h1 h2).size _, Bk.new _ _ _, h3.below ((Below.refl _ _).alloc (Nat.le_refl _) _) (Nat.le_refl _), h1.size, h2.size, by simp, (below_on h1 h2).size, by simp, Or.inr (Nat.le_refl _)⟩
/-- The box was made ahead of the answer. -/
theorem gotISpr_early {w V w9 : World} {E : Spr} {r : Bool} {h : SprH} {b : Nat} {v0 v1 v2 v3 v4 v5 : Value} (h1 : Below w.heap.size w V) (hb : Bk V b 35 #[v0, v1, v2, v3, v4, v5]) (hwb : w.heap.size ≤ b) (h2 : Below V.heap.size V w9) (h3 : SprI w9 V.heap.size w9.heap.size h E) :
    GotISpr w E r (.pointer (some ⟨b, 0, none⟩)) (.bool r) ((((((w9.setCell ⟨b, 0, none⟩ (.slice h.h.A0 E.st.f0.length h.h.c0)).setCell ⟨b, 1, none⟩ (.slice h.h.A1 E.st.f1.length h.h.c1)).setCell ⟨b, 2, none⟩ (.slice h.h.A2 E.st.f2.length h.h.c2)).setCell ⟨b, 3, none⟩ (.slice h.h.A3 E.st.f3.length h.h.c3)).setCell ⟨b, 4, none⟩ (.slice h.h.A4 E.st.f4.length h.h.c4)).setCell ⟨b, 5, none⟩ (.slice h.k.A E.bs.length h.k.c)) := by
  have hbl := hb.lt
  have hz := h2.size
  have kF : Bk ((((((w9.setCell ⟨b, 0, none⟩ (.slice h.h.A0 E.st.f0.length h.h.c0)).setCell ⟨b, 1, none⟩ (.slice h.h.A1 E.st.f1.length h.h.c1)).setCell ⟨b, 2, none⟩ (.slice h.h.A2 E.st.f2.length h.h.c2)).setCell ⟨b, 3, none⟩ (.slice h.h.A3 E.st.f3.length h.h.c3)).setCell ⟨b, 4, none⟩ (.slice h.h.A4 E.st.f4.length h.h.c4)).setCell ⟨b, 5, none⟩ (.slice h.k.A E.bs.length h.k.c)) b 35 #[.slice h.h.A0 E.st.f0.length h.h.c0, .slice h.h.A1 E.st.f1.length h.h.c1, .slice h.h.A2 E.st.f2.length h.h.c2, .slice h.h.A3 E.st.f3.length h.h.c3, .slice h.h.A4 E.st.f4.length h.h.c4, .slice h.k.A E.bs.length h.k.c] := by
    have a0 := hb.below h2 hbl
    have a1 := a0.set 0 (.slice h.h.A0 E.st.f0.length h.h.c0)
    have a2 := a1.set 1 (.slice h.h.A1 E.st.f1.length h.h.c1)
    have a3 := a2.set 2 (.slice h.h.A2 E.st.f2.length h.h.c2)
    have a4 := a3.set 3 (.slice h.h.A3 E.st.f3.length h.h.c3)
    have a5 := a4.set 4 (.slice h.h.A4 E.st.f4.length h.h.c4)
    have a6 := a5.set 5 (.slice h.k.A E.bs.length h.k.c)
    simpa using a6
  have zF : ((((((w9.setCell ⟨b, 0, none⟩ (.slice h.h.A0 E.st.f0.length h.h.c0)).setCell ⟨b, 1, none⟩ (.slice h.h.A1 E.st.f1.length h.h.c1)).setCell ⟨b, 2, none⟩ (.slice h.h.A2 E.st.f2.length h.h.c2)).setCell ⟨b, 3, none⟩ (.slice h.h.A3 E.st.f3.length h.h.c3)).setCell ⟨b, 4, none⟩ (.slice h.h.A4 E.st.f4.length h.h.c4)).setCell ⟨b, 5, none⟩ (.slice h.k.A E.bs.length h.k.c)).heap.size = w9.heap.size := by simp
  refine ⟨b, h, V.heap.size, w9.heap.size, rfl, rfl, (((((((below_on h1 h2).setCell (p := ⟨b, 0, none⟩) (show w.heap.size ≤ b from hwb) _).setCell (p := ⟨b, 1, none⟩) (show w.heap.size ≤ b from hwb) _).setCell (p := ⟨b, 2, none⟩) (show w.heap.size ≤ b from hwb) _).setCell (p := ⟨b, 3, none⟩) (show w.heap.size ≤ b from hwb) _).setCell (p := ⟨b, 4, none⟩) (show w.heap.size ≤ b from hwb) _).setCell (p := ⟨b, 5, none⟩) (show w.heap.size ≤ b from hwb) _), kF, ?_, h1.size, hz, Nat.le_of_eq zF.symm, hwb, by rw [zF]; omega, Or.inl hbl⟩
  exact h3.keep (Nat.le_refl _) (Nat.le_refl _) fun i h4 _ => ((Below.heap_setCell _ _ _ i (by show i ≠ b; omega)).trans ((Below.heap_setCell _ _ _ i (by show i ≠ b; omega)).trans ((Below.heap_setCell _ _ _ i (by show i ≠ b; omega)).trans ((Below.heap_setCell _ _ _ i (by show i ≠ b; omega)).trans ((Below.heap_setCell _ _ _ i (by show i ≠ b; omega)).trans (Below.heap_setCell _ _ _ i (by show i ≠ b; omega)))))))
/-- An answer lies in a box; the box lies apart. -/
def GotOSpr (w : World) (E : Spr) (r : Bool) (sa sb : Value) (wx : World) : Prop :=
  ∃ (b : Nat) (h : SprH) (lo hi : Nat), sa = .pointer (some ⟨b, 0, none⟩) ∧ sb = .bool r ∧ Below w.heap.size w wx ∧ Bk wx b 35 #[.slice h.h.A0 E.st.f0.length h.h.c0, .slice h.h.A1 E.st.f1.length h.h.c1, .slice h.h.A2 E.st.f2.length h.h.c2, .slice h.h.A3 E.st.f3.length h.h.c3, .slice h.h.A4 E.st.f4.length h.h.c4, .slice h.k.A E.bs.length h.k.c] ∧ SprO wx lo hi h E ∧ w.heap.size ≤ lo ∧ lo ≤ hi ∧ hi ≤ wx.heap.size ∧ w.heap.size ≤ b ∧ b < wx.heap.size ∧ (b < lo ∨ hi ≤ b)
/-- The box was made behind the answer. -/
theorem gotOSpr_late {w V w9 : World} {E : Spr} {r : Bool} {h : SprH} (h1 : Below w.heap.size w V) (h2 : Below V.heap.size V w9) (h3 : SprO w9 V.heap.size w9.heap.size h E) :
    GotOSpr w E r (.pointer (some ⟨w9.heap.size, 0, none⟩)) (.bool r) (w9.alloc (.cells #[.slice h.h.A0 E.st.f0.length h.h.c0, .slice h.h.A1 E.st.f1.length h.h.c1, .slice h.h.A2 E.st.f2.length h.h.c2, .slice h.h.A3 E.st.f3.length h.h.c3, .slice h.h.A4 E.st.f4.length h.h.c4, .slice h.k.A E.bs.length h.k.c] 35)) :=
  ⟨_, h, V.heap.size, w9.heap.size, rfl, rfl, (below_on h1 h2).alloc (below_on h1 h2).size _, Bk.new _ _ _, h3.below ((Below.refl _ _).alloc (Nat.le_refl _) _) (Nat.le_refl _), h1.size, h2.size, by simp, (below_on h1 h2).size, by simp, Or.inr (Nat.le_refl _)⟩
/-- The box was made ahead of the answer. -/
theorem gotOSpr_early {w V w9 : World} {E : Spr} {r : Bool} {h : SprH} {b : Nat} {v0 v1 v2 v3 v4 v5 : Value} (h1 : Below w.heap.size w V) (hb : Bk V b 35 #[v0, v1, v2, v3, v4, v5]) (hwb : w.heap.size ≤ b) (h2 : Below V.heap.size V w9) (h3 : SprO w9 V.heap.size w9.heap.size h E) :
    GotOSpr w E r (.pointer (some ⟨b, 0, none⟩)) (.bool r) ((((((w9.setCell ⟨b, 0, none⟩ (.slice h.h.A0 E.st.f0.length h.h.c0)).setCell ⟨b, 1, none⟩ (.slice h.h.A1 E.st.f1.length h.h.c1)).setCell ⟨b, 2, none⟩ (.slice h.h.A2 E.st.f2.length h.h.c2)).setCell ⟨b, 3, none⟩ (.slice h.h.A3 E.st.f3.length h.h.c3)).setCell ⟨b, 4, none⟩ (.slice h.h.A4 E.st.f4.length h.h.c4)).setCell ⟨b, 5, none⟩ (.slice h.k.A E.bs.length h.k.c)) := by
  have hbl := hb.lt
  have hz := h2.size
  have kF : Bk ((((((w9.setCell ⟨b, 0, none⟩ (.slice h.h.A0 E.st.f0.length h.h.c0)).setCell ⟨b, 1, none⟩ (.slice h.h.A1 E.st.f1.length h.h.c1)).setCell ⟨b, 2, none⟩ (.slice h.h.A2 E.st.f2.length h.h.c2)).setCell ⟨b, 3, none⟩ (.slice h.h.A3 E.st.f3.length h.h.c3)).setCell ⟨b, 4, none⟩ (.slice h.h.A4 E.st.f4.length h.h.c4)).setCell ⟨b, 5, none⟩ (.slice h.k.A E.bs.length h.k.c)) b 35 #[.slice h.h.A0 E.st.f0.length h.h.c0, .slice h.h.A1 E.st.f1.length h.h.c1, .slice h.h.A2 E.st.f2.length h.h.c2, .slice h.h.A3 E.st.f3.length h.h.c3, .slice h.h.A4 E.st.f4.length h.h.c4, .slice h.k.A E.bs.length h.k.c] := by
    have a0 := hb.below h2 hbl
    have a1 := a0.set 0 (.slice h.h.A0 E.st.f0.length h.h.c0)
    have a2 := a1.set 1 (.slice h.h.A1 E.st.f1.length h.h.c1)
    have a3 := a2.set 2 (.slice h.h.A2 E.st.f2.length h.h.c2)
    have a4 := a3.set 3 (.slice h.h.A3 E.st.f3.length h.h.c3)
    have a5 := a4.set 4 (.slice h.h.A4 E.st.f4.length h.h.c4)
    have a6 := a5.set 5 (.slice h.k.A E.bs.length h.k.c)
    simpa using a6
  have zF : ((((((w9.setCell ⟨b, 0, none⟩ (.slice h.h.A0 E.st.f0.length h.h.c0)).setCell ⟨b, 1, none⟩ (.slice h.h.A1 E.st.f1.length h.h.c1)).setCell ⟨b, 2, none⟩ (.slice h.h.A2 E.st.f2.length h.h.c2)).setCell ⟨b, 3, none⟩ (.slice h.h.A3 E.st.f3.length h.h.c3)).setCell ⟨b, 4, none⟩ (.slice h.h.A4 E.st.f4.length h.h.c4)).setCell ⟨b, 5, none⟩ (.slice h.k.A E.bs.length h.k.c)).heap.size = w9.heap.size := by simp
  refine ⟨b, h, V.heap.size, w9.heap.size, rfl, rfl, (((((((below_on h1 h2).setCell (p := ⟨b, 0, none⟩) (show w.heap.size ≤ b from hwb) _).setCell (p := ⟨b, 1, none⟩) (show w.heap.size ≤ b from hwb) _).setCell (p := ⟨b, 2, none⟩) (show w.heap.size ≤ b from hwb) _).setCell (p := ⟨b, 3, none⟩) (show w.heap.size ≤ b from hwb) _).setCell (p := ⟨b, 4, none⟩) (show w.heap.size ≤ b from hwb) _).setCell (p := ⟨b, 5, none⟩) (show w.heap.size ≤ b from hwb) _), kF, ?_, h1.size, hz, Nat.le_of_eq zF.symm, hwb, by rw [zF]; omega, Or.inl hbl⟩
  exact h3.keep (Nat.le_refl _) (Nat.le_refl _) fun i h4 _ => ((Below.heap_setCell _ _ _ i (by show i ≠ b; omega)).trans ((Below.heap_setCell _ _ _ i (by show i ≠ b; omega)).trans ((Below.heap_setCell _ _ _ i (by show i ≠ b; omega)).trans ((Below.heap_setCell _ _ _ i (by show i ≠ b; omega)).trans ((Below.heap_setCell _ _ _ i (by show i ≠ b; omega)).trans (Below.heap_setCell _ _ _ i (by show i ≠ b; omega)))))))
end Go.Proofs.YtnadihepgmbhaaaGreat
