/-
  What the laws' statements with two results leave, whatever order they are carried out in.
-/
import Derived.Test.YtjbgjhcljmikcaaSpecWi
import Derived.Test.YtjbgjhcljmikcaaMarkP
import Derived.Test.YtjbgjhcljmikcaaLawWo
import Derived.Deep.RegionHeld3
import Derived.Deep.DeepCutAuto
namespace Go.Proofs.Ytjbgjhcljmikcaa
open Go.RowKit Pl
set_option maxHeartbeats 1000000
set_option linter.unusedVariables false

/-- The reference model's answer lies in a box; the box lies apart. -/
def GotI (w : World) (E : List (List Sm)) (r : Bool) (s10 s11 : Value) (wx : World) : Prop :=
  ∃ b A c lo hi, s10 = .pointer (some ⟨b, 0, none⟩) ∧ s11 = .bool r ∧ Below w.heap.size w wx ∧ Bk wx b 25 #[.slice A E.length c] ∧ InRows wx lo hi A E ∧ w.heap.size ≤ lo ∧ lo ≤ hi ∧ hi ≤ wx.heap.size ∧ w.heap.size ≤ b ∧ b < wx.heap.size ∧ (b < lo ∨ hi ≤ b)
/-- The program's answer likewise. -/
def GotO (w : World) (E : List (List Sm)) (r : Bool) (s10 s11 : Value) (wx : World) : Prop :=
  ∃ b A c lo hi, s10 = .pointer (some ⟨b, 0, none⟩) ∧ s11 = .bool r ∧ Below w.heap.size w wx ∧ Bk wx b 25 #[.slice A E.length c] ∧ OwnRows2 wx lo hi A E ∧ w.heap.size ≤ lo ∧ lo ≤ hi ∧ hi ≤ wx.heap.size ∧ w.heap.size ≤ b ∧ b < wx.heap.size ∧ (b < lo ∨ hi ≤ b)
theorem bk_drew {w : World} {g : Nat} {t : TypeId} {cs : Array Value} (h : Bk w g t cs) : Bk w.drew g t cs := h
/-- The box was made behind the answer. -/
theorem gotI_late {w V w9 : World} {E : List (List Sm)} {r : Bool} {A : Option Addr} {c : Nat} (h1 : Below w.heap.size w V) (h2 : Below V.heap.size V w9) (h3 : InRows w9 V.heap.size w9.heap.size A E) :
    GotI w E r (.pointer (some ⟨w9.heap.size, 0, none⟩)) (.bool r) (w9.alloc (.cells #[.slice A E.length c] 25)) :=
  ⟨_, A, c, V.heap.size, w9.heap.size, rfl, rfl, (below_on h1 h2).alloc (below_on h1 h2).size _, Bk.new _ _ _, h3.below ((Below.refl _ _).alloc (Nat.le_refl _) _) (Nat.le_refl _), h1.size, h2.size, by simp, (below_on h1 h2).size, by simp, Or.inr (Nat.le_refl _)⟩
/-- The box was made ahead of the answer. -/
theorem gotI_early {w V w9 : World} {E : List (List Sm)} {r : Bool} {A : Option Addr} {b c : Nat} {v : Value} (h1 : Below w.heap.size w V) (hb : Bk V b 25 #[v]) (hwb : w.heap.size ≤ b) (h2 : Below V.heap.size V w9) (h3 : InRows w9 V.heap.size w9.heap.size A E) :
    GotI w E r (.pointer (some ⟨b, 0, none⟩)) (.bool r) (w9.setCell ⟨b, 0, none⟩ (.slice A E.length c)) := by
  have hbl := hb.lt
  have hz := h2.size
  refine ⟨b, A, c, V.heap.size, w9.heap.size, rfl, rfl, (below_on h1 h2).setCell (by show _ ≤ b; exact hwb) _, by simpa using (hb.below h2 hbl).set 0 (.slice A E.length c), ?_, h1.size, hz, by simp, hwb, by simp; omega, Or.inl hbl⟩
  exact h3.keep (Nat.le_refl _) (Nat.le_refl _) fun i h4 _ => Below.heap_setCell _ _ _ i (by show i ≠ b; omega)
theorem gotO_late {w V w9 : World} {E : List (List Sm)} {r : Bool} {A : Option Addr} {c : Nat} (h1 : Below w.heap.size w V) (h2 : Below V.heap.size V w9) (h3 : OwnRows2 w9 V.heap.size w9.heap.size A E) :
    GotO w E r (.pointer (some ⟨w9.heap.size, 0, none⟩)) (.bool r) (w9.alloc (.cells #[.slice A E.length c] 25)) :=
  ⟨_, A, c, V.heap.size, w9.heap.size, rfl, rfl, (below_on h1 h2).alloc (below_on h1 h2).size _, Bk.new _ _ _, h3.below ((Below.refl _ _).alloc (Nat.le_refl _) _) (Nat.le_refl _), h1.size, h2.size, by simp, (below_on h1 h2).size, by simp, Or.inr (Nat.le_refl _)⟩
theorem gotO_early {w V w9 : World} {E : List (List Sm)} {r : Bool} {A : Option Addr} {b c : Nat} {v : Value} (h1 : Below w.heap.size w V) (hb : Bk V b 25 #[v]) (hwb : w.heap.size ≤ b) (h2 : Below V.heap.size V w9) (h3 : OwnRows2 w9 V.heap.size w9.heap.size A E) :
    GotO w E r (.pointer (some ⟨b, 0, none⟩)) (.bool r) (w9.setCell ⟨b, 0, none⟩ (.slice A E.length c)) := by
  have hbl := hb.lt
  have hz := h2.size
  refine ⟨b, A, c, V.heap.size, w9.heap.size, rfl, rfl, (below_on h1 h2).setCell (by show _ ≤ b; exact hwb) _, by simpa using (hb.below h2 hbl).set 0 (.slice A E.length c), ?_, h1.size, hz, by simp, hwb, by simp; omega, Or.inl hbl⟩
  exact h3.keep (Nat.le_refl _) (Nat.le_refl _) fun i h4 _ => Below.heap_setCell _ _ _ i (by show i ≠ b; omega)

end Go.Proofs.Ytjbgjhcljmikcaa
