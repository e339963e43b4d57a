/-
  Programs under the names that the walks of the exact laws use: headers, reading, owning, sizes, copies, equality, marks.
-/
import Derived.Test.YtaghidaamcnpkaaSize
import Derived.Test.YtaghidaamcnpkaaEq
import Derived.Test.YtaghidaamcnpkaaCopy
import Derived.Test.YtaghidaamcnpkaaMarkP
import Derived.Test.YtaghidaamcnpkaaSpecOk
import Derived.Test.YtaghidaamcnpkaaRec0
namespace Go.Proofs.Ytaghidaamcnpkaa
open Go.RowKit Pl
set_option maxHeartbeats 400000
set_option linter.unusedVariables false

abbrev Pg := List (List Sm)
structure PgH where
  A : Option Addr
  c : Nat
deriving Inhabited
abbrev PgV (h : PgH) (o : Pg) : Value := .agg #[.slice h.A o.length h.c]
def PgR (w : World) (B : Nat) (h : PgH) (o : Pg) : Prop := Rows2 w B h.A o
structure PgL (o : Pg) (m : Nat) : Prop where
  l : o.length ≤ m
structure PgO (w : World) (lo hi : Nat) (h : PgH) (o : Pg) : Prop where
  o : OwnRows2 w lo hi h.A o
section
variable {w w' : World} {B B' B'' lo hi lo' hi' : Nat} {h : PgH} {o : Pg}
theorem PgR.below (r : PgR w B h o) (hb : Below B' w w') (hB : B ≤ B') : PgR w' B h o := Rows2.below r hb hB
theorem PgR.up (r : PgR w B h o) (hb : Below B' w w') (hB : B ≤ B') (hB2 : B ≤ B'') : PgR w' B'' h o := Rows2.up r hb hB hB2
theorem PgO.keep (r : PgO w lo hi h o) (hl : lo' ≤ lo) (hh : hi ≤ hi') (hk : ∀ i, lo ≤ i → i < hi → w'.heap[i]? = w.heap[i]?) : PgO w' lo' hi' h o := ⟨r.o.keep hl hh hk⟩
theorem PgO.below (r : PgO w lo hi h o) (hb : Below B w w') (hB : hi ≤ B) : PgO w' lo hi h o := ⟨r.o.below hb hB⟩
theorem PgO.rd (r : PgO w lo hi h o) : PgR w hi h o := r.o.rows
end
/-- A program that is small enough for the laws: how long, how long each thread, how long together. -/
structure PgS (o : Pg) : Prop where
  l : o.length ≤ 1048576
  e : ∀ xs ∈ o, xs.length ≤ 1048576
  t : total o ≤ 1048576
def szPg (a : Int) (o : Pg) : Int := sz2 a o
theorem szPg_ge (a : Int) (o : Pg) (ha : 0 ≤ a) : -1 ≤ szPg a o ∧ szPg a o ≤ a := by
  refine ⟨sz2_ge _ _, ?_⟩
  have key : ∀ (L : Pg) (x : Int), 0 ≤ x → szL x L ≤ x := by
    intro L
    induction L with
    | nil => intro x _; simp [szL]
    | cons y r ih =>
      intro x hx
      unfold szL
      split
      · omega
      · have := ih _ (show 0 ≤ sz1 x y.length by omega)
        have h2 : sz1 x y.length ≤ x := by unfold sz1; split <;> omega
        omega
  unfold szPg sz2
  split
  · omega
  · have := key o (a - o.length) (by omega); omega
theorem szPg_small {a : Int} {o : Pg} (h : 0 ≤ szPg a o) (ha : 0 ≤ a) (ha2 : a ≤ 1048576) : PgS o := by
  have h1 := sz2_total h
  exact ⟨by omega, fun xs hx => by have := mem_le_total hx; omega, by omega⟩
theorem szPg_any (h : PgH) (o : Pg) (left : Int) (w : World) (B : Nat) (hR : PgR w B h o) (hB : B ≤ w.heap.size) (hL : PgL o maxLen) (h0 : 0 ≤ left) (h1 : left ≤ 1048576) (r : Int) (hr : Hid (szPg left o = r)) :
    Calls Try.prog 6 #[PgV h o, .int .i64 left] w fun e w' => e = .returned (.int .i64 r) ∧ Below w.heap.size w w' :=
  szP_any h.A o h.c left w B hR hB hL.l h0 h1 r hr (by rw [← hr.out]; exact (szPg_ge _ _ h0).1)
def ToPg (w : World) (o : Pg) (e : Ending) (w' : World) : Prop := ∃ h, e = .returned (PgV h o) ∧ Below w.heap.size w w' ∧ w.heap.size ≤ w'.heap.size ∧ PgO w' w.heap.size w'.heap.size h o
theorem toPg_any (h : PgH) (o : Pg) (w : World) (B : Nat) (hR : PgR w B h o) (hB : B ≤ w.heap.size) (hS : PgS o) :
    Calls Try.prog 8 #[PgV h o] w (ToPg w o) :=
  (toP_any h.A o h.c w B hR hB hS.l (Lib.hid hS.e)).mono fun e w' ⟨A, c, he, hb, ho⟩ => ⟨⟨A, c⟩, he, hb, hb.size, ⟨ho⟩⟩
theorem eqPg_any (h1 h2 : PgH) (o1 o2 : Pg) (w : World) (B : Nat) (r1 : PgR w B h1 o1) (r2 : PgR w B h2 o2) (hB : B ≤ w.heap.size) (L1 : PgL o1 maxLen) (L2 : PgL o2 maxLen) (r : Bool) (hr : Hid (decide (o1 = o2) = r)) :
    Calls Try.prog 10 #[PgV h1 o1, PgV h2 o2] w fun e w' => e = .returned (.bool r) ∧ Below w.heap.size w w' :=
  eqP_any h1.A h2.A o1 o2 h1.c h2.c w B r1 r2 hB L1.l L2.l r hr
theorem PgS_L {o : Pg} (s : PgS o) : PgL o maxLen := ⟨by unfold maxLen; have := s.l; omega⟩
end Go.Proofs.Ytaghidaamcnpkaa
