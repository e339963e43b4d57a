/-
  Lists of numbers as an answer: compared, marked, held.
-/
import Derived.Test.YtaghidaamcnpkabRec0
namespace Go.Proofs.Ytaghidaamcnpkab
open Go.RowKit Pl
set_option maxHeartbeats 1000000
set_option linter.unusedVariables false

abbrev Is := List Int
structure IsH where
  A : Option Addr
  c : Nat
abbrev IsV (h : IsH) (o : List Int) : Value := .slice h.A o.length h.c
structure IsR (w : World) (B : Nat) (h : IsH) (o : List Int) : Prop where
  v : Vs w B h.A (ints o)
structure IsL (o : List Int) (m : Nat) : Prop where
  l0 : o.length ≤ m
abbrev IsS (o : List Int) : Prop := IsL o 1048576
theorem IsS_L {o : List Int} (s : IsS o) : IsL o maxLen := ⟨Nat.le_trans s.l0 (by unfold maxLen; omega)⟩
structure IsO (w : World) (lo hi : Nat) (h : IsH) (o : List Int) : Prop where
  o0 : OwnVs w lo hi 3 h.A (ints o)
theorem IsR.below {w w' : World} {B B' : Nat} {h : IsH} {o : List Int} (r : IsR w B h o) (hb : Below B' w w') (hB : B ≤ B') : IsR w' B h o := ⟨r.v.below hb hB⟩
theorem IsR.up {w w' : World} {B B' B'' : Nat} {h : IsH} {o : List Int} (r : IsR w B h o) (hb : Below B' w w') (hB : B ≤ B') (hB2 : B ≤ B'') : IsR w' B'' h o := ⟨r.v.up hb hB hB2⟩
theorem IsO.rd {w : World} {lo hi : Nat} {h : IsH} {o : List Int} (r : IsO w lo hi h o) : IsR w hi h o := ⟨r.o0.in_.vs⟩
theorem IsO.below {w w' : World} {lo hi B : Nat} {h : IsH} {o : List Int} (r : IsO w lo hi h o) (hb : Below B w w') (hB : hi ≤ B) : IsO w' lo hi h o := ⟨r.o0.below hb hB⟩
theorem IsO.keep {w w' : World} {lo hi lo' hi' : Nat} {h : IsH} {o : List Int} (r : IsO w lo hi h o) (hl : lo' ≤ lo) (hh : hi ≤ hi') (hk : ∀ i, lo ≤ i → i < hi → w'.heap[i]? = w.heap[i]?) : IsO w' lo' hi' h o := ⟨r.o0.keep hl hh hk⟩
theorem toIs_any (h : IsH) (o : List Int) (w : World) (B : Nat) (hR : IsR w B h o) (hB : B ≤ w.heap.size) (hL : IsL o 1048576) :
    Calls Try.prog 9 #[IsV h o] w fun e w' => ∃ h', e = .returned (IsV h' o) ∧ Below w.heap.size w w' ∧ w.heap.size ≤ w'.heap.size ∧ IsO w' w.heap.size w'.heap.size h' o := by
  refine (toInt_any h.A o h.c w B hR.v hB hL.l0).mono ?_
  rintro e w' ⟨rfl, hc⟩
  have hlt := hc.lt
  exact ⟨⟨_, _⟩, rfl, hc.1, by omega, ⟨hc.done.keep (Nat.le_refl _) hlt fun i _ _ => rfl⟩⟩
theorem eqIs_any (h1 h2 : IsH) (o1 o2 : List Int) (w : World) (B : Nat) (r1 : IsR w B h1 o1) (r2 : IsR w B h2 o2) (hB : B ≤ w.heap.size) (L1 : IsL o1 maxLen) (L2 : IsL o2 maxLen) (r : Bool) (hr : Hid (decide (o1 = o2) = r)) :
    Calls Try.prog 13 #[IsV h1 o1, IsV h2 o2] w fun e w' => e = .returned (.bool r) ∧ Below w.heap.size w w' := by
  exact eqInt_any h1.A h2.A o1 o2 h1.c h2.c w B r1.v r2.v L1.l0 L2.l0 r hr
def allIs (o : List Int) : Int := (o.length : Int)
theorem markIs_any (h : IsH) (o : List Int) (K : Int) (w : World) (lo hi : Nat) (hO : IsO w lo hi h o) (hhi : hi ≤ w.heap.size) (hL : IsL o 1048576) (hK : 0 ≤ K) (hK2 : K ≤ 100000000) :
    Calls Try.prog 15 #[IsV h o, .int .i64 K] w fun e w' => e = .returned (.int .i64 (K + allIs o)) ∧ Only lo hi w w' ∧ True := by
  by_cases hn : 0 < o.length
  · obtain ⟨g, cs, hA, h0, h1, hb, hx⟩ := hO.o0 (by rw [ints_length]; exact hn)
    have hsz : o.length ≤ cs.size := by
      have h9 : (ints o)[o.length - 1]? ≠ none := by
        rw [ne_eq, List.getElem?_eq_none_iff, ints_length]; omega
      obtain ⟨v, hv⟩ := Option.ne_none_iff_exists'.1 h9
      have h8 := hx _ v hv
      have := (Array.getElem?_eq_some_iff.1 h8).1
      omega
    have hs := markInt_any o.length g h.c cs K w hb hsz hL.l0 hK (by omega)
    unfold IsV
    rw [hA]
    refine hs.mono ?_
    rintro e w' ⟨rfl, hm⟩
    exact ⟨rfl, hm.1.mono h0 h1, trivial⟩
  · have e : o = [] := List.eq_nil_of_length_eq_zero (by omega)
    subst e
    refine (markInt_none h.A h.c K w hK (by omega)).mono ?_
    rintro e w' ⟨rfl, rfl⟩
    exact ⟨by simp [allIs], Only.refl _ _ _, trivial⟩
end Go.Proofs.Ytaghidaamcnpkab
namespace Go.Proofs.Ytaghidaamcnpkab
open Go.RowKit Pl
set_option maxHeartbeats 4000000
set_option maxRecDepth 100000
set_option linter.unusedVariables false

abbrev IlH := IsH
abbrev IlV (h : IlH) (o : List Int) : Value := .slice h.A o.length h.c
abbrev IlR (w : World) (B : Nat) (h : IlH) (o : List Int) : Prop := IsR w B h o
abbrev IlL (o : List Int) (m : Nat) : Prop := IsL o m
abbrev IlS (o : List Int) : Prop := IsL o 1048576
theorem IlS_L {o : List Int} (s : IlS o) : IlL o maxLen := IsS_L s
structure IlO (w : World) (lo hi : Nat) (h : IlH) (o : List Int) : Prop where
  o0 : OwnVs w lo hi 3 h.A (ints o)
theorem IlO.rd {w : World} {lo hi : Nat} {h : IlH} {o : List Int} (r : IlO w lo hi h o) : IlR w hi h o := ⟨r.o0.vs⟩
theorem IlO.below {w w' : World} {lo hi B : Nat} {h : IlH} {o : List Int} (r : IlO w lo hi h o) (hb : Below B w w') (hB : hi ≤ B) : IlO w' lo hi h o := ⟨r.o0.below hb hB⟩
theorem IlO.keep {w w' : World} {lo hi lo' hi' : Nat} {h : IlH} {o : List Int} (r : IlO w lo hi h o) (hl : lo' ≤ lo) (hh : hi ≤ hi') (hk : ∀ i, lo ≤ i → i < hi → w'.heap[i]? = w.heap[i]?) : IlO w' lo' hi' h o := ⟨r.o0.keep hl hh hk⟩
theorem eqIl_any (h1 h2 : IlH) (o1 o2 : List Int) (w : World) (B : Nat) (r1 : IlR w B h1 o1) (r2 : IlR w B h2 o2) (hB : B ≤ w.heap.size) (L1 : IlL o1 maxLen) (L2 : IlL o2 maxLen) (r : Bool) (hr : Hid (decide (o1 = o2) = r)) :
    Calls Try.prog 13 #[IlV h1 o1, IlV h2 o2] w fun e w' => e = .returned (.bool r) ∧ Below w.heap.size w w' := eqIs_any h1 h2 o1 o2 w B r1 r2 hB L1 L2 r hr
def allIl (o : List Int) : Int := (o.length : Int)
theorem markIl_any (h : IlH) (o : List Int) (K : Int) (w : World) (lo hi : Nat) (hO : IlO w lo hi h o) (hhi : hi ≤ w.heap.size) (hL : IlL o 1048576) (hK : 0 ≤ K) (hK2 : K ≤ 100000000) :
    Calls Try.prog 15 #[IlV h o, .int .i64 K] w fun e w' => e = .returned (.int .i64 (K + allIl o)) ∧ Only lo hi w w' ∧ IlO w' lo hi h (upI K o.length) := by
  by_cases hn : 0 < o.length
  · obtain ⟨g, cs, hA, h0, h1, hb, hx⟩ := hO.o0 (by rw [ints_length]; exact hn)
    have hsz : o.length ≤ cs.size := by
      obtain ⟨v, hv⟩ : ∃ v, (ints o)[o.length - 1]? = some v := ⟨_, List.getElem?_eq_getElem (by rw [ints_length]; omega)⟩
      have := (Array.getElem?_eq_some_iff.1 (hx _ v hv)).1
      omega
    have hs := markInt_any o.length g h.c cs K w hb hsz hL.l0 hK (by omega)
    unfold IlV
    rw [hA]
    refine hs.mono ?_
    rintro e w' ⟨rfl, hm⟩
    exact ⟨rfl, hm.1.mono h0 h1, ⟨by rw [hA]; exact hm.done.more h0 h1⟩⟩
  · have e : o = [] := List.eq_nil_of_length_eq_zero (by omega)
    subst e
    refine (markInt_none h.A h.c K w hK (by omega)).mono ?_
    rintro e w' ⟨rfl, rfl⟩
    exact ⟨by simp [allIl], Only.refl _ _ _, ⟨OwnVs.nil _ _ _ _ _⟩⟩
theorem heldIl_any (h : IlH) (o : List Int) (K : Int) (w : World) (B : Nat) (hR : IlR w B h (upI K o.length)) (hB : B ≤ w.heap.size) (hL : IlL o 1048576) (hK : 0 ≤ K) (hK2 : K ≤ 100000000) :
    Calls Try.prog 24 #[IlV h o, .int .i64 K] w fun e w' => e = .returned (.int .i64 (K + allIl o)) ∧ Below w.heap.size w w' :=
  (heldInt_any h.A o.length h.c K w B hR.v hL.l0 hK (by omega)).mono fun _ _ h => ⟨h.1, by rw [← h.2]; exact Below.refl _ _⟩
/-- Numbers, and whether there are any to tell. -/
def AnsIl (w : World) (o : List Int) (r : Bool) (e : Ending) (w' : World) : Prop :=
  ∃ k : IlH, e = .returned (.tuple #[IlV k o, .bool r]) ∧ Below w.heap.size w w' ∧ w.heap.size ≤ w'.heap.size ∧ IlO w' w.heap.size w'.heap.size k o
end Go.Proofs.Ytaghidaamcnpkab
