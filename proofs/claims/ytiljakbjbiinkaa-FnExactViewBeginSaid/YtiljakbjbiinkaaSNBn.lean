/-
  The first stores while the reference model's l9Begin makes them.
-/
import Derived.Test.YtiljakbjbiinkaaSNZ
import Derived.Test.YtiljakbjbiinkaaBegin
import Derived.Deep.RegionHeld3
import Derived.Test.YtiljakbjbiinkaaQSel
import Derived.Test.YtiljakbjbiinkaaRowT
import Derived.Deep.DeepCutAuto
import Derived.Deep.AppendLies
namespace Go.Proofs.Ytiljakbjbiinkaa
open Go.RowKit Pl Go.BigFrame
set_option maxHeartbeats 8000000
set_option maxRecDepth 100000
set_option linter.unusedVariables false

/-- A part that lies apart from a box. -/
def Part (P : World → Nat → Nat → Prop) (W wx : World) (b : Nat) : Prop := ∃ lo hi, W.heap.size ≤ lo ∧ hi ≤ wx.heap.size ∧ (b < lo ∨ hi ≤ b) ∧ P wx lo hi
def begC (L : Pg) (k : StaH) (kv kl kk : IssH) (Af : Option Addr) (cf : Nat) : Array Value := #[.slice k.A0 (begS L).f0.length k.c0, .slice k.A1 (begS L).f1.length k.c1, .slice k.A2 (begS L).f2.length k.c2, .slice k.A3 (begS L).f3.length k.c3, .slice k.A4 (begS L).f4.length k.c4, .slice none 0 0, .slice kv.A L.length kv.c, .slice kl.A 2 kl.c, .slice kk.A 2 kk.c, .slice Af 3 cf]
structure Got9 (W : World) (L : Pg) (sa : Value) (wx : World) : Prop where
  g : ∃ b k kv kl kk Af cf, sa = .pointer (some ⟨b, 0, none⟩) ∧ Below W.heap.size W wx ∧ W.heap.size ≤ b ∧ Bk wx b 45 (begC L k kv kl kk Af cf) ∧
    Part (fun w lo hi => StaI w lo hi k (begS L)) W wx b ∧ Part (fun w lo hi => IssI w lo hi kv (List.replicate L.length [0, 0, 0])) W wx b ∧ Part (fun w lo hi => IssI w lo hi kl (List.replicate 2 [0, 0, 0])) W wx b ∧ Part (fun w lo hi => IssI w lo hi kk (List.replicate 2 [0, 0, 0])) W wx b ∧ Part (fun w lo hi => InVs w lo hi Af (ints [0, 0, 0])) W wx b
structure Parts (W v : World) (L : Pg) (k : StaH) (kv kl kk : IssH) (Af : Option Addr) (l0 h0 l1 h1 l2 h2 l3 h3 l4 h4 : Nat) : Prop where
  q0 : StaI v l0 h0 k (begS L)
  q1 : IssI v l1 h1 kv (List.replicate L.length [0, 0, 0])
  q2 : IssI v l2 h2 kl (List.replicate 2 [0, 0, 0])
  q3 : IssI v l3 h3 kk (List.replicate 2 [0, 0, 0])
  q4 : InVs v l4 h4 Af (ints [0, 0, 0])
  z : W.heap.size ≤ l0 ∧ W.heap.size ≤ l1 ∧ W.heap.size ≤ l2 ∧ W.heap.size ≤ l3 ∧ W.heap.size ≤ l4 ∧ h0 ≤ v.heap.size ∧ h1 ≤ v.heap.size ∧ h2 ≤ v.heap.size ∧ h3 ≤ v.heap.size ∧ h4 ≤ v.heap.size
theorem Parts.got {W v wx : World} {L : Pg} {k : StaH} {kv kl kk : IssH} {Af : Option Addr} {cf l0 h0 l1 h1 l2 h2 l3 h3 l4 h4 b : Nat} (h : Parts W v L k kv kl kk Af l0 h0 l1 h1 l2 h2 l3 h3 l4 h4) (hB : Below W.heap.size W wx) (hb : W.heap.size ≤ b) (hk : Bk wx b 45 (begC L k kv kl kk Af cf)) (hz : v.heap.size ≤ wx.heap.size)
    (hfar : ∀ i, i < v.heap.size → i ≠ b → wx.heap[i]? = v.heap[i]?) (hs : (b < l0 ∨ h0 ≤ b) ∧ (b < l1 ∨ h1 ≤ b) ∧ (b < l2 ∨ h2 ≤ b) ∧ (b < l3 ∨ h3 ≤ b) ∧ (b < l4 ∨ h4 ≤ b)) : Got9 W L (.pointer (some ⟨b, 0, none⟩)) wx := by
  obtain ⟨q0, q1, q2, q3, q4, z0, z1, z2, z3, z4, y0, y1, y2, y3, y4⟩ := h
  obtain ⟨s0, s1, s2, s3, s4⟩ := hs
  exact ⟨b, k, kv, kl, kk, Af, cf, rfl, hB, hb, hk,
    ⟨l0, h0, z0, by omega, s0, q0.keep (Nat.le_refl _) (Nat.le_refl _) fun i a1 a2 => hfar i (by omega) (by omega)⟩,
    ⟨l1, h1, z1, by omega, s1, q1.keep (Nat.le_refl _) (Nat.le_refl _) fun i a1 a2 => hfar i (by omega) (by omega)⟩,
    ⟨l2, h2, z2, by omega, s2, q2.keep (Nat.le_refl _) (Nat.le_refl _) fun i a1 a2 => hfar i (by omega) (by omega)⟩,
    ⟨l3, h3, z3, by omega, s3, q3.keep (Nat.le_refl _) (Nat.le_refl _) fun i a1 a2 => hfar i (by omega) (by omega)⟩,
    ⟨l4, h4, z4, by omega, s4, q4.keep (Nat.le_refl _) (Nat.le_refl _) fun i a1 a2 => hfar i (by omega) (by omega)⟩⟩
theorem Parts.late {W v : World} {L : Pg} {k : StaH} {kv kl kk : IssH} {Af : Option Addr} {cf l0 h0 l1 h1 l2 h2 l3 h3 l4 h4 : Nat} (h : Parts W v L k kv kl kk Af l0 h0 l1 h1 l2 h2 l3 h3 l4 h4) (hB : Below W.heap.size W v) : Got9 W L (.pointer (some ⟨v.heap.size, 0, none⟩)) (v.alloc (.cells #[.slice k.A0 (begS L).f0.length k.c0, .slice k.A1 (begS L).f1.length k.c1, .slice k.A2 (begS L).f2.length k.c2, .slice k.A3 (begS L).f3.length k.c3, .slice k.A4 (begS L).f4.length k.c4, .slice none 0 0, .slice kv.A L.length kv.c, .slice kl.A 2 kl.c, .slice kk.A 2 kk.c, .slice Af 3 cf] 45)) := by
  have hz := hB.size
  have := h.z
  exact h.got (hB.alloc hz _) hz (Bk.new _ _ _) (by simp) (fun i hi _ => ((Below.refl _ _).alloc (Nat.le_refl v.heap.size) _).block i hi) (by omega)
theorem Parts.early {W v : World} {L : Pg} {k : StaH} {kv kl kk : IssH} {Af : Option Addr} {cf l0 h0 l1 h1 l2 h2 l3 h3 l4 h4 b : Nat} (h : Parts W v L k kv kl kk Af l0 h0 l1 h1 l2 h2 l3 h3 l4 h4) (hB : Below W.heap.size W v) (hb : W.heap.size ≤ b) (hk : Bk v b 45 #[.slice none 0 0, .slice none 0 0, .slice none 0 0, .slice none 0 0, .slice none 0 0, .slice none 0 0, .slice none 0 0, .slice none 0 0, .slice none 0 0, .slice none 0 0]) (hs : (b < l0 ∨ h0 ≤ b) ∧ (b < l1 ∨ h1 ≤ b) ∧ (b < l2 ∨ h2 ≤ b) ∧ (b < l3 ∨ h3 ≤ b) ∧ (b < l4 ∨ h4 ≤ b)) : Got9 W L (.pointer (some ⟨b, 0, none⟩)) ((((((((((v.setCell ⟨b, 0, none⟩ (.slice k.A0 (begS L).f0.length k.c0)).setCell ⟨b, 1, none⟩ (.slice k.A1 (begS L).f1.length k.c1)).setCell ⟨b, 2, none⟩ (.slice k.A2 (begS L).f2.length k.c2)).setCell ⟨b, 3, none⟩ (.slice k.A3 (begS L).f3.length k.c3)).setCell ⟨b, 4, none⟩ (.slice k.A4 (begS L).f4.length k.c4)).setCell ⟨b, 5, none⟩ (.slice none 0 0)).setCell ⟨b, 6, none⟩ (.slice kv.A L.length kv.c)).setCell ⟨b, 7, none⟩ (.slice kl.A 2 kl.c)).setCell ⟨b, 8, none⟩ (.slice kk.A 2 kk.c)).setCell ⟨b, 9, none⟩ (.slice Af 3 cf)) := by
  refine h.got (cf := cf) ((((((((((hB.setCell (p := ⟨b, 0, none⟩) (show W.heap.size ≤ b from hb) _).setCell (p := ⟨b, 1, none⟩) (show W.heap.size ≤ b from hb) _).setCell (p := ⟨b, 2, none⟩) (show W.heap.size ≤ b from hb) _).setCell (p := ⟨b, 3, none⟩) (show W.heap.size ≤ b from hb) _).setCell (p := ⟨b, 4, none⟩) (show W.heap.size ≤ b from hb) _).setCell (p := ⟨b, 5, none⟩) (show W.heap.size ≤ b from hb) _).setCell (p := ⟨b, 6, none⟩) (show W.heap.size ≤ b from hb) _).setCell (p := ⟨b, 7, none⟩) (show W.heap.size ≤ b from hb) _).setCell (p := ⟨b, 8, none⟩) (show W.heap.size ≤ b from hb) _).setCell (p := ⟨b, 9, none⟩) (show W.heap.size ≤ b from hb) _) hb ?_ (by simp) (fun i hi hne => ((Below.heap_setCell _ _ _ i (by show i ≠ b; omega)).trans ((Below.heap_setCell _ _ _ i (by show i ≠ b; omega)).trans ((Below.heap_setCell _ _ _ i (by show i ≠ b; omega)).trans ((Below.heap_setCell _ _ _ i (by show i ≠ b; omega)).trans ((Below.heap_setCell _ _ _ i (by show i ≠ b; omega)).trans ((Below.heap_setCell _ _ _ i (by show i ≠ b; omega)).trans ((Below.heap_setCell _ _ _ i (by show i ≠ b; omega)).trans ((Below.heap_setCell _ _ _ i (by show i ≠ b; omega)).trans ((Below.heap_setCell _ _ _ i (by show i ≠ b; omega)).trans (Below.heap_setCell _ _ _ i (by show i ≠ b; omega)))))))))))) hs
  have := ((((((((((hk.set 0 (.slice k.A0 (begS L).f0.length k.c0)).set 1 (.slice k.A1 (begS L).f1.length k.c1)).set 2 (.slice k.A2 (begS L).f2.length k.c2)).set 3 (.slice k.A3 (begS L).f3.length k.c3)).set 4 (.slice k.A4 (begS L).f4.length k.c4)).set 5 (.slice none 0 0)).set 6 (.slice kv.A L.length kv.c)).set 7 (.slice kl.A 2 kl.c)).set 8 (.slice kk.A 2 kk.c)).set 9 (.slice Af 3 cf))
  simpa [begC] using this
theorem s9begin_one (h : PgH) (L : Pg) (w : World) (h31 : 1 ≤ L.length) (h32 : L.length ≤ 3) (K : True) : True := trivial
end Go.Proofs.Ytiljakbjbiinkaa
namespace Go.Proofs.Ytiljakbjbiinkaa
open Go.RowKit Pl Go.BigFrame
set_option maxHeartbeats 8000000
set_option maxRecDepth 100000
set_option linter.unusedVariables false

def begN (L : Pg) (k : StaH) (kv kl kk : IssH) (Af : Option Addr) (cf : Nat) (A : Option Addr) (m c : Nat) : Array Value := #[.slice k.A0 (begS L).f0.length k.c0, .slice k.A1 (begS L).f1.length k.c1, .slice k.A2 (begS L).f2.length k.c2, .slice k.A3 (begS L).f3.length k.c3, .slice k.A4 (begS L).f4.length k.c4, .slice A m c, .slice kv.A L.length kv.c, .slice kl.A 2 kl.c, .slice kk.A 2 kk.c, .slice Af 3 cf]
theorem begN_set (L : Pg) (k : StaH) (kv kl kk : IssH) (Af : Option Addr) (cf : Nat) (A : Option Addr) (m c : Nat) (A' : Option Addr) (m' c' : Nat) : (begN L k kv kl kk Af cf A m c).setIfInBounds 5 (.slice A' m' c') = begN L k kv kl kk Af cf A' m' c' := rfl
theorem begN_one (L : Pg) (k : StaH) (kv kl kk : IssH) (Af : Option Addr) (cf : Nat) (A : Option Addr) (m c : Nat) : (begN L k kv kl kk Af cf A m c).all (·.oneCell') = true := by simp [begN, Value.oneCell']
/-- The first stores so far: m places, each a list of one note, whose view is a row of its own. -/
structure N9 (z : Nat) (y wr : World) (b m : Nat) (bx : Option Addr → Nat → Nat → Array Value) (A : Option Addr) (c : Nat) (hs : List Value) (Dn Dv Cv : Nat → Nat) : Prop where
  bel : Below z y wr
  on : ∀ i, i < y.heap.size → i ≠ b → wr.heap[i]? = y.heap[i]?
  box : Bk wr b 45 (bx A m c)
  own : wr.ownsRow y.heap.size 110 1 (.slice A m c) m hs
  hd : ∀ i, i < m → hs[i]? = some (.slice (some ⟨Dn i, 0, none⟩) 1 1)
  rows : ∀ i, i < m → y.heap.size ≤ Dn i ∧ Dn i < wr.heap.size ∧ Bk wr (Dn i) 112 #[.int .i64 0, .slice (some ⟨Dv i, 0, none⟩) 3 (Cv i), .bool false] ∧ y.heap.size ≤ Dv i ∧ Dv i < wr.heap.size ∧ ∃ cs, Bk wr (Dv i) 3 cs ∧ ∀ (j : Nat) (v : Value), (ints [0, 0, 0])[j]? = some v → cs[j]? = some v
theorem N9.done {z : Nat} {y wr : World} {b : Nat} {bx : Option Addr → Nat → Nat → Array Value} {A : Option Addr} {c : Nat} {hs : List Value} {Dn Dv Cv : Nat → Nat} (h : N9 z y wr b 3 bx A c hs Dn Dv Cv) : NssI wr y.heap.size wr.heap.size ⟨A, c⟩ (List.replicate 3 [⟨0, [0, 0, 0], false⟩]) := ⟨fun _ => by
  have hl := h.own.1
  obtain ⟨g, cs, hA, h0, h1, hb, hx⟩ := own_vs h.own rfl (by omega)
  refine ⟨g, 0, hA, h0, h1, fun i x hi => ?_⟩
  have hi3 : i < 3 := by have := (List.getElem?_eq_some_iff.1 hi).1; simpa using this
  have hxe : x = [⟨0, [0, 0, 0], false⟩] := by
    rw [List.getElem?_replicate, if_pos hi3] at hi
    injection hi with hi
    exact hi.symm
  subst hxe
  obtain ⟨n0, n1, nb, v0, v1, cv, vb, vc⟩ := h.rows i hi3
  refine ⟨⟨some ⟨Dn i, 0, none⟩, 1⟩, by rw [Nat.zero_add]; exact (hb.cell i).trans (hx i _ (h.hd i hi3)), ⟨fun _ => ⟨Dn i, 0, rfl, n0, n1, fun j u0 hj => ?_⟩⟩⟩
  have hj0 : j = 0 ∧ u0 = ⟨0, [0, 0, 0], false⟩ := by
    cases j with
    | zero => simp at hj; exact ⟨rfl, hj.symm⟩
    | succ j => simp at hj
  obtain ⟨rfl, rfl⟩ := hj0
  refine ⟨⟨some ⟨Dv i, 0, none⟩, Cv i⟩, ⟨nb.cell 0, nb.cell 1, nb.cell 2⟩, fun _ => ⟨Dv i, 0, rfl, v0, v1, fun q u hq => ?_⟩⟩
  rw [Nat.zero_add]
  exact (vb.cell q).trans (vc q u hq)⟩
theorem N9.box4 {z : Nat} {y wr w1 w4 : World} {b m : Nat} {bx : Option Addr → Nat → Nat → Array Value} {A : Option Addr} {c : Nat} {hs : List Value} {Dn Dv Cv : Nat → Nat} {o o2 : Obj} (h : N9 z y wr b m bx A c hs Dn Dv Cv) (hb1 : Below wr.heap.size wr w1)
    (grow4 : ((w1.alloc o2).alloc o).grownBy w4 (Value.slice A m c).ownBlock) : Bk w4 b 45 (bx A m c) := by
  have hl := h.box.lt
  have hz1 := hb1.size
  refine ((grow4.block b (by simp; omega) fun e => ?_).trans ((Below.heap_alloc _ o b (by simp; omega)).trans ((Below.heap_alloc w1 o2 b (by omega)).trans (hb1.block b hl)))).trans h.box
  obtain ⟨_, _, cu, hcu⟩ := owns_block h.own e
  have hq := h.box
  unfold Bk at hq hcu
  rw [hcu] at hq
  injection hq with hq
  injection hq with _ hq
  exact absurd hq (by decide)
theorem N9.next {z : Nat} {y wr w1 w4 : World} {b m g1 c1 g4 cap4 : Nat} {bx : Option Addr → Nat → Nat → Array Value} {A : Option Addr} {c : Nat} {hs : List Value} {Dn Dv Cv : Nat → Nat} {o : Obj} (h : N9 z y wr b m bx A c hs Dn Dv Cv) (hbl : b < y.heap.size) (hzb : z ≤ b) (hb1 : Below wr.heap.size wr w1)
    (ho : OwnVs w1 wr.heap.size w1.heap.size 3 (some ⟨g1, 0, none⟩) (ints [0, 0, 0])) (own4 : w4.ownsRow y.heap.size 110 1 (.slice (some ⟨g4, 0, none⟩) (m + 1) cap4) (m + 1) (hs ++ [.slice (some ⟨w1.heap.size, 0, none⟩) 1 1]))
    (grow4 : ((w1.alloc (.cells #[.int .i64 0, .slice (some ⟨g1, 0, none⟩) 3 c1, .bool false] 112)).alloc o).grownBy w4 (Value.slice A m c).ownBlock)
    (hbx : (bx A m c).setIfInBounds 5 (.slice (some ⟨g4, 0, none⟩) (m + 1) cap4) = bx (some ⟨g4, 0, none⟩) (m + 1) cap4) :
    N9 z y (w4.setCell ⟨b, 5, none⟩ (.slice (some ⟨g4, 0, none⟩) (m + 1) cap4)) b (m + 1) bx (some ⟨g4, 0, none⟩) cap4 (hs ++ [.slice (some ⟨w1.heap.size, 0, none⟩) 1 1]) (setF Dn m w1.heap.size) (setF Dv m g1) (setF Cv m c1) := by
  have hz0 := h.bel.size
  have hz1 := hb1.size
  have hz4 : w1.heap.size + 1 + 1 ≤ w4.heap.size := by have := grow4.size; simpa using this
  have hown : ∀ q, some q = (Value.slice A m c).ownBlock → y.heap.size ≤ q ∧ ∃ cu, Bk wr q 110 cu := fun q hq => by
    obtain ⟨a1, _, cu, hcu⟩ := owns_block h.own hq
    exact ⟨a1, cu, hcu⟩
  have h4 : ∀ q, q < w1.heap.size + 1 → some q ≠ (Value.slice A m c).ownBlock → w4.heap[q]? = (w1.alloc (.cells #[.int .i64 0, .slice (some ⟨g1, 0, none⟩) 3 c1, .bool false] 112)).heap[q]? := fun q hq hne => (grow4.block q (by simp; omega) hne).trans (Below.heap_alloc _ o q (by simp; omega))
  have hw : ∀ q, q < wr.heap.size → some q ≠ (Value.slice A m c).ownBlock → w4.heap[q]? = wr.heap[q]? := fun q hq hne => (h4 q (by omega) hne).trans ((Below.heap_alloc w1 _ q (by omega)).trans (hb1.block q hq))
  have hset : ∀ q, q ≠ b → (w4.setCell ⟨b, 5, none⟩ (.slice (some ⟨g4, 0, none⟩) (m + 1) cap4)).heap[q]? = w4.heap[q]? := fun q hq => Below.heap_setCell _ _ _ q hq
  have hB : Below z wr w4 := (((hb1.mono (by omega)).alloc (by omega) _).alloc (by simp; omega) o).grown grow4 (by simp; omega) (fun q hq => by have := (hown q hq.symm).1; omega)
  have tne : ∀ q t cs, Bk wr q t cs → t ≠ 110 → some q ≠ (Value.slice A m c).ownBlock := fun q t cs hq ht e => by
    obtain ⟨_, cu, hcu⟩ := hown q e
    unfold Bk at hq hcu
    rw [hcu] at hq
    injection hq with hq
    injection hq with _ hq
    exact ht hq.symm
  have hsz : (w4.setCell ⟨b, 5, none⟩ (.slice (some ⟨g4, 0, none⟩) (m + 1) cap4)).heap.size = w4.heap.size := World.size_setCell ..
  obtain ⟨gx, cs, hA, hgl, hgh, hbk, hcs⟩ := ho (by simp)
  injection hA with hA
  injection hA with hA
  subst hA
  refine ⟨(h.bel.trans hB).setCell (p := ⟨b, 5, none⟩) hzb _, fun i hi hne => (hset i hne).trans ((hw i (by omega) fun e => ?_).trans (h.on i hi hne)), ?_, ownsRow_setCell_below own4 (by show b < y.heap.size; exact hbl) _, fun i hi => ?_, fun i hi => ?_⟩
  · have := (hown i e).1; omega
  · have hb4 : Bk w4 b 45 (bx A m c) := (hw b (by omega) (tne b _ _ h.box (by decide))).trans h.box
    have := hb4.set 5 (.slice (some ⟨g4, 0, none⟩) (m + 1) cap4)
    rw [hbx] at this
    exact this
  · have hl : hs.length = m := by have := h.own.1; omega
    unfold setF
    by_cases e : i = m
    · subst e
      rw [if_pos rfl, List.getElem?_append_right (by omega), hl, Nat.sub_self]; rfl
    · rw [if_neg e, List.getElem?_append_left (by omega)]; exact h.hd i (by omega)
  · rw [hsz]
    unfold setF
    by_cases e : i = m
    · subst e
      rw [if_pos rfl, if_pos rfl, if_pos rfl]
      have kn : Bk w4 w1.heap.size 112 #[.int .i64 0, .slice (some ⟨g1, 0, none⟩) 3 c1, .bool false] := (h4 w1.heap.size (by omega) fun e => by
        obtain ⟨_, cu, hcu⟩ := hown _ e
        have := Bk.lt hcu
        omega).trans (Bk.new _ _ _)
      have kv : Bk w4 g1 3 cs := (h4 g1 (by omega) fun e => by
        obtain ⟨_, cu, hcu⟩ := hown _ e
        have := Bk.lt hcu
        omega).trans ((Below.heap_alloc w1 _ g1 hgh).trans hbk)
      exact ⟨by omega, by omega, (hset _ (by omega)).trans kn, by omega, by omega, cs, (hset _ (by omega)).trans kv, hcs⟩
    · rw [if_neg e, if_neg e, if_neg e]
      obtain ⟨n0, n1, nb, v0, v1, cv, vb, vc⟩ := h.rows i (by omega)
      exact ⟨n0, by omega, ((hset _ (by omega)).trans (hw _ n1 (tne _ _ _ nb (by decide)))).trans nb, v0, by omega, cv, ((hset _ (by omega)).trans (hw _ v1 (tne _ _ _ vb (by decide)))).trans vb, vc⟩
end Go.Proofs.Ytiljakbjbiinkaa
