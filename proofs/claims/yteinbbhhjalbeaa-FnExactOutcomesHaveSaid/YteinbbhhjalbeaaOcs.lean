/-
  Lists of outcomes: how they lie in memory, and contracts of the laws' functions over them: sizes, copies, equality.
-/
import Derived.Test.YteinbbhhjalbeaaOc
import Derived.Deep.RegionHeld3
namespace Go.Proofs.Yteinbbhhjalbeaa
open Go.RowKit Pl Go.BigFrame
set_option maxHeartbeats 2000000
set_option maxRecDepth 100000
set_option linter.unusedVariables false

abbrev Ocs := List Oc
structure OcsH where
  A : Option Addr
  c : Nat
deriving Inhabited
abbrev OcsV (h : OcsH) (o : Ocs) : Value := .slice h.A o.length h.c
/-- An outcome's three cells lie from o on. -/
def OcAt (w : World) (b o : Nat) (k : OcH) (x : Oc) : Prop :=
  w.cell? ⟨b, o, none⟩ = some (.slice k.A0 x.f0.length k.c0) ∧ w.cell? ⟨b, o + 1, none⟩ = some (.slice k.A1 x.f1.length k.c1) ∧ w.cell? ⟨b, o + 2, none⟩ = some (.slice k.A2 x.f2.length k.c2)
def OcsR (w : World) (B : Nat) (h : OcsH) (o : Ocs) : Prop :=
  0 < o.length → ∃ b off, h.A = some ⟨b, off, none⟩ ∧ b < B ∧ ∀ (i : Nat) (x : Oc), o[i]? = some x → ∃ k, OcAt w b (off + i * 3) k x ∧ OcR w B k x
structure OcsL (o : Ocs) (m : Nat) : Prop where
  l : o.length ≤ m
  e : ∀ x ∈ o, OcL x m
abbrev OcsS (o : Ocs) : Prop := OcsL o 1048576
theorem OcsS_L {o : Ocs} (s : OcsS o) : OcsL o maxLen := ⟨by have := s.l; unfold maxLen; omega, fun x hx => OcS_L (s.e x hx)⟩
section
variable {w w' : World} {B B' B'' lo hi lo' hi' : Nat} {h : OcsH} {o : Ocs}
theorem OcAt.keep {b p : Nat} {k : OcH} {x : Oc} (r : OcAt w b p k x) (hk : ∀ o, w'.cell? ⟨b, o, none⟩ = w.cell? ⟨b, o, none⟩) : OcAt w' b p k x := by
  obtain ⟨h0, h1, h2⟩ := r
  exact ⟨(hk _).trans h0, (hk _).trans h1, (hk _).trans h2⟩
theorem OcsR.keep (r : OcsR w B h o) (hB : B ≤ B'') (hk : ∀ b o, b < B → w'.cell? ⟨b, o, none⟩ = w.cell? ⟨b, o, none⟩) : OcsR w' B'' h o := fun hn => by
  obtain ⟨b, off, hA, hb, hx⟩ := r hn
  refine ⟨b, off, hA, by omega, fun i x hi => ?_⟩
  obtain ⟨k, h1, h2⟩ := hx i x hi
  have h3 := h2.keepV hk
  exact ⟨k, h1.keep fun o => hk b o hb, ⟨h3.r0.keep hB fun _ _ _ => rfl, h3.r1.keep hB fun _ _ _ => rfl, h3.r2.keep hB fun _ _ _ => rfl⟩⟩
theorem OcsR.below (r : OcsR w B h o) (hb : Below B' w w') (hB : B ≤ B') : OcsR w' B h o := r.keep (Nat.le_refl _) fun b o hlt => hb.cell (p := ⟨b, o, none⟩) (by show b < B'; omega)
theorem OcsR.up (r : OcsR w B h o) (hb : Below B' w w') (hB : B ≤ B') (hB2 : B ≤ B'') : OcsR w' B'' h o := r.keep hB2 fun b o hlt => hb.cell (p := ⟨b, o, none⟩) (by show b < B'; omega)
theorem OcsR.at_ (r : OcsR w B h o) {i : Nat} (hi : i < o.length) : ∃ b off x k, h.A = some ⟨b, off, none⟩ ∧ b < B ∧ o[i]? = some x ∧ o.drop i = x :: o.drop (i + 1) ∧ OcAt w b (off + i * 3) k x ∧ OcR w B k x := by
  obtain ⟨b, off, hA, hb, hx⟩ := r (by omega)
  obtain ⟨x, h1, h2⟩ := drop_at hi
  obtain ⟨k, h3, h4⟩ := hx i x h1
  exact ⟨b, off, x, k, hA, hb, h1, h2, h3, h4⟩
end
/-- A list of outcomes in blocks from lo on, below hi. -/
structure OcsI (w : World) (lo hi : Nat) (h : OcsH) (o : Ocs) : Prop where
  i : 0 < o.length → ∃ b off, h.A = some ⟨b, off, none⟩ ∧ lo ≤ b ∧ b < hi ∧ ∀ (i : Nat) (x : Oc), o[i]? = some x → ∃ k, OcAt w b (off + i * 3) k x ∧ OcI w lo hi k x
theorem OcsI.keep {w w' : World} {lo hi lo' hi' : Nat} {h : OcsH} {o : Ocs} (r : OcsI w lo hi h o) (hl : lo' ≤ lo) (hh : hi ≤ hi') (hk : ∀ i, lo ≤ i → i < hi → w'.heap[i]? = w.heap[i]?) : OcsI w' lo' hi' h o := ⟨fun hn => by
  obtain ⟨b, off, hA, h0, hb, hx⟩ := r.i hn
  refine ⟨b, off, hA, by omega, by omega, fun i x hi => ?_⟩
  obtain ⟨k, h1, h2⟩ := hx i x hi
  exact ⟨k, h1.keep fun o => World.cell?_of_block (a := ⟨b, o, none⟩) (hk b h0 hb), h2.keep hl hh hk⟩⟩
theorem OcsI.below {w w' : World} {lo hi B : Nat} {h : OcsH} {o : Ocs} (r : OcsI w lo hi h o) (hb : Below B w w') (hB : hi ≤ B) : OcsI w' lo hi h o := r.keep (Nat.le_refl _) (Nat.le_refl _) fun i _ hi => hb.block i (by omega)
theorem OcsI.rd {w : World} {lo hi : Nat} {h : OcsH} {o : Ocs} (r : OcsI w lo hi h o) : OcsR w hi h o := fun hn => by
  obtain ⟨b, off, hA, _, hb, hx⟩ := r.i hn
  refine ⟨b, off, hA, hb, fun i x hi => ?_⟩
  obtain ⟨k, h1, h2⟩ := hx i x hi
  exact ⟨k, h1, h2.rd⟩

/-! ### sizes -/
def szOcL : Int → List Oc → Int
  | a, [] => a
  | a, x :: r => if szOc a x < 0 then -1 else szOcL (szOc a x) r
def szOcs (a : Int) (o : Ocs) : Int := if a - o.length < 0 then -1 else szOcL (a - o.length) o
theorem szOcL_ge (o : List Oc) : ∀ a : Int, 0 ≤ a → -1 ≤ szOcL a o ∧ szOcL a o ≤ a := by
  induction o with
  | nil => intro a h; simp [szOcL]; omega
  | cons x r ih =>
    intro a h
    unfold szOcL
    split
    · omega
    · have := ih _ (show 0 ≤ szOc a x by omega)
      have := (szOc_ge a x h).2
      omega
theorem szOcs_ge (a : Int) (o : Ocs) (ha : 0 ≤ a) : -1 ≤ szOcs a o ∧ szOcs a o ≤ a := by
  unfold szOcs
  split
  · omega
  · have := szOcL_ge o (a - o.length) (by omega)
    omega
theorem szOcL_mem (o : List Oc) : ∀ a : Int, 0 ≤ szOcL a o → 0 ≤ a → a ≤ 1048576 → ∀ x ∈ o, OcL x 1048576 := by
  induction o with
  | nil => intro a _ _ _ x hx; simp at hx
  | cons y r ih =>
    intro a h h0 h1 x hx
    unfold szOcL at h
    split at h
    · omega
    · rename_i hn
      have h2 := szOc_ge a y h0
      rcases List.mem_cons.1 hx with rfl | hx
      · exact szOc_small (by omega) h0 h1
      · exact ih _ h (by omega) (by omega) x hx
theorem szOcs_small {a : Int} {o : Ocs} (h : 0 ≤ szOcs a o) (ha : 0 ≤ a) (ha2 : a ≤ 1048576) : OcsS o := by
  unfold szOcs at h
  split at h
  · omega
  · exact ⟨by omega, szOcL_mem o _ h (by omega) (by omega)⟩
theorem szOcs_any (h : OcsH) (o : Ocs) (left : Int) (w : World) (B : Nat) (hR : OcsR w B h o) (hB : B ≤ w.heap.size) (hL : OcsL o maxLen) (h0 : 0 ≤ left) (h1 : left ≤ 1048576) (r : Int) (hr : Hid (szOcs left o = r)) :
    Calls Try.prog 54 #[OcsV h o, .int .i64 left] w fun e w' => e = .returned (.int .i64 r) ∧ Below w.heap.size w w' := by
  obtain ⟨A, c⟩ := h
  show Calls Try.prog 54 #[.slice A o.length c, .int .i64 left] w _
  have hn := hL.l
  unfold maxLen at hn
  have HL := Lib.hid hL.e
  clear hL
  by_cases hs : left - o.length < 0
  · have hfin : Hid (r = -1) := Lib.hid (by rw [← hr.out, szOcs, if_pos hs])
    clear hr
    go_enter Try.func54, Try.ntmps54
    go_wp2
    go_ret
    exact ⟨by rw [hfin.out]; rfl, Below.refl _ _⟩
  · have hfin : Hid (szOcL (left - o.length) o = r) := Lib.hid (by rw [← hr.out, szOcs, if_neg hs])
    clear hr
    go_enter Try.func54, Try.ntmps54
    go_wp2
    go_loopw [1, 5] (fun l i wr => ∃ (k : Nat) (lf : Int), k ≤ o.length ∧ i = .int .i64 k ∧ l = .int .i64 lf ∧ 0 ≤ lf ∧ lf ≤ 1048576 ∧ Below w.heap.size w wr ∧ Hid (szOcL lf (o.drop k) = r)) (fun _ i _ => o.length - (intOf i).toNat)
    case atStart => exact ⟨0, _, Nat.zero_le _, rfl, rfl, by omega, by omega, Below.refl _ _, by simpa using hfin⟩
    case round =>
      obtain ⟨k, lf, hk, rfl, rfl, hl0, hl1, hbel, hrest⟩ := hrel
      clear hfin
      by_cases hlt : k < o.length
      · obtain ⟨b, off, x, q, hA, hb, hx, hd, ⟨c0, c1, c2⟩, hrx⟩ := (hR.below hbel hB).at_ hlt
        have hLx := HL.out x (List.mem_of_getElem? hx)
        have Hrx := Lib.hid hrx
        have hz := hbel.size
        have Hb := Lib.hid hbel
        obtain ⟨z, hz0⟩ : ∃ z, szOc lf x = z := ⟨_, rfl⟩
        have hge := szOc_ge lf x hl0
        rw [hz0] at hge
        have hr2 := hrest.out
        rw [hd, szOcL, hz0] at hr2
        have HZ := Lib.hid hz0
        have HLx := Lib.hid hLx
        clear hd hx hrx hz0 hrest hLx hbel
        have hA' : A = _ := hA
        subst hA'
        clear hA
        by_cases h2 : z < 0
        · have hlast : Hid (r = -1) := Lib.hid (by rw [← hr2, if_pos h2])
          clear hr2
          go_wp2_with fail
          refine (szOc_any q x lf wr B Hrx.out (by omega) HLx.out hl0 hl1 z HZ).mono ?_
          rintro e w1 ⟨rfl, hb1⟩
          have hB1 := below_on Hb.out hb1
          clear hb1
          go_wp2
          go_ret
          exact ⟨by rw [hlast.out]; rfl, hB1⟩
        · have hnext : Hid (szOcL z (o.drop (k + 1)) = r) := Lib.hid (by rw [← hr2, if_neg h2])
          clear hr2
          go_wp2_with fail
          refine (szOc_any q x lf wr B Hrx.out (by omega) HLx.out hl0 hl1 z HZ).mono ?_
          rintro e w1 ⟨rfl, hb1⟩
          have hB1 := below_on Hb.out hb1
          clear hb1
          go_wp2
          go_roundw
          case rel => exact ⟨k + 1, _, by omega, by go_num, rfl, by omega, by omega, hB1, hnext⟩
          case measure => simp [intOf]; omega
      · have hlast : Hid (r = lf) := Lib.hid (by rw [← hrest.out, List.drop_eq_nil_of_le (by omega)]; rfl)
        go_wp2
        go_ret
        exact ⟨by rw [hlast.out]; rfl, hbel⟩

/-! ### copies -/
def put3 (cs : Array Value) (o : Nat) (a b c : Value) : Array Value := ((cs.setIfInBounds o a).setIfInBounds (o + 1) b).setIfInBounds (o + 2) c
theorem size_put3 (cs : Array Value) (o : Nat) (a b c : Value) : (put3 cs o a b c).size = cs.size := by simp [put3]
theorem put3_at {cs : Array Value} {o : Nat} (a b c : Value) (h : o + 3 ≤ cs.size) : (put3 cs o a b c)[o]? = some a ∧ (put3 cs o a b c)[o + 1]? = some b ∧ (put3 cs o a b c)[o + 2]? = some c := by
  refine ⟨?_, ?_, ?_⟩ <;> (simp [put3, Array.getElem?_setIfInBounds]; omega)
theorem put3_far {cs : Array Value} {o i : Nat} (a b c : Value) (h : i < o ∨ o + 3 ≤ i) : (put3 cs o a b c)[i]? = cs[i]? := by
  unfold put3
  rw [Array.getElem?_setIfInBounds_ne (by omega), Array.getElem?_setIfInBounds_ne (by omega), Array.getElem?_setIfInBounds_ne (by omega)]
/-- What a copy of outcomes has come to behind k rounds. -/
def CopyO (w wr : World) (o : Ocs) (k : Nat) : Prop :=
  Below w.heap.size w wr ∧ ∃ cs, Bk wr w.heap.size 68 cs ∧ cs.size = o.length * 3 ∧ ∀ (i : Nat) (x : Oc), i < k → o[i]? = some x → ∃ q : OcH, (cs[i * 3]? = some (.slice q.A0 x.f0.length q.c0) ∧ cs[i * 3 + 1]? = some (.slice q.A1 x.f1.length q.c1) ∧ cs[i * 3 + 2]? = some (.slice q.A2 x.f2.length q.c2)) ∧ OcI wr (w.heap.size + 1) wr.heap.size q x
theorem CopyO.next {w wr w1 : World} {o : Ocs} {k : Nat} {x : Oc} {q : OcH} (h : CopyO w wr o k) (hb : Below wr.heap.size wr w1) (ho : OcO w1 wr.heap.size w1.heap.size q x) (hx : o[k]? = some x) :
    CopyO w (((w1.setCell ⟨w.heap.size, k * 3, none⟩ (.slice q.A0 x.f0.length q.c0)).setCell ⟨w.heap.size, k * 3 + 1, none⟩ (.slice q.A1 x.f1.length q.c1)).setCell ⟨w.heap.size, k * 3 + 2, none⟩ (.slice q.A2 x.f2.length q.c2)) o (k + 1) := by
  obtain ⟨h0, cs, hbk, hsz, hc⟩ := h
  have hk : k < o.length := (List.getElem?_eq_some_iff.1 hx).1
  have hlt := hbk.lt
  have hz := hb.size
  have hset : ∀ i, i ≠ w.heap.size → (((w1.setCell ⟨w.heap.size, k * 3, none⟩ (.slice q.A0 x.f0.length q.c0)).setCell ⟨w.heap.size, k * 3 + 1, none⟩ (.slice q.A1 x.f1.length q.c1)).setCell ⟨w.heap.size, k * 3 + 2, none⟩ (.slice q.A2 x.f2.length q.c2)).heap[i]? = w1.heap[i]? := fun i hi =>
    (Below.heap_setCell _ _ _ i hi).trans ((Below.heap_setCell _ _ _ i hi).trans (Below.heap_setCell _ _ _ i hi))
  have hs2 : (((w1.setCell ⟨w.heap.size, k * 3, none⟩ (.slice q.A0 x.f0.length q.c0)).setCell ⟨w.heap.size, k * 3 + 1, none⟩ (.slice q.A1 x.f1.length q.c1)).setCell ⟨w.heap.size, k * 3 + 2, none⟩ (.slice q.A2 x.f2.length q.c2)).heap.size = w1.heap.size := by simp
  refine ⟨(((below_on h0 hb).setCell (Nat.le_refl _) _).setCell (Nat.le_refl _) _).setCell (Nat.le_refl _) _, put3 cs (k * 3) _ _ _, (((hbk.below hb hlt).set _ _).set _ _).set _ _, by rw [size_put3]; exact hsz, ?_⟩
  have ne : ∀ (y : Oc) (q' : OcH) (W : World) (hW : ∀ i, i ≠ w.heap.size → W.heap[i]? = w1.heap[i]?) (u v : Nat), w.heap.size < u → OcI w1 u v q' y → OcI W u v q' y := fun y q' W hW u v hu hI => hI.keep (Nat.le_refl _) (Nat.le_refl _) fun i h1 _ => hW i (by omega)
  intro i y hi hy
  by_cases e : i = k
  · subst e
    obtain rfl : x = y := by rw [hx] at hy; injection hy
    refine ⟨q, put3_at _ _ _ (by rw [hsz]; omega), ?_⟩
    rw [hs2]
    exact (ne _ _ _ hset _ _ hlt ho.in_).keep (by omega) (Nat.le_refl _) fun _ _ _ => rfl
  · obtain ⟨q', ⟨g0, g1, g2⟩, g3⟩ := hc i y (by omega) hy
    refine ⟨q', ⟨(put3_far _ _ _ (by omega)).trans g0, (put3_far _ _ _ (by omega)).trans g1, (put3_far _ _ _ (by omega)).trans g2⟩, ?_⟩
    rw [hs2]
    exact (ne _ _ _ hset (w.heap.size + 1) wr.heap.size (by omega) (g3.below hb (Nat.le_refl _))).keep (Nat.le_refl _) hz fun _ _ _ => rfl
theorem CopyO.done {w wr : World} {o : Ocs} (h : CopyO w wr o o.length) : OcsI wr w.heap.size wr.heap.size ⟨some ⟨w.heap.size, 0, none⟩, o.length⟩ o := ⟨fun _ => by
  obtain ⟨_, cs, hbk, _, hc⟩ := h
  refine ⟨_, 0, rfl, Nat.le_refl _, hbk.lt, fun i x hi => ?_⟩
  obtain ⟨q, ⟨g0, g1, g2⟩, g3⟩ := hc i x (List.getElem?_eq_some_iff.1 hi).1 hi
  exact ⟨q, ⟨by rw [Nat.zero_add]; exact (hbk.cell _).trans g0, by rw [Nat.zero_add]; exact (hbk.cell _).trans g1, by rw [Nat.zero_add]; exact (hbk.cell _).trans g2⟩, g3.keep (by omega) (Nat.le_refl _) fun _ _ _ => rfl⟩⟩
theorem Try.info68 : (Try.prog.info? 68).map (fun i => (i.zero, i.size, i.bytes)) = some (some (.agg #[.slice none 0 0, .slice none 0 0, .slice none 0 0]), 3, 72) := by kernel_rfl
/-- What a copy of outcomes comes to. -/
def ToOcs (w : World) (o : Ocs) (e : Ending) (w' : World) : Prop := ∃ h, e = .returned (OcsV h o) ∧ Below w.heap.size w w' ∧ w.heap.size < w'.heap.size ∧ OcsI w' w.heap.size w'.heap.size h o
theorem toOcs_any (h : OcsH) (o : Ocs) (w : World) (B : Nat) (hR : OcsR w B h o) (hB : B ≤ w.heap.size) (hS : OcsS o) :
    Calls Try.prog 56 #[OcsV h o] w (ToOcs w o) := by
  obtain ⟨A, c⟩ := h
  show Calls Try.prog 56 #[.slice A o.length c] w _
  obtain ⟨i0, hi, hz0, hz1, hz2⟩ := info_parts Try.info68
  have hl := hS.l
  have hmk := make_any Try.underlying81 hi hz0 o.length (by rw [hz2]; omega) (by omega)
  rw [hz1] at hmk
  have start := Lib.hid (show CopyO w (w.alloc (.cells (madeCells #[.slice none 0 0, .slice none 0 0, .slice none 0 0] (o.length * 3)) 68)) o 0 from
    ⟨(Below.refl _ _).alloc (Nat.le_refl _) _, _, Bk.new _ _ _, by simp [size_madeCells], fun i x hj => absurd hj (by omega)⟩)
  have HE := Lib.hid hS.e
  clear hz0 hz1 hz2 hi hS
  go_enter Try.func56, Try.ntmps56
  go_wp2
  go_loopw [4] (fun i wr => ∃ k : Nat, k ≤ o.length ∧ i = .int .i64 k ∧ CopyO w wr o k) (fun i _ => o.length - (intOf i).toNat)
  case atStart => exact ⟨0, Nat.zero_le _, rfl, start.out⟩
  case round =>
    obtain ⟨k, hk, rfl, hcp⟩ := hrel
    clear start hmk
    by_cases hlt : k < o.length
    · obtain ⟨hbel, cs, hbk, hsz, -⟩ := id hcp
      obtain ⟨b, off, x, q, hA, hb, hx, -, ⟨c0, c1, c2⟩, hrx⟩ := (hR.below hbel hB).at_ hlt
      have hLx := HE.out x (List.mem_of_getElem? hx)
      have Hx := Lib.hid hx
      have Hrx := Lib.hid hrx
      have hg := hbk.lt
      have hz := hbel.size
      have hbw : b < wr.heap.size := by omega
      have Kb := Lib.hid hbk
      have Hcp := Lib.hid hcp
      have HLx := Lib.hid hLx
      have hsz' := Nat.le_of_eq hsz.symm
      clear hbk hx hrx hbel hcp hLx hsz
      have hA' : A = _ := hA
      subst hA'
      clear hA
      go_wp2_with fail
      refine (toOc_any q x wr B Hrx.out (by omega) HLx.out).mono ?_
      rintro e w1 ⟨q2, rfl, hb1, hlt1, ow⟩
      have kb1 := Kb.out.below hb1 hg
      obtain ⟨v0, e0⟩ := kb1.some_ (i := k * 3) (by omega)
      obtain ⟨v1, e1⟩ := kb1.some_ (i := k * 3 + 1) (by omega)
      obtain ⟨v2, e2⟩ := kb1.some_ (i := k * 3 + 2) (by omega)
      have f0 := kb1.free (k * 3)
      have f1 := kb1.free (k * 3 + 1)
      have f2 := kb1.free (k * 3 + 2)
      have Next := Lib.hid (Hcp.out.next hb1 ow Hx.out)
      clear kb1 hb1 ow c0 c1 c2
      go_wp2
      go_roundw
      case rel => exact ⟨k + 1, by omega, by go_num, Next.out⟩
      case measure => simp [intOf]; omega
    · have hkl : k = o.length := by omega
      subst hkl
      go_wp2
      go_ret
      obtain ⟨hb, cs, hbk, _⟩ := id hcp
      exact ⟨_, rfl, hb, hbk.lt, hcp.done⟩

/-! ### equality -/
theorem eqOcs_any (h1 h2 : OcsH) (o1 o2 : Ocs) (w : World) (B : Nat) (r1 : OcsR w B h1 o1) (r2 : OcsR w B h2 o2) (hB : B ≤ w.heap.size) (L1 : OcsL o1 maxLen) (L2 : OcsL o2 maxLen) (r : Bool) (hr : Hid (decide (o1 = o2) = r)) :
    Calls Try.prog 58 #[OcsV h1 o1, OcsV h2 o2] w fun e w' => e = .returned (.bool r) ∧ Below w.heap.size w w' := by
  obtain ⟨A1, d1⟩ := h1
  obtain ⟨A2, d2⟩ := h2
  show Calls Try.prog 58 #[.slice A1 o1.length d1, .slice A2 o2.length d2] w _
  have hm1 := L1.l
  have hm2 := L2.l
  unfold maxLen at hm1 hm2
  have HE1 := Lib.hid L1.e
  have HE2 := Lib.hid L2.e
  clear L1 L2
  by_cases hne : o1.length = o2.length
  · have heq : ((o1.length : Int) != (o2.length : Int)) = false := by simp [hne]
    have hle : o1.length ≤ o2.length := by omega
    have hge : o2.length ≤ o1.length := by omega
    clear hne
    go_enter Try.func58, Try.ntmps58
    go_wp2
    go_loopw [5] (fun i wr => ∃ k : Nat, k ≤ o1.length ∧ i = .int .i64 k ∧ Below w.heap.size w wr ∧ Hid (decide (o1.drop k = o2.drop k) = r)) (fun i _ => o1.length - (intOf i).toNat)
    case atStart => exact ⟨0, Nat.zero_le _, rfl, Below.refl _ _, by simpa using hr⟩
    case round =>
      obtain ⟨k, hk, rfl, hbel, hrest⟩ := hrel
      clear hr heq
      by_cases hlt : k < o1.length
      · obtain ⟨b1, off1, x, q1, hA1, hb1, hx, hd1, ⟨c0, c1, c2⟩, hrx⟩ := (r1.below hbel hB).at_ hlt
        obtain ⟨b2, off2, y, q2, hA2, hb2, hy, hd2, ⟨e0, e1, e2⟩, hry⟩ := (r2.below hbel hB).at_ (show k < o2.length by omega)
        have HLx := Lib.hid (HE1.out x (List.mem_of_getElem? hx))
        have HLy := Lib.hid (HE2.out y (List.mem_of_getElem? hy))
        have hz := hbel.size
        have hi1 : (k : Int) < (o1.length : Int) := by omega
        have hi2 : (k : Int) < (o2.length : Int) := by omega
        have Hd1 := Lib.hid hd1
        have Hd2 := Lib.hid hd2
        have Gx := Lib.hid (fun z : Ws (Fr wr []) => hrx.below z.ok.below (by omega))
        have Gy := Lib.hid (fun z : Ws (Fr wr []) => hry.below z.ok.below (by omega))
        have Gz : Hid (∀ z : Ws (Fr wr []), B ≤ z.val.heap.size) := Lib.hid (fun z => by have := z.ok.below.size; omega)
        have gx0 := Ws.same (bs := []) (by omega) c0
        have gx1 := Ws.same (bs := []) (by omega) c1
        have gx2 := Ws.same (bs := []) (by omega) c2
        have gy0 := Ws.same (bs := []) (by omega) e0
        have gy1 := Ws.same (bs := []) (by omega) e1
        have gy2 := Ws.same (bs := []) (by omega) e2
        have HS := Lib.hid (fr_none wr)
        haveI hne := Nonempty.intro (Ws.mk _ (fr_none wr))
        clear hd1 hd2 hx hy hrx hry c0 c1 c2 e0 e1 e2
        have hA1' : A1 = _ := hA1
        have hA2' : A2 = _ := hA2
        subst hA1' hA2'
        clear hA1 hA2
        rcases Bool.eq_false_or_eq_true (decide (x = y)) with he | he
        all_goals
          have He := Lib.hid he
          clear he
          go_wp2_with fail
          refine region_in (by kernel_rfl) HS.out.drew ?_
          repeat (go_big_quiet_step ((go_at_call 47; exact call_in (eqOc_any q1 q2 x y _ B (Gx.out _) (Gy.out _) (Gz.out _) HLx.out HLy.out _ He))))
          refine wpQuiet_nil ?_
          rintro w2 ⟨⟨_, hw2⟩, rfl⟩
          have hB2 : Below w.heap.size w w2 := below_on hbel hw2.below
          clear gx0 gx1 gx2 gy0 gy1 gy2
          go_wp2
        · go_roundw
          case rel => exact ⟨k + 1, by omega, by go_num, hB2, by
            have hxy : x = y := of_decide_eq_true He.out
            have := hrest.out
            rw [Hd1.out, Hd2.out, hxy] at this
            exact Lib.hid (by rw [← this]; simp)⟩
          case measure => simp [intOf]; omega
        · go_ret
          refine ⟨?_, hB2⟩
          have hxy : x ≠ y := of_decide_eq_false He.out
          have := hrest.out
          rw [Hd1.out, Hd2.out] at this
          rw [← this]
          simp [hxy]
      · have hlast : Hid (r = true) := Lib.hid (by
          have := hrest.out
          rw [List.drop_eq_nil_of_le (by omega), List.drop_eq_nil_of_le (by omega)] at this
          rw [← this]; rfl)
        go_wp2
        go_ret
        exact ⟨by rw [hlast.out]; rfl, hbel⟩
  · have hlast : Hid (r = false) := Lib.hid (by rw [← hr.out]; exact decide_eq_false (fun e => hne (by rw [e])))
    have heq : ((o1.length : Int) != (o2.length : Int)) = true := by simp; omega
    clear hr
    go_enter Try.func58, Try.ntmps58
    go_wp2
    go_ret
    exact ⟨by rw [hlast.out]; rfl, Below.refl _ _⟩
end Go.Proofs.Yteinbbhhjalbeaa
