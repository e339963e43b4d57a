/-
  Copies of notes, of lists of notes and of lists of such lists; whether two are equal.
-/
import Derived.Test.YtaghidaamcnpkabNt
namespace Go.Proofs.Ytaghidaamcnpkab
open Go.RowKit Pl Go.BigFrame
set_option maxHeartbeats 2000000
set_option maxRecDepth 100000
set_option linter.unusedVariables false

theorem Try.info127 : (Try.prog.info? 127).map (fun i => (i.zero, i.size, i.bytes)) = some (some (.agg #[.int .i64 0, .slice none 0 0, .bool false]), 3, 40) := by kernel_rfl
theorem Try.info125 : (Try.prog.info? 125).map (fun i => (i.zero, i.size, i.bytes)) = some (some (.slice none 0 0), 1, 24) := by kernel_rfl
/-! ### a block's cells, three at a time -/
def put3n (cs : Array Value) (o : Nat) (a b c : Value) : Array Value := ((cs.setIfInBounds o a).setIfInBounds (o + 1) b).setIfInBounds (o + 2) c
theorem size_put3n (cs : Array Value) (o : Nat) (a b c : Value) : (put3n cs o a b c).size = cs.size := by simp [put3n]
theorem put3n_at {cs : Array Value} {o : Nat} (a b c : Value) (h : o + 3 ≤ cs.size) : (put3n cs o a b c)[o]? = some a ∧ (put3n cs o a b c)[o + 1]? = some b ∧ (put3n cs o a b c)[o + 2]? = some c := by
  refine ⟨?_, ?_, ?_⟩ <;> (simp [put3n, Array.getElem?_setIfInBounds]; omega)
theorem put3n_far {cs : Array Value} {o i : Nat} (a b c : Value) (h : i < o ∨ o + 3 ≤ i) : (put3n cs o a b c)[i]? = cs[i]? := by
  unfold put3n
  rw [Array.getElem?_setIfInBounds_ne (by omega), Array.getElem?_setIfInBounds_ne (by omega), Array.getElem?_setIfInBounds_ne (by omega)]
theorem NtC.far {cs : Array Value} {p i : Nat} {k : NtH} {x : Nt} (h : NtC cs (i * 3) k x) (a b c : Value) (hne : i ≠ p) : NtC (put3n cs (p * 3) a b c) (i * 3) k x := by
  obtain ⟨h0, h1, h2⟩ := h
  exact ⟨(put3n_far _ _ _ (by omega)).trans h0, (put3n_far _ _ _ (by omega)).trans h1, (put3n_far _ _ _ (by omega)).trans h2⟩

/-! ### copies -/
def ToNt (w : World) (x : Nt) (e : Ending) (w' : World) : Prop := ∃ q, e = .returned (NtV q x) ∧ Below w.heap.size w w' ∧ OwnVs w' w.heap.size w'.heap.size 3 q.A (ints x.w)
theorem toNt_any (h : NtH) (x : Nt) (w : World) (B : Nat) (hR : Vs w B h.A (ints x.w)) (hB : B ≤ w.heap.size) (hL : x.w.length ≤ 1048576) :
    Calls Try.prog 124 #[NtV h x] w (ToNt w x) := by
  obtain ⟨W, hW⟩ : ∃ W, W = ((w.alloc (.cells #[.int .i64 x.v, .slice h.A x.w.length h.c, .bool x.g] 160)).alloc (.cells #[.int .i64 0, .slice none 0 0, .bool false] 127)).alloc (.cells #[.int .i64 x.v, .slice none 0 0, .bool false] 127) := ⟨_, rfl⟩
  have bW : Below w.heap.size w W := by rw [hW]; go_grown
  have sW : W.heap.size = w.heap.size + 1 + 1 + 1 := by rw [hW]; simp
  have k0 : Bk W w.heap.size 160 #[.int .i64 x.v, .slice h.A x.w.length h.c, .bool x.g] := by rw [hW]; exact ((Bk.new w _ _).alloc _).alloc _
  have k1 : Bk W (w.heap.size + 1) 127 #[.int .i64 0, .slice none 0 0, .bool false] := by
    rw [hW]; have := (Bk.new (w.alloc (.cells #[.int .i64 x.v, .slice h.A x.w.length h.c, .bool x.g] 160)) #[.int .i64 0, .slice none 0 0, .bool false] 127).alloc (.cells #[.int .i64 x.v, .slice none 0 0, .bool false] 127)
    rwa [World.size_alloc] at this
  have k2 : Bk W (w.heap.size + 1 + 1) 127 #[.int .i64 x.v, .slice none 0 0, .bool false] := by
    rw [hW]; have := Bk.new ((w.alloc (.cells #[.int .i64 x.v, .slice h.A x.w.length h.c, .bool x.g] 160)).alloc (.cells #[.int .i64 0, .slice none 0 0, .bool false] 127)) #[.int .i64 x.v, .slice none 0 0, .bool false] 127
    rwa [World.size_alloc, World.size_alloc] at this
  have R0 := Lib.hid (hR.below bW hB)
  have K0 := Lib.hid k0
  have L0 := Lib.hid k1
  have M0 := Lib.hid k2
  have B0 := Lib.hid bW
  have sWl : w.heap.size + 3 ≤ W.heap.size := by omega
  have HW := Lib.hid hW
  clear hW bW sW k0 k1 k2 hR
  go_enter Try.func124, Try.ntmps124
  go_wp2_with fail
  rw [← HW.out]
  refine (toInt_any h.A x.w h.c W B R0.out (by omega) hL).mono ?_
  rintro e w1 ⟨rfl, cp⟩
  have hb := cp.1
  have hlt := cp.lt
  have own := cp.done
  have K1 := Lib.hid (K0.out.below hb K0.out.lt)
  have L1 := Lib.hid (L0.out.below hb L0.out.lt)
  have M1 := Lib.hid (M0.out.below hb M0.out.lt)
  have B1 := Lib.hid (below_on B0.out (hb.mono (by omega)))
  have Own := Lib.hid own
  clear cp hb own K0 L0 M0 B0 R0
  have v2 : w1.cell? ⟨w.heap.size, 2, none⟩ = some (.bool x.g) := K1.out.cell 2
  have xo0 : w1.cell? ⟨w.heap.size + 1 + 1, 0, none⟩ = some (.int .i64 x.v) := M1.out.cell 0
  have x1 : w1.cell? ⟨w.heap.size + 1 + 1, 1, none⟩ = some (.slice none 0 0) := M1.out.cell 1
  have x2 : w1.cell? ⟨w.heap.size + 1 + 1, 2, none⟩ = some (.bool false) := M1.out.cell 2
  have y1 := M1.out.free 1
  have y2 := M1.out.free 2
  have xr0 : w1.cell? ⟨w.heap.size + 1, 0, none⟩ = some (.int .i64 0) := L1.out.cell 0
  have xr1 : w1.cell? ⟨w.heap.size + 1, 1, none⟩ = some (.slice none 0 0) := L1.out.cell 1
  have xr2 : w1.cell? ⟨w.heap.size + 1, 2, none⟩ = some (.bool false) := L1.out.cell 2
  have fr0 := L1.out.free 0
  have fr1 := L1.out.free 1
  have fr2 := L1.out.free 2
  obtain ⟨F, hF⟩ : ∃ F, F = ((((w1.setCell ⟨w.heap.size + 1 + 1, 1, none⟩ (.slice (some ⟨W.heap.size, 0, none⟩) x.w.length x.w.length)).setCell ⟨w.heap.size + 1 + 1, 2, none⟩ (.bool x.g)).setCell ⟨w.heap.size + 1, 0, none⟩ (.int .i64 x.v)).setCell ⟨w.heap.size + 1, 1, none⟩ (.slice (some ⟨W.heap.size, 0, none⟩) x.w.length x.w.length)).setCell ⟨w.heap.size + 1, 2, none⟩ (.bool x.g) := ⟨_, rfl⟩
  have kF : Bk F (w.heap.size + 1) 127 #[.int .i64 x.v, .slice (some ⟨W.heap.size, 0, none⟩) x.w.length x.w.length, .bool x.g] := by
    rw [hF]; have := ((((L1.out.far (p := ⟨w.heap.size + 1 + 1, 1, none⟩) (by show w.heap.size + 1 ≠ w.heap.size + 1 + 1; omega) (.slice (some ⟨W.heap.size, 0, none⟩) x.w.length x.w.length)).far (p := ⟨w.heap.size + 1 + 1, 2, none⟩) (by show w.heap.size + 1 ≠ w.heap.size + 1 + 1; omega) (.bool x.g)).set 0 (.int .i64 x.v)).set 1 (.slice (some ⟨W.heap.size, 0, none⟩) x.w.length x.w.length)).set 2 (.bool x.g)
    simpa using this
  have bF : Below w.heap.size w1 F := by rw [hF]; exact (((((Below.refl _ _).setCell (by show _ ≤ w.heap.size + 1 + 1; omega) _).setCell (by show _ ≤ w.heap.size + 1 + 1; omega) _).setCell (by show _ ≤ w.heap.size + 1; omega) _).setCell (by show _ ≤ w.heap.size + 1; omega) _).setCell (by show _ ≤ w.heap.size + 1; omega) _
  have nF : ∀ q, w.heap.size + 1 + 1 < q → F.heap[q]? = w1.heap[q]? := fun q hq => by rw [hF]; exact (Below.heap_setCell _ _ _ q (by show q ≠ w.heap.size + 1; omega)).trans ((Below.heap_setCell _ _ _ q (by show q ≠ w.heap.size + 1; omega)).trans ((Below.heap_setCell _ _ _ q (by show q ≠ w.heap.size + 1; omega)).trans ((Below.heap_setCell _ _ _ q (by show q ≠ w.heap.size + 1 + 1; omega)).trans (Below.heap_setCell _ _ _ q (by show q ≠ w.heap.size + 1 + 1; omega)))))
  have sF : w1.heap.size ≤ F.heap.size := by rw [hF]; simp
  have HF := Lib.hid hF
  have NF := Lib.hid nF
  have BF := Lib.hid bF
  have KF := Lib.hid kF
  clear hF nF bF kF
  go_wp2
  rw [← HF.out]
  have cF0 : F.cell? ⟨w.heap.size + 1, 0, none⟩ = some (.int .i64 x.v) := KF.out.cell 0
  have cF1 : F.cell? ⟨w.heap.size + 1, 1, none⟩ = some (.slice (some ⟨W.heap.size, 0, none⟩) x.w.length x.w.length) := KF.out.cell 1
  have cF2 : F.cell? ⟨w.heap.size + 1, 2, none⟩ = some (.bool x.g) := KF.out.cell 2
  refine bodyPost_ret (v := .agg #[.int .i64 x.v, .slice (some ⟨W.heap.size, 0, none⟩) x.w.length x.w.length, .bool x.g]) (by simp [results, Try.results124, cF0, cF1, cF2, go_sem]) rfl ?_
  exact ⟨⟨_, _⟩, rfl, B1.out.trans BF.out, Own.out.keep (by omega) (by omega) fun q h1 h2 => NF.out q (by omega)⟩

/-- What a copy of notes has come to behind k rounds. -/
def CopyN (w wr : World) (o : Nts) (k : Nat) : Prop :=
  Below w.heap.size w wr ∧ ∃ (cs : Array Value) (m : Nat → Nat) (H : Nat → NtH), Bk wr w.heap.size 127 cs ∧ cs.size = o.length * 3 ∧ w.heap.size < m 0 ∧ (∀ i j, i ≤ j → m i ≤ m j) ∧ (∀ i, m i ≤ wr.heap.size) ∧
    ∀ (i : Nat) (x : Nt), i < k → o[i]? = some x → NtC cs (i * 3) (H i) x ∧ OwnVs wr (m i) (m (i + 1)) 3 (H i).A (ints x.w)
/-- The parts' bounds, one part more behind part k. -/
def mOn (m : Nat → Nat) (k s : Nat) (i : Nat) : Nat := if i ≤ k then m i else s
theorem mOn_le (m : Nat → Nat) (k s : Nat) (h : ∀ i j, i ≤ j → m i ≤ m j) (hs : ∀ i, m i ≤ s) : ∀ i j, i ≤ j → mOn m k s i ≤ mOn m k s j := fun i j hij => by
  unfold mOn
  have := h i j hij
  have := hs i
  split <;> split <;> omega
theorem mOn_top (m : Nat → Nat) (k s t : Nat) (hs : ∀ i, m i ≤ t) (ht : s ≤ t) : ∀ i, mOn m k s i ≤ t := fun i => by
  unfold mOn
  have := hs i
  split <;> omega
theorem CopyN.next {w wr w1 : World} {o : Nts} {k : Nat} {x : Nt} {q : NtH} (h : CopyN w wr o k) (hb : Below wr.heap.size wr w1) (ho : OwnVs w1 wr.heap.size w1.heap.size 3 q.A (ints x.w)) (hx : o[k]? = some x) :
    CopyN w (((w1.setCell ⟨w.heap.size, k * 3, none⟩ (.int .i64 x.v)).setCell ⟨w.heap.size, k * 3 + 1, none⟩ (.slice q.A x.w.length q.c)).setCell ⟨w.heap.size, k * 3 + 2, none⟩ (.bool x.g)) o (k + 1) := by
  obtain ⟨h0, cs, m, H, hbk, hsz, hm0, hm, hm2, hc⟩ := h
  have hk : k < o.length := (List.getElem?_eq_some_iff.1 hx).1
  have hlt := hbk.lt
  have hz := hb.size
  have hset : ∀ i, i ≠ w.heap.size → (((w1.setCell ⟨w.heap.size, k * 3, none⟩ (.int .i64 x.v)).setCell ⟨w.heap.size, k * 3 + 1, none⟩ (.slice q.A x.w.length q.c)).setCell ⟨w.heap.size, k * 3 + 2, none⟩ (.bool x.g)).heap[i]? = w1.heap[i]? := fun i hi =>
    (Below.heap_setCell _ _ _ i hi).trans ((Below.heap_setCell _ _ _ i hi).trans (Below.heap_setCell _ _ _ i hi))
  have hs2 : (((w1.setCell ⟨w.heap.size, k * 3, none⟩ (.int .i64 x.v)).setCell ⟨w.heap.size, k * 3 + 1, none⟩ (.slice q.A x.w.length q.c)).setCell ⟨w.heap.size, k * 3 + 2, none⟩ (.bool x.g)).heap.size = w1.heap.size := by simp
  refine ⟨(((below_on h0 hb).setCell (Nat.le_refl _) _).setCell (Nat.le_refl _) _).setCell (Nat.le_refl _) _, put3n cs (k * 3) _ _ _, mOn m k w1.heap.size, fun i => if i = k then q else H i, (((hbk.below hb hlt).set _ _).set _ _).set _ _, by rw [size_put3n]; exact hsz, by unfold mOn; rw [if_pos (Nat.zero_le _)]; exact hm0, mOn_le m k _ hm fun i => Nat.le_trans (hm2 i) hz, by rw [hs2]; exact mOn_top m k _ _ (fun i => Nat.le_trans (hm2 i) hz) (Nat.le_refl _), ?_⟩
  intro i y hi hy
  by_cases e : i = k
  · subst e
    obtain rfl : x = y := by rw [hx] at hy; injection hy
    simp only [if_true]
    refine ⟨put3n_at _ _ _ (by rw [hsz]; omega), ?_⟩
    have e1 : mOn m i w1.heap.size i = m i := by unfold mOn; rw [if_pos (Nat.le_refl _)]
    have e2 : mOn m i w1.heap.size (i + 1) = w1.heap.size := by unfold mOn; rw [if_neg (by omega)]
    rw [e1, e2]
    exact ho.keep (hm2 i) (Nat.le_refl _) fun j h1 _ => hset j (by omega)
  · obtain ⟨g0, g1⟩ := hc i y (by omega) hy
    simp only [if_neg e]
    refine ⟨g0.far _ _ _ e, ?_⟩
    have e1 : mOn m k w1.heap.size i = m i := by unfold mOn; rw [if_pos (by omega)]
    have e2 : mOn m k w1.heap.size (i + 1) = m (i + 1) := by unfold mOn; rw [if_pos (by omega)]
    rw [e1, e2]
    have a1 := hm 0 i (Nat.zero_le _)
    have a2 := hm2 (i + 1)
    exact g1.keep (Nat.le_refl _) (Nat.le_refl _) fun j h1 h2 => (hset j (by omega)).trans (hb.block j (by omega))
theorem CopyN.done {w wr : World} {o : Nts} (h : CopyN w wr o o.length) : NtsO wr w.heap.size wr.heap.size ⟨some ⟨w.heap.size, 0, none⟩, o.length⟩ o := ⟨fun _ => by
  obtain ⟨_, cs, m, H, hbk, _, hm0, hm, hm2, hc⟩ := h
  exact ⟨_, cs, m, H, rfl, Nat.le_refl _, hm0, hm, hm2, hbk, fun i x hi => hc i x (List.getElem?_eq_some_iff.1 hi).1 hi⟩⟩
def ToNts (w : World) (o : Nts) (e : Ending) (w' : World) : Prop := ∃ h, e = .returned (NtsV h o) ∧ Below w.heap.size w w' ∧ w.heap.size < w'.heap.size ∧ NtsO w' w.heap.size w'.heap.size h o
theorem toNts_any (h : NtsH) (o : Nts) (w : World) (B : Nat) (hR : NtsR w B h o) (hB : B ≤ w.heap.size) (hS : NtsS o) :
    Calls Try.prog 87 #[NtsV h o] w (ToNts w o) := by
  obtain ⟨A, c⟩ := h
  show Calls Try.prog 87 #[.slice A o.length c] w _
  obtain ⟨i0, hi, hz0, hz1, hz2⟩ := info_parts Try.info127
  have hl := hS.l.l
  have hmk := make_any Try.underlying125 hi hz0 o.length (by rw [hz2]; omega) (by omega)
  rw [hz1] at hmk
  have start := Lib.hid (show CopyN w (w.alloc (.cells (madeCells #[.int .i64 0, .slice none 0 0, .bool false] (o.length * 3)) 127)) o 0 from
    ⟨(Below.refl _ _).alloc (Nat.le_refl _) _, _, fun _ => w.heap.size + 1, fun _ => ⟨none, 0⟩, Bk.new _ _ _, by simp [size_madeCells], Nat.lt_succ_self _, fun _ _ _ => Nat.le_refl _, fun _ => by simp, fun i x hj => absurd hj (by omega)⟩)
  have HE := Lib.hid hS.l.e
  clear hz0 hz1 hz2 hi hS
  go_enter Try.func87, Try.ntmps87
  go_wp2
  go_loopw [4] (fun i wr => ∃ k : Nat, k ≤ o.length ∧ i = .int .i64 k ∧ CopyN w wr o k) (fun i _ => o.length - (intOf i).toNat)
  case atStart => exact ⟨0, Nat.zero_le _, rfl, start.out⟩
  case round =>
    obtain ⟨k, hk, rfl, hcp⟩ := hrel
    clear start hmk
    by_cases hlt : k < o.length
    · obtain ⟨hbel, cs, -, -, hbk, hsz, -⟩ := id hcp
      obtain ⟨b, off, x, q, hA, hb, hx, -, ⟨c0, c1, c2⟩, hrx⟩ := (hR.below hbel hB).at_ hlt
      have hLx := HE.out x (List.mem_of_getElem? hx)
      have Hx := Lib.hid hx
      have Hrx := Lib.hid hrx
      have hg := hbk.lt
      have hz := hbel.size
      have hbw : b < wr.heap.size := by omega
      have Kb := Lib.hid hbk
      have Hcp := Lib.hid hcp
      have HLx := Lib.hid hLx
      have hsz' := Nat.le_of_eq hsz.symm
      clear hbk hx hrx hbel hcp hLx hsz
      have hA' : A = _ := hA
      subst hA'
      clear hA
      go_wp2_with fail
      refine (toNt_any q x wr B Hrx.out (by omega) HLx.out).mono ?_
      rintro e w1 ⟨q2, rfl, hb1, ow⟩
      have kb1 := Kb.out.below hb1 hg
      obtain ⟨v0, e0⟩ := kb1.some_ (i := k * 3) (by omega)
      obtain ⟨v1, e1⟩ := kb1.some_ (i := k * 3 + 1) (by omega)
      obtain ⟨v2, e2⟩ := kb1.some_ (i := k * 3 + 2) (by omega)
      have f0 := kb1.free (k * 3)
      have f1 := kb1.free (k * 3 + 1)
      have f2 := kb1.free (k * 3 + 2)
      have Next := Lib.hid (Hcp.out.next hb1 ow Hx.out)
      clear kb1 hb1 ow c0 c1 c2
      go_wp2
      go_roundw
      case rel => exact ⟨k + 1, by omega, by go_num, Next.out⟩
      case measure => simp [intOf]; omega
    · have hkl : k = o.length := by omega
      subst hkl
      go_wp2
      go_ret
      obtain ⟨hb, cs, _, _, hbk, _⟩ := id hcp
      exact ⟨_, rfl, hb, hbk.lt, hcp.done⟩
/-- What a copy of lists of notes has come to behind k rounds. -/
def CopyNN (w wr : World) (o : Nss) (k : Nat) : Prop :=
  Below w.heap.size w wr ∧ ∃ (cs : Array Value) (m : Nat → Nat) (H : Nat → NtsH), Bk wr w.heap.size 125 cs ∧ cs.size = o.length ∧ w.heap.size < m 0 ∧ (∀ i j, i ≤ j → m i ≤ m j) ∧ (∀ i, m i ≤ wr.heap.size) ∧
    ∀ (i : Nat) (x : Nts), i < k → o[i]? = some x → cs[i]? = some (.slice (H i).A x.length (H i).c) ∧ NtsO wr (m i) (m (i + 1)) (H i) x
theorem CopyNN.next {w wr w1 : World} {o : Nss} {k : Nat} {x : Nts} {q : NtsH} (h : CopyNN w wr o k) (hb : Below wr.heap.size wr w1) (ho : NtsO w1 wr.heap.size w1.heap.size q x) (hx : o[k]? = some x) :
    CopyNN w (w1.setCell ⟨w.heap.size, k, none⟩ (.slice q.A x.length q.c)) o (k + 1) := by
  obtain ⟨h0, cs, m, H, hbk, hsz, hm0, hm, hm2, hc⟩ := h
  have hk : k < o.length := (List.getElem?_eq_some_iff.1 hx).1
  have hlt := hbk.lt
  have hz := hb.size
  have hset : ∀ i, i ≠ w.heap.size → (w1.setCell ⟨w.heap.size, k, none⟩ (.slice q.A x.length q.c)).heap[i]? = w1.heap[i]? := fun i hi => Below.heap_setCell _ _ _ i hi
  have hs2 : (w1.setCell ⟨w.heap.size, k, none⟩ (.slice q.A x.length q.c)).heap.size = w1.heap.size := by simp
  refine ⟨(below_on h0 hb).setCell (Nat.le_refl _) _, cs.setIfInBounds k _, mOn m k w1.heap.size, fun i => if i = k then q else H i, (hbk.below hb hlt).set _ _, by rw [Array.size_setIfInBounds]; exact hsz, by unfold mOn; rw [if_pos (Nat.zero_le _)]; exact hm0, mOn_le m k _ hm fun i => Nat.le_trans (hm2 i) hz, by rw [hs2]; exact mOn_top m k _ _ (fun i => Nat.le_trans (hm2 i) hz) (Nat.le_refl _), ?_⟩
  intro i y hi hy
  by_cases e : i = k
  · subst e
    obtain rfl : x = y := by rw [hx] at hy; injection hy
    simp only [if_true]
    refine ⟨by rw [Array.getElem?_setIfInBounds_self_of_lt (by omega)], ?_⟩
    have e1 : mOn m i w1.heap.size i = m i := by unfold mOn; rw [if_pos (Nat.le_refl _)]
    have e2 : mOn m i w1.heap.size (i + 1) = w1.heap.size := by unfold mOn; rw [if_neg (by omega)]
    rw [e1, e2]
    exact ho.keep (hm2 i) (Nat.le_refl _) fun j h1 _ => hset j (by omega)
  · obtain ⟨g0, g1⟩ := hc i y (by omega) hy
    simp only [if_neg e]
    refine ⟨by rw [Array.getElem?_setIfInBounds_ne (by omega)]; exact g0, ?_⟩
    have e1 : mOn m k w1.heap.size i = m i := by unfold mOn; rw [if_pos (by omega)]
    have e2 : mOn m k w1.heap.size (i + 1) = m (i + 1) := by unfold mOn; rw [if_pos (by omega)]
    rw [e1, e2]
    have a1 := hm 0 i (Nat.zero_le _)
    have a2 := hm2 (i + 1)
    exact g1.keep (Nat.le_refl _) (Nat.le_refl _) fun j h1 h2 => (hset j (by omega)).trans (hb.block j (by omega))
theorem CopyNN.done {w wr : World} {o : Nss} (h : CopyNN w wr o o.length) : NssO wr w.heap.size wr.heap.size ⟨some ⟨w.heap.size, 0, none⟩, o.length⟩ o := ⟨fun _ => by
  obtain ⟨_, cs, m, H, hbk, _, hm0, hm, hm2, hc⟩ := h
  exact ⟨_, cs, m, H, rfl, Nat.le_refl _, hm0, hm, hm2, hbk, fun i x hi => hc i x (List.getElem?_eq_some_iff.1 hi).1 hi⟩⟩
def ToNss (w : World) (o : Nss) (e : Ending) (w' : World) : Prop := ∃ h, e = .returned (NssV h o) ∧ Below w.heap.size w w' ∧ w.heap.size < w'.heap.size ∧ NssO w' w.heap.size w'.heap.size h o
theorem toNss_any (h : NssH) (o : Nss) (w : World) (B : Nat) (hR : NssR w B h o) (hB : B ≤ w.heap.size) (hS : NssS o) :
    Calls Try.prog 50 #[NssV h o] w (ToNss w o) := by
  obtain ⟨A, c⟩ := h
  show Calls Try.prog 50 #[.slice A o.length c] w _
  obtain ⟨i0, hi, hz0, hz1, hz2⟩ := info_parts Try.info125
  have hl : o.length ≤ 1048576 := Nat.le_trans (tNN_len o) hS.t
  have hmk := make_any Try.underlying51 hi hz0 o.length (by rw [hz2]; omega) (by omega)
  rw [hz1, Nat.mul_one] at hmk
  have start := Lib.hid (show CopyNN w (w.alloc (.cells (madeCells #[.slice none 0 0] o.length) 125)) o 0 from
    ⟨(Below.refl _ _).alloc (Nat.le_refl _) _, _, fun _ => w.heap.size + 1, fun _ => ⟨none, 0⟩, Bk.new _ _ _, by simp [size_madeCells], Nat.lt_succ_self _, fun _ _ _ => Nat.le_refl _, fun _ => by simp, fun i x hj => absurd hj (by omega)⟩)
  have HE := Lib.hid (fun r hr => hS.s (r := r) hr)
  clear hz0 hz1 hz2 hi hS
  go_enter Try.func50, Try.ntmps50
  go_wp2
  go_loopw [4] (fun i wr => ∃ k : Nat, k ≤ o.length ∧ i = .int .i64 k ∧ CopyNN w wr o k) (fun i _ => o.length - (intOf i).toNat)
  case atStart => exact ⟨0, Nat.zero_le _, rfl, start.out⟩
  case round =>
    obtain ⟨k, hk, rfl, hcp⟩ := hrel
    clear start hmk
    by_cases hlt : k < o.length
    · obtain ⟨hbel, cs, -, -, hbk, hsz, -⟩ := id hcp
      obtain ⟨b, off, x, q, hA, hb, hx, -, c0, hrx⟩ := (hR.below hbel hB).at_ hlt
      have hLx := HE.out x (List.mem_of_getElem? hx)
      have Hx := Lib.hid hx
      have Hrx := Lib.hid hrx
      have hg := hbk.lt
      have hz := hbel.size
      have hbw : b < wr.heap.size := by omega
      have Kb := Lib.hid hbk
      have Hcp := Lib.hid hcp
      have HLx := Lib.hid hLx
      have hsz' := Nat.le_of_eq hsz.symm
      clear hbk hx hrx hbel hcp hLx hsz
      have hA' : A = _ := hA
      subst hA'
      clear hA
      go_wp2_with fail
      refine (toNts_any q x wr B Hrx.out (by omega) HLx.out).mono ?_
      rintro e w1 ⟨q2, rfl, hb1, -, ow⟩
      have kb1 := Kb.out.below hb1 hg
      obtain ⟨v0, e0⟩ := kb1.some_ (i := k) (by omega)
      have f0 := kb1.free k
      have Next := Lib.hid (Hcp.out.next hb1 ow Hx.out)
      clear kb1 hb1 ow c0
      go_wp2
      go_roundw
      case rel => exact ⟨k + 1, by omega, by go_num, Next.out⟩
      case measure => simp [intOf]; omega
    · have hkl : k = o.length := by omega
      subst hkl
      go_wp2
      go_ret
      obtain ⟨hb, cs, _, _, hbk, _⟩ := id hcp
      exact ⟨_, rfl, hb, hbk.lt, hcp.done⟩

/-! ### equality -/
theorem eqNt_any (h1 h2 : NtH) (x y : Nt) (w : World) (B : Nat) (r1 : Vs w B h1.A (ints x.w)) (r2 : Vs w B h2.A (ints y.w)) (hB : B ≤ w.heap.size) (L1 : x.w.length ≤ maxLen) (L2 : y.w.length ≤ maxLen) (r : Bool) (hr : Hid (decide (x = y) = r)) :
    Calls Try.prog 131 #[NtV h1 x, NtV h2 y] w fun e w' => e = .returned (.bool r) ∧ Below w.heap.size w w' := by
  obtain ⟨W, hW⟩ : ∃ W, W = (w.alloc (.cells #[.int .i64 x.v, .slice h1.A x.w.length h1.c, .bool x.g] 127)).alloc (.cells #[.int .i64 y.v, .slice h2.A y.w.length h2.c, .bool y.g] 127) := ⟨_, rfl⟩
  have bW : Below w.heap.size w W := by rw [hW]; go_grown
  have k0 : Bk W w.heap.size 127 #[.int .i64 x.v, .slice h1.A x.w.length h1.c, .bool x.g] := by rw [hW]; exact (Bk.new w _ _).alloc _
  have k1 : Bk W (w.heap.size + 1) 127 #[.int .i64 y.v, .slice h2.A y.w.length h2.c, .bool y.g] := by
    rw [hW]; have := Bk.new (w.alloc (.cells #[.int .i64 x.v, .slice h1.A x.w.length h1.c, .bool x.g] 127)) #[.int .i64 y.v, .slice h2.A y.w.length h2.c, .bool y.g] 127
    rwa [World.size_alloc] at this
  have P := Lib.hid (r1.below bW hB)
  have Q := Lib.hid (r2.below bW hB)
  have K0 := Lib.hid k0
  have K1 := Lib.hid k1
  have B0 := Lib.hid bW
  have HW := Lib.hid hW
  clear hW bW k0 k1 r1 r2
  obtain ⟨xv, xw, xg⟩ := x
  obtain ⟨yv, yw, yg⟩ := y
  have hrr : r = (decide (xv = yv) && (decide (xw = yw) && decide (xg = yg))) := by
    rw [← hr.out]
    by_cases e1 : xv = yv <;> by_cases e2 : xw = yw <;> by_cases e3 : xg = yg <;> simp [e1, e2, e3]
  by_cases e1 : xv = yv
  rotate_left
  · have hne : (xv != yv) = true := by rw [bne_iff_ne]; exact e1
    have hfin : Hid (r = false) := Lib.hid (by rw [hrr, decide_eq_false e1]; rfl)
    clear hrr hr e1
    go_enter Try.func131, Try.ntmps131
    go_wp2
    go_ret
    exact ⟨by rw [hfin.out]; rfl, by go_grown⟩
  have hne : (xv != yv) = false := by rw [e1]; exact bne_self_eq_false _
  obtain ⟨rw_, hrw⟩ : ∃ b, decide (xw = yw) = b := ⟨_, rfl⟩
  have hfin : Hid (r = (rw_ && decide (xg = yg))) := Lib.hid (by rw [hrr, decide_eq_true e1, hrw]; rfl)
  have HRW := Lib.hid hrw
  clear hrr hr hrw
  have E1 := Lib.hid e1
  clear e1
  rcases Bool.eq_false_or_eq_true rw_ with h | h
  all_goals
    subst h
    cases xg <;> cases yg
    all_goals
      go_enter Try.func131, Try.ntmps131
      go_wp2_with fail
      rw [← HW.out]
      refine (eqInt_any h1.A h2.A xw yw h1.c h2.c W B P.out Q.out L1 L2 _ HRW).mono ?_
      rintro e w1 ⟨rfl, hb⟩
      have B1 := Lib.hid (below_on B0.out hb)
      have C0 := (K0.out.below hb K0.out.lt)
      have C1 := (K1.out.below hb K1.out.lt)
      have ca := C0.cell 2
      have cb := C1.cell 2
      simp only [List.getElem?_toArray, List.getElem?_cons_zero, List.getElem?_cons_succ] at ca cb
      clear hb C0 C1
      go_wp2
      go_ret
      exact ⟨by rw [hfin.out]; rfl, B1.out⟩
theorem eqNts_any (h1 h2 : NtsH) (o1 o2 : Nts) (w : World) (B : Nat) (r1 : NtsR w B h1 o1) (r2 : NtsR w B h2 o2) (hB : B ≤ w.heap.size) (L1 : NtsL o1 maxLen) (L2 : NtsL o2 maxLen) (r : Bool) (hr : Hid (decide (o1 = o2) = r)) :
    Calls Try.prog 101 #[NtsV h1 o1, NtsV h2 o2] w fun e w' => e = .returned (.bool r) ∧ Below w.heap.size w w' := by
  obtain ⟨A1, d1⟩ := h1
  obtain ⟨A2, d2⟩ := h2
  show Calls Try.prog 101 #[.slice A1 o1.length d1, .slice A2 o2.length d2] w _
  have hm1 := L1.l
  have hm2 := L2.l
  unfold maxLen at hm1 hm2
  have HE1 := Lib.hid L1.e
  have HE2 := Lib.hid L2.e
  clear L1 L2
  by_cases hne : o1.length = o2.length
  · have heq : ((o1.length : Int) != (o2.length : Int)) = false := by simp [hne]
    have hle : o1.length ≤ o2.length := by omega
    have hge : o2.length ≤ o1.length := by omega
    clear hne
    go_enter Try.func101, Try.ntmps101
    go_wp2
    go_loopw [5] (fun i wr => ∃ k : Nat, k ≤ o1.length ∧ i = .int .i64 k ∧ Below w.heap.size w wr ∧ Hid (decide (o1.drop k = o2.drop k) = r)) (fun i _ => o1.length - (intOf i).toNat)
    case atStart => exact ⟨0, Nat.zero_le _, rfl, Below.refl _ _, by simpa using hr⟩
    case round =>
      obtain ⟨k, hk, rfl, hbel, hrest⟩ := hrel
      clear hr heq
      by_cases hlt : k < o1.length
      · obtain ⟨b1, off1, x, q1, hA1, hb1, hx, hd1, ⟨c0, c1, c2⟩, hrx⟩ := (r1.below hbel hB).at_ hlt
        obtain ⟨b2, off2, y, q2, hA2, hb2, hy, hd2, ⟨e0, e1, e2⟩, hry⟩ := (r2.below hbel hB).at_ (show k < o2.length by omega)
        have HLx := Lib.hid (HE1.out x (List.mem_of_getElem? hx))
        have HLy := Lib.hid (HE2.out y (List.mem_of_getElem? hy))
        have hz := hbel.size
        have hi1 : (k : Int) < (o1.length : Int) := by omega
        have hi2 : (k : Int) < (o2.length : Int) := by omega
        have Hd1 := Lib.hid hd1
        have Hd2 := Lib.hid hd2
        have Gx := Lib.hid (fun z : Ws (Fr wr []) => hrx.below z.ok.below (by omega))
        have Gy := Lib.hid (fun z : Ws (Fr wr []) => hry.below z.ok.below (by omega))
        have Gz : Hid (∀ z : Ws (Fr wr []), B ≤ z.val.heap.size) := Lib.hid (fun z => by have := z.ok.below.size; omega)
        have gx0 := Ws.same (bs := []) (by omega) c0
        have gx1 := Ws.same (bs := []) (by omega) c1
        have gx2 := Ws.same (bs := []) (by omega) c2
        have gy0 := Ws.same (bs := []) (by omega) e0
        have gy1 := Ws.same (bs := []) (by omega) e1
        have gy2 := Ws.same (bs := []) (by omega) e2
        have HS := Lib.hid (fr_none wr)
        haveI hne := Nonempty.intro (Ws.mk _ (fr_none wr))
        clear hd1 hd2 hx hy hrx hry c0 c1 c2 e0 e1 e2
        have hA1' : A1 = _ := hA1
        have hA2' : A2 = _ := hA2
        subst hA1' hA2'
        clear hA1 hA2
        rcases Bool.eq_false_or_eq_true (decide (x = y)) with he | he
        all_goals
          have He := Lib.hid he
          clear he
          go_wp2_with fail
          refine region_in (by kernel_rfl) HS.out.drew ?_
          repeat (go_big_quiet_step ((go_at_call 131; exact call_in (eqNt_any q1 q2 x y _ B (Gx.out _) (Gy.out _) (Gz.out _) HLx.out HLy.out _ He))))
          refine wpQuiet_nil ?_
          rintro w2 ⟨⟨_, hw2⟩, rfl⟩
          have hB2 : Below w.heap.size w w2 := below_on hbel hw2.below
          clear gx0 gx1 gx2 gy0 gy1 gy2
          go_wp2
        · go_roundw
          case rel => exact ⟨k + 1, by omega, by go_num, hB2, by
            have hxy : x = y := of_decide_eq_true He.out
            have := hrest.out
            rw [Hd1.out, Hd2.out, hxy] at this
            exact Lib.hid (by rw [← this]; simp)⟩
          case measure => simp [intOf]; omega
        · go_ret
          refine ⟨?_, hB2⟩
          have hxy : x ≠ y := of_decide_eq_false He.out
          have := hrest.out
          rw [Hd1.out, Hd2.out] at this
          rw [← this]
          simp [hxy]
      · have hlast : Hid (r = true) := Lib.hid (by
          have := hrest.out
          rw [List.drop_eq_nil_of_le (by omega), List.drop_eq_nil_of_le (by omega)] at this
          rw [← this]; rfl)
        go_wp2
        go_ret
        exact ⟨by rw [hlast.out]; rfl, hbel⟩
  · have hlast : Hid (r = false) := Lib.hid (by rw [← hr.out]; exact decide_eq_false (fun e => hne (by rw [e])))
    have heq : ((o1.length : Int) != (o2.length : Int)) = true := by simp; omega
    clear hr
    go_enter Try.func101, Try.ntmps101
    go_wp2
    go_ret
    exact ⟨by rw [hlast.out]; rfl, Below.refl _ _⟩
theorem eqNss_any (h1 h2 : NssH) (o1 o2 : Nss) (w : World) (B : Nat) (r1 : NssR w B h1 o1) (r2 : NssR w B h2 o2) (hB : B ≤ w.heap.size) (L1 : NssL o1 maxLen) (L2 : NssL o2 maxLen) (r : Bool) (hr : Hid (decide (o1 = o2) = r)) :
    Calls Try.prog 56 #[NssV h1 o1, NssV h2 o2] w fun e w' => e = .returned (.bool r) ∧ Below w.heap.size w w' := by
  obtain ⟨A1, d1⟩ := h1
  obtain ⟨A2, d2⟩ := h2
  show Calls Try.prog 56 #[.slice A1 o1.length d1, .slice A2 o2.length d2] w _
  have hm1 := L1.l
  have hm2 := L2.l
  unfold maxLen at hm1 hm2
  have HE1 := Lib.hid L1.e
  have HE2 := Lib.hid L2.e
  clear L1 L2
  by_cases hne : o1.length = o2.length
  · have heq : ((o1.length : Int) != (o2.length : Int)) = false := by simp [hne]
    have hle : o1.length ≤ o2.length := by omega
    have hge : o2.length ≤ o1.length := by omega
    clear hne
    go_enter Try.func56, Try.ntmps56
    go_wp2
    go_loopw [5] (fun i wr => ∃ k : Nat, k ≤ o1.length ∧ i = .int .i64 k ∧ Below w.heap.size w wr ∧ Hid (decide (o1.drop k = o2.drop k) = r)) (fun i _ => o1.length - (intOf i).toNat)
    case atStart => exact ⟨0, Nat.zero_le _, rfl, Below.refl _ _, by simpa using hr⟩
    case round =>
      obtain ⟨k, hk, rfl, hbel, hrest⟩ := hrel
      clear hr heq
      by_cases hlt : k < o1.length
      · obtain ⟨b1, off1, x, q1, hA1, hb1, hx, hd1, c0, hrx⟩ := (r1.below hbel hB).at_ hlt
        obtain ⟨b2, off2, y, q2, hA2, hb2, hy, hd2, e0, hry⟩ := (r2.below hbel hB).at_ (show k < o2.length by omega)
        have HLx := Lib.hid (HE1.out x (List.mem_of_getElem? hx))
        have HLy := Lib.hid (HE2.out y (List.mem_of_getElem? hy))
        have hz := hbel.size
        have hi1 : (k : Int) < (o1.length : Int) := by omega
        have hi2 : (k : Int) < (o2.length : Int) := by omega
        have Hd1 := Lib.hid hd1
        have Hd2 := Lib.hid hd2
        have Gx := Lib.hid (fun z : Ws (Fr wr []) => hrx.below z.ok.below (by omega))
        have Gy := Lib.hid (fun z : Ws (Fr wr []) => hry.below z.ok.below (by omega))
        have Gz : Hid (∀ z : Ws (Fr wr []), B ≤ z.val.heap.size) := Lib.hid (fun z => by have := z.ok.below.size; omega)
        have gx0 := Ws.same (bs := []) (by omega) c0
        have gy0 := Ws.same (bs := []) (by omega) e0
        have HS := Lib.hid (fr_none wr)
        haveI hne := Nonempty.intro (Ws.mk _ (fr_none wr))
        clear hd1 hd2 hx hy hrx hry c0 e0
        have hA1' : A1 = _ := hA1
        have hA2' : A2 = _ := hA2
        subst hA1' hA2'
        clear hA1 hA2
        rcases Bool.eq_false_or_eq_true (decide (x = y)) with he | he
        all_goals
          have He := Lib.hid he
          clear he
          go_wp2_with fail
          refine region_in (by kernel_rfl) HS.out.drew ?_
          repeat (go_big_quiet_step ((go_at_call 101; exact call_in (eqNts_any q1 q2 x y _ B (Gx.out _) (Gy.out _) (Gz.out _) HLx.out HLy.out _ He))))
          refine wpQuiet_nil ?_
          rintro w2 ⟨⟨_, hw2⟩, rfl⟩
          have hB2 : Below w.heap.size w w2 := below_on hbel hw2.below
          clear gx0 gy0
          go_wp2
        · go_roundw
          case rel => exact ⟨k + 1, by omega, by go_num, hB2, by
            have hxy : x = y := of_decide_eq_true He.out
            have := hrest.out
            rw [Hd1.out, Hd2.out, hxy] at this
            exact Lib.hid (by rw [← this]; simp)⟩
          case measure => simp [intOf]; omega
        · go_ret
          refine ⟨?_, hB2⟩
          have hxy : x ≠ y := of_decide_eq_false He.out
          have := hrest.out
          rw [Hd1.out, Hd2.out] at this
          rw [← this]
          simp [hxy]
      · have hlast : Hid (r = true) := Lib.hid (by
          have := hrest.out
          rw [List.drop_eq_nil_of_le (by omega), List.drop_eq_nil_of_le (by omega)] at this
          rw [← this]; rfl)
        go_wp2
        go_ret
        exact ⟨by rw [hlast.out]; rfl, hbel⟩
  · have hlast : Hid (r = false) := Lib.hid (by rw [← hr.out]; exact decide_eq_false (fun e => hne (by rw [e])))
    have heq : ((o1.length : Int) != (o2.length : Int)) = true := by simp; omega
    clear hr
    go_enter Try.func56, Try.ntmps56
    go_wp2
    go_ret
    exact ⟨by rw [hlast.out]; rfl, Below.refl _ _⟩
end Go.Proofs.Ytaghidaamcnpkab
