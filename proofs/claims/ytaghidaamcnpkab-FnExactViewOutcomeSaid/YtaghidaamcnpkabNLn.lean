/-
  Lists of stores out of words: what the program's valueIn, isGlued and noteLists come to.
-/
import Derived.Test.YtaghidaamcnpkabQTail
import Derived.Test.YtaghidaamcnpkabEq
import Derived.Test.YtaghidaamcnpkabNtC
namespace Go.Proofs.Ytaghidaamcnpkab
open Go.RowKit Pl Go.BigFrame
set_option maxHeartbeats 4000000
set_option maxRecDepth 100000
set_option linter.unusedVariables false

theorem valuein_any (g : Nat → Nat) (w : World) (hg : okF WV g) : Calls Try.prog 110 #[.int .u64 (enc WV g : Nat)] w fun e w' => e = .returned (.int .i64 (g 1 : Nat)) ∧ Below w.heap.size w w' := by
  have E0 := Lib.hid (fun v => entF flv9 hg 0 (by decide) v (g 1 : Int) (Lib.hid (by simp [fL])))
  obtain ⟨E, hE⟩ : ∃ E, enc WV g = E := ⟨_, rfl⟩
  rw [hE] at E0 ⊢
  obtain ⟨q, hq⟩ : ∃ q, g 1 = q := ⟨_, rfl⟩
  rw [hq] at E0 ⊢
  clear hE hq hg
  go_enter Try.func110, Try.ntmps110
  go_wp2_with fail
  refine (E0.out w).mono ?_
  rintro e w1 ⟨rfl, hb1⟩
  go_wp2
  go_ret
  exact ⟨rfl, hb1⟩
theorem isglued_any (g : Nat → Nat) (w : World) (hg : okF WV g) (r : Bool) (hr : Hid (((g 0 : Int) == 1) = r)) : Calls Try.prog 130 #[.int .u64 (enc WV g : Nat)] w fun e w' => e = .returned (.bool r) ∧ Below w.heap.size w w' := by
  have E0 := Lib.hid (fun v => entF flv10 hg 0 (by decide) v (g 0 : Int) (Lib.hid (by simp [fL])))
  obtain ⟨E, hE⟩ : ∃ E, enc WV g = E := ⟨_, rfl⟩
  rw [hE] at E0 ⊢
  obtain ⟨q, hq⟩ : ∃ q, (g 0 : Int) = q := ⟨_, rfl⟩
  rw [hq] at E0 hr
  clear hE hq hg
  go_enter Try.func130, Try.ntmps130
  go_wp2_with fail
  refine (E0.out w).mono ?_
  rintro e w1 ⟨rfl, hb1⟩
  go_wp2
  go_ret
  exact ⟨by rw [← hr.out]; rfl, hb1⟩
/-- The note of a store's word, and those of a place. -/
def noteOf (s : Sg) (g : Nat → Nat) : Nt := ⟨(g 1 : Int), idxL s g, (g 0 : Int) == 1⟩
def notesOf (s : Sg) (p : Nat) : Nts := (s.S p).map (noteOf s)
def nssOf (s : Sg) : Nss := (List.range 3).map (notesOf s)
theorem notesOf_length (s : Sg) (p : Nat) : (notesOf s p).length = (s.S p).length := by simp [notesOf]
theorem notesOf_at {s : Sg} {p i : Nat} {g : Nat → Nat} (h : (s.S p)[i]? = some g) : (notesOf s p)[i]? = some (noteOf s g) := by simp [notesOf, h]
theorem nssOf_length (s : Sg) : (nssOf s).length = 3 := rfl
theorem nssOf_at (s : Sg) {p : Nat} (h : p < 3) : (nssOf s)[p]? = some (notesOf s p) := by unfold nssOf; rw [List.getElem?_map, List.getElem?_range h]; rfl

/-- What a list of notes has come to behind k of them, in a block that was made ahead. -/
def FillN (w wr : World) (g : Nat) (o : Nts) (k : Nat) : Prop :=
  Only g (g + 1) w wr ∧ ∃ (cs : Array Value) (m : Nat → Nat) (H : Nat → NtH), Bk wr g 127 cs ∧ cs.size = o.length * 3 ∧ w.heap.size ≤ m 0 ∧ (∀ i j, i ≤ j → m i ≤ m j) ∧ (∀ i, m i ≤ wr.heap.size) ∧
    ∀ (i : Nat) (x : Nt), i < k → o[i]? = some x → NtC cs (i * 3) (H i) x ∧ OwnVs wr (m i) (m (i + 1)) 3 (H i).A (ints x.w)
theorem FillN.next {w wr w1 : World} {g : Nat} {o : Nts} {k : Nat} {x : Nt} {q : NtH} (h : FillN w wr g o k) (hg : g < w.heap.size) (hb : Below wr.heap.size wr w1) (ho : OwnVs w1 wr.heap.size w1.heap.size 3 q.A (ints x.w)) (hx : o[k]? = some x) :
    FillN w (((w1.setCell ⟨g, k * 3, none⟩ (.int .i64 x.v)).setCell ⟨g, k * 3 + 1, none⟩ (.slice q.A x.w.length q.c)).setCell ⟨g, k * 3 + 2, none⟩ (.bool x.g)) g o (k + 1) := by
  obtain ⟨h0, cs, m, H, hbk, hsz, hm0, hm, hm2, hc⟩ := h
  have hk : k < o.length := (List.getElem?_eq_some_iff.1 hx).1
  have hlt := hbk.lt
  have hz := hb.size
  have hz0 := h0.size
  have hset : ∀ i, i ≠ g → (((w1.setCell ⟨g, k * 3, none⟩ (.int .i64 x.v)).setCell ⟨g, k * 3 + 1, none⟩ (.slice q.A x.w.length q.c)).setCell ⟨g, k * 3 + 2, none⟩ (.bool x.g)).heap[i]? = w1.heap[i]? := fun i hi =>
    (Below.heap_setCell _ _ _ i hi).trans ((Below.heap_setCell _ _ _ i hi).trans (Below.heap_setCell _ _ _ i hi))
  have hs2 : (((w1.setCell ⟨g, k * 3, none⟩ (.int .i64 x.v)).setCell ⟨g, k * 3 + 1, none⟩ (.slice q.A x.w.length q.c)).setCell ⟨g, k * 3 + 2, none⟩ (.bool x.g)).heap.size = w1.heap.size := by simp
  refine ⟨(((h0.trans (Only.of_below hb)).setCell (p := ⟨g, k * 3, none⟩) (Nat.le_refl _) (Nat.lt_succ_self _) _).setCell (p := ⟨g, k * 3 + 1, none⟩) (Nat.le_refl _) (Nat.lt_succ_self _) _).setCell (p := ⟨g, k * 3 + 2, none⟩) (Nat.le_refl _) (Nat.lt_succ_self _) _, put3n cs (k * 3) _ _ _, mOn m k w1.heap.size, fun i => if i = k then q else H i, (((hbk.below hb hlt).set _ _).set _ _).set _ _, by rw [size_put3n]; exact hsz, by unfold mOn; rw [if_pos (Nat.zero_le _)]; exact hm0, mOn_le m k _ hm fun i => Nat.le_trans (hm2 i) hz, by rw [hs2]; exact mOn_top m k _ _ (fun i => Nat.le_trans (hm2 i) hz) (Nat.le_refl _), ?_⟩
  intro i y hi hy
  by_cases e : i = k
  · subst e
    obtain rfl : x = y := by rw [hx] at hy; injection hy
    simp only [if_true]
    refine ⟨put3n_at _ _ _ (by rw [hsz]; omega), ?_⟩
    have e1 : mOn m i w1.heap.size i = m i := by unfold mOn; rw [if_pos (Nat.le_refl _)]
    have e2 : mOn m i w1.heap.size (i + 1) = w1.heap.size := by unfold mOn; rw [if_neg (by omega)]
    rw [e1, e2]
    exact ho.keep (hm2 i) (Nat.le_refl _) fun j h1 _ => hset j (by omega)
  · obtain ⟨g0, g1⟩ := hc i y (by omega) hy
    simp only [if_neg e]
    refine ⟨g0.far _ _ _ e, ?_⟩
    have e1 : mOn m k w1.heap.size i = m i := by unfold mOn; rw [if_pos (by omega)]
    have e2 : mOn m k w1.heap.size (i + 1) = m (i + 1) := by unfold mOn; rw [if_pos (by omega)]
    rw [e1, e2]
    have a1 := hm 0 i (Nat.zero_le _)
    have a2 := hm2 (i + 1)
    exact g1.keep (Nat.le_refl _) (Nat.le_refl _) fun j h1 h2 => (hset j (by omega)).trans (hb.block j (by omega))
theorem FillN.done {w wr : World} {g c : Nat} {o : Nts} (h : FillN w wr g o o.length) (hg : g < w.heap.size) : NtsO wr g wr.heap.size ⟨some ⟨g, 0, none⟩, c⟩ o := ⟨fun _ => by
  obtain ⟨_, cs, m, H, hbk, _, hm0, hm, hm2, hc⟩ := h
  exact ⟨_, cs, m, H, rfl, Nat.le_refl _, by omega, hm, hm2, hbk, fun i x hi => hc i x (List.getElem?_eq_some_iff.1 hi).1 hi⟩⟩
/-- A row more, whose header was put ahead of what it holds. -/
theorem CopyNN.put {W wr wf : World} {N : Nss} {k c : Nat} {x : Nts} {q : Array Value} {t : TypeId} (h : CopyNN W wr N k) (hx : N[k]? = some x)
    (hF : Only wr.heap.size (wr.heap.size + 1) ((wr.setCell ⟨W.heap.size, k, none⟩ (.slice (some ⟨wr.heap.size, 0, none⟩) x.length c)).alloc (.cells q t)) wf) (hO : NtsO wf wr.heap.size wf.heap.size ⟨some ⟨wr.heap.size, 0, none⟩, c⟩ x) : CopyNN W wf N (k + 1) := by
  obtain ⟨h0, cs, m, H, hbk, hsz, hm0, hm, hm2, hc⟩ := h
  have hk : k < N.length := (List.getElem?_eq_some_iff.1 hx).1
  have hlt := hbk.lt
  have hsb : ((wr.setCell ⟨W.heap.size, k, none⟩ (.slice (some ⟨wr.heap.size, 0, none⟩) x.length c)).alloc (.cells q t)).heap.size = wr.heap.size + 1 := by simp
  have hz := hF.size
  rw [hsb] at hz
  have bA : ∀ V : World, Below V.heap.size V (V.alloc (.cells q t)) := fun V => (Below.refl _ _).alloc (Nat.le_refl _) _
  have hset : ∀ i, i ≠ W.heap.size → i < wr.heap.size → ((wr.setCell ⟨W.heap.size, k, none⟩ (.slice (some ⟨wr.heap.size, 0, none⟩) x.length c)).alloc (.cells q t)).heap[i]? = wr.heap[i]? := fun i hi hl => ((bA _).block i (by simpa using hl)).trans (Below.heap_setCell _ _ _ i hi)
  have hb2 : Bk ((wr.setCell ⟨W.heap.size, k, none⟩ (.slice (some ⟨wr.heap.size, 0, none⟩) x.length c)).alloc (.cells q t)) W.heap.size 125 (cs.setIfInBounds k (.slice (some ⟨wr.heap.size, 0, none⟩) x.length c)) := (hbk.set _ _).alloc _
  have hbel : Below W.heap.size W wf := ((h0.setCell (p := ⟨W.heap.size, k, none⟩) (Nat.le_refl _) _).alloc (by simp; omega) _).trans (hF.to_below (by omega) (by rw [hsb]; omega))
  refine ⟨hbel, cs.setIfInBounds k _, mOn m k wf.heap.size, fun i => if i = k then ⟨some ⟨wr.heap.size, 0, none⟩, c⟩ else H i, only_bk hb2 hF (by omega), by rw [Array.size_setIfInBounds]; exact hsz, by unfold mOn; rw [if_pos (Nat.zero_le _)]; exact hm0, mOn_le m k _ hm fun i => Nat.le_trans (hm2 i) (by omega), mOn_top m k _ _ (fun i => Nat.le_trans (hm2 i) (by omega)) (Nat.le_refl _), ?_⟩
  intro i y hi hy
  by_cases e : i = k
  · subst e
    obtain rfl : x = y := by rw [hx] at hy; injection hy
    simp only [if_true]
    refine ⟨by rw [Array.getElem?_setIfInBounds_self_of_lt (by omega)], ?_⟩
    have e1 : mOn m i wf.heap.size i = m i := by unfold mOn; rw [if_pos (Nat.le_refl _)]
    have e2 : mOn m i wf.heap.size (i + 1) = wf.heap.size := by unfold mOn; rw [if_neg (by omega)]
    rw [e1, e2]
    exact hO.keep (hm2 i) (Nat.le_refl _) fun j h1 _ => rfl
  · obtain ⟨g0, g1⟩ := hc i y (by omega) hy
    simp only [if_neg e]
    refine ⟨by rw [Array.getElem?_setIfInBounds_ne (by omega)]; exact g0, ?_⟩
    have e1 : mOn m k wf.heap.size i = m i := by unfold mOn; rw [if_pos (by omega)]
    have e2 : mOn m k wf.heap.size (i + 1) = m (i + 1) := by unfold mOn; rw [if_pos (by omega)]
    rw [e1, e2]
    have a1 := hm 0 i (Nat.zero_le _)
    have a2 := hm2 (i + 1)
    exact g1.keep (Nat.le_refl _) (Nat.le_refl _) fun j h1 h2 => (hF.block j (by rw [hsb]; omega) (by omega)).trans (hset j (by omega) (by omega))
def MadeN (w : World) (N : Nss) (e : Ending) (w' : World) : Prop :=
  ∃ k, e = .returned (NssV k N) ∧ Below w.heap.size w w' ∧ w.heap.size < w'.heap.size ∧ NssO w' w.heap.size w'.heap.size k N
end Go.Proofs.Ytaghidaamcnpkab
