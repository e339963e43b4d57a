/-
  A state on a machine with views out of words: what the program's unpackedViewed comes to.
-/
import Derived.Test.YtiljakbjbiinkaaIssA
import Derived.Test.YtiljakbjbiinkaaNIdx
import Derived.Test.YtiljakbjbiinkaaQSel
import Derived.Test.YtiljakbjbiinkaaNtC
import Derived.Test.YtiljakbjbiinkaaBegin
import Derived.Test.YtiljakbjbiinkaaVwd
namespace Go.Proofs.Ytiljakbjbiinkaa
open Go.RowKit Pl Go.BigFrame
set_option maxHeartbeats 4000000
set_option maxRecDepth 100000
set_option linter.unusedVariables false

/-- Rows of the call's own, put one by one below headers that were made ahead. -/
structure RwsO (w wr : World) (g n : Nat) (F : Nat → List Int) (k : Nat) : Prop where
  bel : Below w.heap.size w wr
  hd : ∃ (cs : Array Value) (D : Nat → Option Addr) (C : Nat → Nat), Bk wr g 39 cs ∧ cs.size = n ∧ (∀ j, j < k → cs[j]? = some (.slice (D j) (F j).length (C j)) ∧ OwnVs wr (g + 1) wr.heap.size 3 (D j) (ints (F j))) ∧ ∀ i j, i < j → j < k → 0 < (F i).length → 0 < (F j).length → D i ≠ D j
theorem own_where {w : World} {lo hi : Nat} {t : TypeId} {A : Option Addr} {xs : List Int} (h : OwnVs w lo hi t A (ints xs)) (hn : 0 < xs.length) : ∃ g, A = some ⟨g, 0, none⟩ ∧ lo ≤ g ∧ g < hi := by
  obtain ⟨g, cs, hA, h1, h2, _⟩ := h (by rw [ints_length]; exact hn)
  exact ⟨g, hA, h1, h2⟩
theorem RwsO.next {w wr w1 : World} {g n k c : Nat} {F : Nat → List Int} {A : Option Addr} (h : RwsO w wr g n F k) (hk : k < n) (hg : w.heap.size ≤ g) (hb : Below wr.heap.size wr w1) (ho : OwnVs w1 wr.heap.size w1.heap.size 3 A (ints (F k))) :
    RwsO w (w1.setCell ⟨g, k, none⟩ (.slice A (F k).length c)) g n F (k + 1) := by
  obtain ⟨h0, cs, D, C, hbk, hsz, hc, hd⟩ := h
  have hlt := hbk.lt
  have hz := hb.size
  have hset : ∀ i, i ≠ g → (w1.setCell ⟨g, k, none⟩ (.slice A (F k).length c)).heap[i]? = w1.heap[i]? := fun i hi => Below.heap_setCell w1 ⟨g, k, none⟩ _ i hi
  have hs2 : (w1.setCell ⟨g, k, none⟩ (.slice A (F k).length c)).heap.size = w1.heap.size := World.size_setCell ..
  refine ⟨(below_on h0 hb).setCell hg _, _, fun i => if i = k then A else D i, fun i => if i = k then c else C i, (hbk.below hb hlt).set _ _, by simpa using hsz, ?_, ?_⟩
  · intro j hj
    by_cases e : j = k
    · subst e
      simp only [if_true]
      refine ⟨by simp [hsz, hk], ?_⟩
      rw [hs2]
      exact ho.keep (by omega) (Nat.le_refl _) fun i h1 h2 => hset i (by omega)
    · simp only [if_neg e]
      obtain ⟨g0, g1⟩ := hc j (by omega)
      refine ⟨by rw [Array.getElem?_setIfInBounds_ne (by omega)]; exact g0, ?_⟩
      rw [hs2]
      exact g1.keep (Nat.le_refl _) hz fun i h1 h2 => (hset i (by omega)).trans (hb.block i h2)
  · intro i j hij hj hi0 hj0
    by_cases e : j = k
    · subst e
      have e' : i ≠ j := by omega
      simp only [if_true, if_neg e']
      obtain ⟨ga, ea, _, h2⟩ := own_where (hc i (by omega)).2 hi0
      obtain ⟨gb, eb, h3, _⟩ := own_where ho hj0
      rw [ea, eb]
      intro e
      injection e with e
      injection e with e
      omega
    · have e' : i ≠ k := by omega
      simp only [if_neg e, if_neg e']
      exact hd i j hij (by omega) hi0 hj0
theorem RwsO.done {w wr : World} {g n lo : Nat} {F : Nat → List Int} (h : RwsO w wr g n F n) (hl : lo ≤ g) (c : Nat) : IssO wr lo wr.heap.size ⟨some ⟨g, 0, none⟩, c⟩ ((List.range n).map F) := ⟨fun _ => by
  obtain ⟨_, cs, D, C, hbk, _, hc, hd⟩ := h
  have at_ : ∀ {i : Nat} {vs : List Value}, (vsIss ((List.range n).map F))[i]? = some vs → i < n ∧ vs = ints (F i) := by
    intro i vs hi
    obtain ⟨xs, hx, rfl⟩ := vsIss_inv hi
    have hl := (List.getElem?_eq_some_iff.1 hx).1
    rw [List.length_map, List.length_range] at hl
    rw [List.getElem?_map, List.getElem?_range hl] at hx
    simp at hx
    exact ⟨hl, by rw [hx]⟩
  refine ⟨g, cs, D, C, rfl, hl, hbk.lt, hbk, ?_, ?_⟩
  · intro i vs hi
    obtain ⟨h1, rfl⟩ := at_ hi
    obtain ⟨g0, g1⟩ := hc i h1
    rw [ints_length]
    exact ⟨g0, g1.keep (by omega) (Nat.le_refl _) fun _ _ _ => rfl⟩
  · intro i j vs us hij hi hj h0 h1
    obtain ⟨_, rfl⟩ := at_ hi
    obtain ⟨h2, rfl⟩ := at_ hj
    rw [ints_length] at h0 h1
    exact hd i j hij h2 h0 h1⟩

end Go.Proofs.Ytiljakbjbiinkaa
namespace Go.Proofs.Ytiljakbjbiinkaa
open Go.RowKit Pl Go.BigFrame
set_option maxHeartbeats 4000000
set_option maxRecDepth 100000
set_option linter.unusedVariables false

/-- Lists that are the call's own. -/
def MadeLs (w : World) (L : Iss) (e : Ending) (w' : World) : Prop :=
  ∃ k, e = .returned (IssV k L) ∧ Below w.heap.size w w' ∧ w.heap.size < w'.heap.size ∧ IssO w' w.heap.size w'.heap.size k L
theorem viewlists_any (h : SgH) (s : Sg) (fr n : Nat) (w : World) (B : Nat) (hS : SgR w B h s) (hB : B ≤ w.heap.size) (hok : SgOk s) (hfn : fr + n ≤ 8) :
    Calls Try.prog 132 #[SgV h s, .int .i64 fr, .int .i64 n] w (MadeLs w ((List.range n).map fun i => idxL s (s.V (fr + i)))) := by
  obtain ⟨i0, hi, hz0, hz1, hz2⟩ := info_parts info_il
  have hmk := make_any Try.underlying43 hi hz0 n (by rw [hz2]; omega) (by omega)
  rw [hz1, Nat.mul_one] at hmk
  obtain ⟨W, hW⟩ : ∃ W, W = w.alloc (.cells (mkG h s) TG) := ⟨_, rfl⟩
  have bW : Below w.heap.size w W := by rw [hW]; go_grown
  have kW : Bk W w.heap.size TG (mkG h s) := by rw [hW]; exact Bk.new _ _ _
  have sW : W.heap.size = w.heap.size + 1 := by rw [hW]; simp
  have sWa := Nat.le_of_eq sW
  have sWb := Nat.le_of_eq sW.symm
  have start := Lib.hid (show RwsO w (W.alloc (.cells (madeCells #[.slice none 0 0] n) 39)) (W.heap.size) n (fun i => idxL s (s.V (fr + i))) 0 from
    ⟨bW.alloc (by omega) _, _, fun _ => none, fun _ => 0, Bk.new _ _ _, by simp [size_madeCells], fun j hj => absurd hj (by omega), fun i j _ hj => absurd hj (by omega)⟩)
  have st1 := Lib.hid (show Bk (W.alloc (.cells (madeCells #[.slice none 0 0] n) 39)) w.heap.size TG (mkG h s) from kW.alloc _)
  have R0 := Lib.hid hS
  have HW := Lib.hid hW
  have Hok := Lib.hid hok
  clear hz0 hz1 hz2 hi hW bW kW sW hS hok
  go_enter Try.func132, Try.ntmps132
  go_wp2_with (rw [← HW.out])
  clear hmk
  go_loopw [13] (fun i wr => ∃ k : Nat, k ≤ n ∧ i = .int .i64 k ∧ RwsO w wr W.heap.size n (fun i => idxL s (s.V (fr + i))) k ∧ Bk wr w.heap.size TG (mkG h s)) (fun i _ => n - (intOf i).toNat)
  case atStart => exact ⟨0, Nat.zero_le _, rfl, start.out, st1.out⟩
  case round =>
    obtain ⟨k, hk, rfl, hrw, hq⟩ := hrel
    clear start st1
    have hz := hrw.bel.size
    by_cases hlt : k < n
    · have hk8 : fr + k < 8 := by omega
      have ck : wr.cell? ⟨w.heap.size, 4 + (fr + k), none⟩ = some (.int .u64 (enc WV (s.V (fr + k)) : Nat)) := (hq.cell (4 + (fr + k))).trans (mkG_v h s hk8)
      have lq := hq.lt
      obtain ⟨cs, D, C, hbk, hsz, hcs, hds⟩ := id hrw.hd
      obtain ⟨v0, e0⟩ := hbk.some_ (i := k) (by omega)
      have q0 := hbk.free k
      have lg := hbk.lt
      have Kb := Lib.hid hbk
      have HRw := Lib.hid hrw
      have HQ := Lib.hid hq
      have hti : (k : Int) < (n : Int) := by omega
      have hsum : IntKind.i64.wrap ((fr : Int) + (k : Int)) = ((fr + k : Nat) : Int) := by rw [wrap64_small (by omega) (by omega)]; omega
      obtain ⟨S, SI, SK, SC⟩ : ∃ S : World → Prop, (∀ w' : World, Bk w' w.heap.size TG (mkG h s) → S w') ∧ (∀ w', In S w' → w'.rangeAt w.heap.size 0 (mkG h s).toList) ∧ (∀ y : Ws S, y.val.cell? ⟨w.heap.size, 4 + (fr + k), none⟩ = some (.int .u64 (enc WV (s.V (fr + k)) : Nat))) :=
        ⟨fun w' => Bk w' w.heap.size TG (mkG h s), fun w' a => a, fun w' ⟨y, e⟩ => by rw [e]; exact y.ok.range, fun y => (y.ok.cell _).trans (mkG_v h s hk8)⟩
      have HSI := Lib.hid SI
      have HS := Lib.hid (show S wr.drew from SI _ hq)
      haveI hne := Nonempty.intro (Ws.mk wr.drew HS.out)
      have GK := Lib.hid SK
      have CC := Lib.hid (fun v hv hv2 => viewlist_any h s (s.V (fr + k)) v B hv hv2 Hok.out (Hok.out.V _ hk8))
      obtain ⟨E, hE⟩ : ∃ E, enc WV (s.V (fr + k)) = E := ⟨_, rfl⟩
      rw [hE] at CC SC ck
      have hk8' : ((fr + k : Nat) : Int) < 8 := by omega
      clear hbk hcs hds hrw hq hE SI SK ck
      go_wp2_with fail
      refine region_sel (C := In S) 10 [true, true, true, true, true, true, true, true, true, false, false, false] (by kernel_rfl) (In.mk HS.out) ?_
      simp only [selR, selI]
      repeat (first | (refine qd_r sg_row rfl _ rfl w.heap.size 0 rfl _ rfl GK.out ?_; simp only [Act.put, List.setIfInBounds_toArray, List.set_cons_succ, List.set_cons_zero]) | go_big_quiet_step (fail))
      refine wpQuiet_nil ?_
      refine seqM_step (by rfl) ?_
      intro R hR
      go_wp2_with fail
      refine (CC.out wr.drew ((R0.out.below HRw.out.bel hB).below ((Below.refl wr.heap.size wr).drew) (by omega)) (by show B ≤ wr.heap.size; omega)).mono ?_
      rintro e w3 ⟨A, rfl, hb', own⟩
      have hb : Below wr.heap.size wr w3 := below_on ((Below.refl wr.heap.size wr).drew) hb'
      have own : OwnVs w3 wr.heap.size w3.heap.size 3 A (ints (idxL s (s.V (fr + k)))) := own
      rw [idxL_length]
      have HN := Lib.hid (HRw.out.next hlt (by omega) hb own (c := 3))
      have HQ1 := Lib.hid ((HQ.out.below hb lq).far (p := ⟨W.heap.size, k, none⟩) (by show w.heap.size ≠ W.heap.size; omega) (.slice A (idxL s (s.V (fr + k))).length 3))
      rw [idxL_length] at HN HQ1
      have kb1 := Kb.out.below hb lg
      obtain ⟨v1, e1⟩ := kb1.some_ (i := k) (by omega)
      have q1 := kb1.free k
      have z1 := hb.size
      have S3 := Lib.hid (HSI.out w3 (HQ.out.below hb lq))
      clear hb hb' own kb1 e0 q0
      go_wp2
      refine hR _ _ (fun _ => In.mk S3.out) ?_
      refine seqM_step (by rfl) ?_
      intro R hR
      go_wp2
      refine hR _ _ (fun h => absurd h (by omega)) ?_
      refine seqM_step (by rfl) ?_
      intro R hR
      go_wp2
      refine hR _ _ (fun h => absurd h (by omega)) ?_
      refine seqM_nil ?_
      go_wp2
      go_roundw
      case rel => exact ⟨k + 1, by omega, by go_num, HN.out, HQ1.out⟩
      case measure => simp [intOf]; omega
    · have hkn : k = n := by omega
      subst hkn
      have hD := Lib.hid (hrw.done (lo := w.heap.size) (by omega) k)
      have hb := hrw.bel
      have lg : W.heap.size < wr.heap.size := by obtain ⟨cs, D, C, hbk, _⟩ := hrw.hd; exact hbk.lt
      clear hrw hq
      go_wp2
      go_ret
      exact ⟨⟨_, k⟩, by rw [IssV, List.length_map, List.length_range]; rfl, hb, by omega, hD.out⟩
end Go.Proofs.Ytiljakbjbiinkaa
namespace Go.Proofs.Ytiljakbjbiinkaa
open Go.RowKit Pl Go.BigFrame
set_option maxHeartbeats 4000000
set_option maxRecDepth 100000
set_option linter.unusedVariables false

theorem valuein_any (g : Nat → Nat) (w : World) (hg : okF WV g) : Calls Try.prog 157 #[.int .u64 (enc WV g : Nat)] w fun e w' => e = .returned (.int .i64 (g 1 : Nat)) ∧ Below w.heap.size w w' := by
  have E0 := Lib.hid (fun v => entF flv9 hg 0 (by decide) v (g 1 : Int) (Lib.hid (by simp [fL])))
  obtain ⟨E, hE⟩ : ∃ E, enc WV g = E := ⟨_, rfl⟩
  rw [hE] at E0 ⊢
  obtain ⟨q, hq⟩ : ∃ q, g 1 = q := ⟨_, rfl⟩
  rw [hq] at E0 ⊢
  clear hE hq hg
  go_enter Try.func157, Try.ntmps157
  go_wp2_with fail
  refine (E0.out w).mono ?_
  rintro e w1 ⟨rfl, hb1⟩
  go_wp2
  go_ret
  exact ⟨rfl, hb1⟩
theorem isglued_any (g : Nat → Nat) (w : World) (hg : okF WV g) (r : Bool) (hr : Hid (((g 0 : Int) == 1) = r)) : Calls Try.prog 175 #[.int .u64 (enc WV g : Nat)] w fun e w' => e = .returned (.bool r) ∧ Below w.heap.size w w' := by
  have E0 := Lib.hid (fun v => entF flv10 hg 0 (by decide) v (g 0 : Int) (Lib.hid (by simp [fL])))
  obtain ⟨E, hE⟩ : ∃ E, enc WV g = E := ⟨_, rfl⟩
  rw [hE] at E0 ⊢
  obtain ⟨q, hq⟩ : ∃ q, (g 0 : Int) = q := ⟨_, rfl⟩
  rw [hq] at E0 hr
  clear hE hq hg
  go_enter Try.func175, Try.ntmps175
  go_wp2_with fail
  refine (E0.out w).mono ?_
  rintro e w1 ⟨rfl, hb1⟩
  go_wp2
  go_ret
  exact ⟨by rw [← hr.out]; rfl, hb1⟩
/-- The note of a store's word, and those of a place. -/
def noteOf (s : Sg) (g : Nat → Nat) : Nt := ⟨(g 1 : Int), idxL s g, (g 0 : Int) == 1⟩
def notesOf (s : Sg) (p : Nat) : Nts := (s.S p).map (noteOf s)
def nssOf (s : Sg) : Nss := (List.range 3).map (notesOf s)
theorem notesOf_length (s : Sg) (p : Nat) : (notesOf s p).length = (s.S p).length := by simp [notesOf]
theorem notesOf_at {s : Sg} {p i : Nat} {g : Nat → Nat} (h : (s.S p)[i]? = some g) : (notesOf s p)[i]? = some (noteOf s g) := by simp [notesOf, h]
theorem nssOf_length (s : Sg) : (nssOf s).length = 3 := rfl
theorem nssOf_at (s : Sg) {p : Nat} (h : p < 3) : (nssOf s)[p]? = some (notesOf s p) := by unfold nssOf; rw [List.getElem?_map, List.getElem?_range h]; rfl

/-- What a list of notes has come to behind k of them, in a block that was made ahead. -/
def FillN (w wr : World) (g : Nat) (o : Nts) (k : Nat) : Prop :=
  Only g (g + 1) w wr ∧ ∃ (cs : Array Value) (m : Nat → Nat) (H : Nat → NtH), Bk wr g 112 cs ∧ cs.size = o.length * 3 ∧ w.heap.size ≤ m 0 ∧ (∀ i j, i ≤ j → m i ≤ m j) ∧ (∀ i, m i ≤ wr.heap.size) ∧
    ∀ (i : Nat) (x : Nt), i < k → o[i]? = some x → NtC cs (i * 3) (H i) x ∧ OwnVs wr (m i) (m (i + 1)) 3 (H i).A (ints x.w)
theorem FillN.next {w wr w1 : World} {g : Nat} {o : Nts} {k : Nat} {x : Nt} {q : NtH} (h : FillN w wr g o k) (hg : g < w.heap.size) (hb : Below wr.heap.size wr w1) (ho : OwnVs w1 wr.heap.size w1.heap.size 3 q.A (ints x.w)) (hx : o[k]? = some x) :
    FillN w (((w1.setCell ⟨g, k * 3, none⟩ (.int .i64 x.v)).setCell ⟨g, k * 3 + 1, none⟩ (.slice q.A x.w.length q.c)).setCell ⟨g, k * 3 + 2, none⟩ (.bool x.g)) g o (k + 1) := by
  obtain ⟨h0, cs, m, H, hbk, hsz, hm0, hm, hm2, hc⟩ := h
  have hk : k < o.length := (List.getElem?_eq_some_iff.1 hx).1
  have hlt := hbk.lt
  have hz := hb.size
  have hz0 := h0.size
  have hset : ∀ i, i ≠ g → (((w1.setCell ⟨g, k * 3, none⟩ (.int .i64 x.v)).setCell ⟨g, k * 3 + 1, none⟩ (.slice q.A x.w.length q.c)).setCell ⟨g, k * 3 + 2, none⟩ (.bool x.g)).heap[i]? = w1.heap[i]? := fun i hi =>
    (Below.heap_setCell _ _ _ i hi).trans ((Below.heap_setCell _ _ _ i hi).trans (Below.heap_setCell _ _ _ i hi))
  have hs2 : (((w1.setCell ⟨g, k * 3, none⟩ (.int .i64 x.v)).setCell ⟨g, k * 3 + 1, none⟩ (.slice q.A x.w.length q.c)).setCell ⟨g, k * 3 + 2, none⟩ (.bool x.g)).heap.size = w1.heap.size := by simp
  refine ⟨(((h0.trans (Only.of_below hb)).setCell (p := ⟨g, k * 3, none⟩) (Nat.le_refl _) (Nat.lt_succ_self _) _).setCell (p := ⟨g, k * 3 + 1, none⟩) (Nat.le_refl _) (Nat.lt_succ_self _) _).setCell (p := ⟨g, k * 3 + 2, none⟩) (Nat.le_refl _) (Nat.lt_succ_self _) _, put3n cs (k * 3) _ _ _, mOn m k w1.heap.size, fun i => if i = k then q else H i, (((hbk.below hb hlt).set _ _).set _ _).set _ _, by rw [size_put3n]; exact hsz, by unfold mOn; rw [if_pos (Nat.zero_le _)]; exact hm0, mOn_le m k _ hm fun i => Nat.le_trans (hm2 i) hz, by rw [hs2]; exact mOn_top m k _ _ (fun i => Nat.le_trans (hm2 i) hz) (Nat.le_refl _), ?_⟩
  intro i y hi hy
  by_cases e : i = k
  · subst e
    obtain rfl : x = y := by rw [hx] at hy; injection hy
    simp only [if_true]
    refine ⟨put3n_at _ _ _ (by rw [hsz]; omega), ?_⟩
    have e1 : mOn m i w1.heap.size i = m i := by unfold mOn; rw [if_pos (Nat.le_refl _)]
    have e2 : mOn m i w1.heap.size (i + 1) = w1.heap.size := by unfold mOn; rw [if_neg (by omega)]
    rw [e1, e2]
    exact ho.keep (hm2 i) (Nat.le_refl _) fun j h1 _ => hset j (by omega)
  · obtain ⟨g0, g1⟩ := hc i y (by omega) hy
    simp only [if_neg e]
    refine ⟨g0.far _ _ _ e, ?_⟩
    have e1 : mOn m k w1.heap.size i = m i := by unfold mOn; rw [if_pos (by omega)]
    have e2 : mOn m k w1.heap.size (i + 1) = m (i + 1) := by unfold mOn; rw [if_pos (by omega)]
    rw [e1, e2]
    have a1 := hm 0 i (Nat.zero_le _)
    have a2 := hm2 (i + 1)
    exact g1.keep (Nat.le_refl _) (Nat.le_refl _) fun j h1 h2 => (hset j (by omega)).trans (hb.block j (by omega))
theorem FillN.done {w wr : World} {g c : Nat} {o : Nts} (h : FillN w wr g o o.length) (hg : g < w.heap.size) : NtsO wr g wr.heap.size ⟨some ⟨g, 0, none⟩, c⟩ o := ⟨fun _ => by
  obtain ⟨_, cs, m, H, hbk, _, hm0, hm, hm2, hc⟩ := h
  exact ⟨_, cs, m, H, rfl, Nat.le_refl _, by omega, hm, hm2, hbk, fun i x hi => hc i x (List.getElem?_eq_some_iff.1 hi).1 hi⟩⟩
/-- A row more, whose header was put ahead of what it holds. -/
theorem CopyNN.put {W wr wf : World} {N : Nss} {k c : Nat} {x : Nts} {q : Array Value} {t : TypeId} (h : CopyNN W wr N k) (hx : N[k]? = some x)
    (hF : Only wr.heap.size (wr.heap.size + 1) ((wr.setCell ⟨W.heap.size, k, none⟩ (.slice (some ⟨wr.heap.size, 0, none⟩) x.length c)).alloc (.cells q t)) wf) (hO : NtsO wf wr.heap.size wf.heap.size ⟨some ⟨wr.heap.size, 0, none⟩, c⟩ x) : CopyNN W wf N (k + 1) := by
  obtain ⟨h0, cs, m, H, hbk, hsz, hm0, hm, hm2, hc⟩ := h
  have hk : k < N.length := (List.getElem?_eq_some_iff.1 hx).1
  have hlt := hbk.lt
  have hsb : ((wr.setCell ⟨W.heap.size, k, none⟩ (.slice (some ⟨wr.heap.size, 0, none⟩) x.length c)).alloc (.cells q t)).heap.size = wr.heap.size + 1 := by simp
  have hz := hF.size
  rw [hsb] at hz
  have bA : ∀ V : World, Below V.heap.size V (V.alloc (.cells q t)) := fun V => (Below.refl _ _).alloc (Nat.le_refl _) _
  have hset : ∀ i, i ≠ W.heap.size → i < wr.heap.size → ((wr.setCell ⟨W.heap.size, k, none⟩ (.slice (some ⟨wr.heap.size, 0, none⟩) x.length c)).alloc (.cells q t)).heap[i]? = wr.heap[i]? := fun i hi hl => ((bA _).block i (by simpa using hl)).trans (Below.heap_setCell _ _ _ i hi)
  have hb2 : Bk ((wr.setCell ⟨W.heap.size, k, none⟩ (.slice (some ⟨wr.heap.size, 0, none⟩) x.length c)).alloc (.cells q t)) W.heap.size 110 (cs.setIfInBounds k (.slice (some ⟨wr.heap.size, 0, none⟩) x.length c)) := (hbk.set _ _).alloc _
  have hbel : Below W.heap.size W wf := ((h0.setCell (p := ⟨W.heap.size, k, none⟩) (Nat.le_refl _) _).alloc (by simp; omega) _).trans (hF.to_below (by omega) (by rw [hsb]; omega))
  refine ⟨hbel, cs.setIfInBounds k _, mOn m k wf.heap.size, fun i => if i = k then ⟨some ⟨wr.heap.size, 0, none⟩, c⟩ else H i, only_bk hb2 hF (by omega), by rw [Array.size_setIfInBounds]; exact hsz, by unfold mOn; rw [if_pos (Nat.zero_le _)]; exact hm0, mOn_le m k _ hm fun i => Nat.le_trans (hm2 i) (by omega), mOn_top m k _ _ (fun i => Nat.le_trans (hm2 i) (by omega)) (Nat.le_refl _), ?_⟩
  intro i y hi hy
  by_cases e : i = k
  · subst e
    obtain rfl : x = y := by rw [hx] at hy; injection hy
    simp only [if_true]
    refine ⟨by rw [Array.getElem?_setIfInBounds_self_of_lt (by omega)], ?_⟩
    have e1 : mOn m i wf.heap.size i = m i := by unfold mOn; rw [if_pos (Nat.le_refl _)]
    have e2 : mOn m i wf.heap.size (i + 1) = wf.heap.size := by unfold mOn; rw [if_neg (by omega)]
    rw [e1, e2]
    exact hO.keep (hm2 i) (Nat.le_refl _) fun j h1 _ => rfl
  · obtain ⟨g0, g1⟩ := hc i y (by omega) hy
    simp only [if_neg e]
    refine ⟨by rw [Array.getElem?_setIfInBounds_ne (by omega)]; exact g0, ?_⟩
    have e1 : mOn m k wf.heap.size i = m i := by unfold mOn; rw [if_pos (by omega)]
    have e2 : mOn m k wf.heap.size (i + 1) = m (i + 1) := by unfold mOn; rw [if_pos (by omega)]
    rw [e1, e2]
    have a1 := hm 0 i (Nat.zero_le _)
    have a2 := hm2 (i + 1)
    exact g1.keep (Nat.le_refl _) (Nat.le_refl _) fun j h1 h2 => (hF.block j (by rw [hsb]; omega) (by omega)).trans (hset j (by omega) (by omega))
def MadeN (w : World) (N : Nss) (e : Ending) (w' : World) : Prop :=
  ∃ k, e = .returned (NssV k N) ∧ Below w.heap.size w w' ∧ w.heap.size < w'.heap.size ∧ NssO w' w.heap.size w'.heap.size k N
theorem notelists_any (h : SgH) (s : Sg) (w : World) (B : Nat) (hS : SgR w B h s) (hB : B ≤ w.heap.size) (hok : SgOk s) :
    Calls Try.prog 131 #[SgV h s] w (MadeN w (nssOf s)) := by
  obtain ⟨i0, hi, hz0, hz1, hz2⟩ := info_parts Try.info110
  have hmk := make_any Try.underlying42 hi hz0 3 (by rw [hz2]; omega) (by omega)
  rw [hz1, Nat.mul_one, show ((3 : Nat) : Int) = 3 from rfl] at hmk
  obtain ⟨j0, hj, jz0, jz1, jz2⟩ := info_parts Try.info112
  have hmk2 := fun (n : Nat) (hn : n ≤ 16) => make_any Try.underlying110 hj jz0 n (by rw [jz2]; omega) (by omega)
  rw [jz1] at hmk2
  have Mk2 := Lib.hid hmk2
  obtain ⟨W, hW⟩ : ∃ W, W = w.alloc (.cells (mkG h s) TG) := ⟨_, rfl⟩
  have bW : Below w.heap.size w W := by rw [hW]; go_grown
  have kW : Bk W w.heap.size TG (mkG h s) := by rw [hW]; exact Bk.new _ _ _
  have sW : W.heap.size = w.heap.size + 1 := by rw [hW]; simp
  have sWa := Nat.le_of_eq sW
  have sWb := Nat.le_of_eq sW.symm
  have start := Lib.hid (show CopyNN W (W.alloc (.cells (madeCells #[.slice none 0 0] 3) 110)) (nssOf s) 0 from
    ⟨(Below.refl _ _).alloc (Nat.le_refl _) _, _, fun _ => W.heap.size + 1, fun _ => ⟨none, 0⟩, Bk.new _ _ _, by simp [size_madeCells, nssOf_length], Nat.lt_succ_self _, fun _ _ _ => Nat.le_refl _, fun _ => by simp, fun i x hj => absurd hj (by omega)⟩)
  have R0 := Lib.hid (hS.below bW hB)
  have B0 := Lib.hid bW
  have K0 := Lib.hid kW
  have HW := Lib.hid hW
  have Hok := Lib.hid hok
  have c0 : W.cell? ⟨w.heap.size, 1, none⟩ = some (.slice (h.A 0) (s.S 0).length (h.c 0)) := (kW.cell 1).trans (mkG_s h s (p := 0) (by omega))
  have c1 : W.cell? ⟨w.heap.size, 2, none⟩ = some (.slice (h.A 1) (s.S 1).length (h.c 1)) := (kW.cell 2).trans (mkG_s h s (p := 1) (by omega))
  have c2 : W.cell? ⟨w.heap.size, 3, none⟩ = some (.slice (h.A 2) (s.S 2).length (h.c 2)) := (kW.cell 3).trans (mkG_s h s (p := 2) (by omega))
  have lW := kW.lt
  clear hz0 hz1 hz2 hi hj jz0 jz1 jz2 hmk2 hW bW kW sW hS hok
  go_enter Try.func131, Try.ntmps131
  go_wp2_with (rw [← HW.out])
  clear hmk c0 c1 c2
  go_loopw [11] (fun i wr => ∃ k : Nat, k ≤ 3 ∧ i = .int .i64 k ∧ CopyNN W wr (nssOf s) k) (fun i _ => 3 - (intOf i).toNat)
  case atStart => exact ⟨0, Nat.zero_le _, rfl, start.out⟩
  case round =>
    obtain ⟨k, hk, rfl, hcp⟩ := hrel
    clear start
    obtain ⟨wo, rfl⟩ : ∃ wo : World, wo = wr := ⟨_, rfl⟩
    have hbel := hcp.1
    have hz := hbel.size
    by_cases hlt : k < 3
    · obtain ⟨-, cs, -, -, hbk, hsz, -⟩ := id hcp
      rw [nssOf_length] at hsz
      obtain ⟨v0, e0⟩ := hbk.some_ (i := k) (by omega)
      have q0 := hbk.free k
      have lg := hbk.lt
      have Kb := Lib.hid hbk
      have Hcp := Lib.hid hcp
      have Kr := Lib.hid (K0.out.below hbel K0.out.lt)
      have Vr := Lib.hid (R0.out.below hbel (by omega))
      have Bl := Lib.hid hbel
      have hki : (k : Int) < 3 := by omega
      obtain ⟨n, hn⟩ : ∃ n, (s.S k).length = n := ⟨_, rfl⟩
      have hn16 : n ≤ 16 := by rw [← hn]; exact Hok.out.l k hlt
      have hmk2 := Mk2.out n hn16
      have HN := Lib.hid hn
      have hix : ∀ v : World, Sem.run Try.prog (Instr.index 94 (.agg #[.slice (h.A 0) (s.S 0).length (h.c 0), .slice (h.A 1) (s.S 1).length (h.c 1), .slice (h.A 2) (s.S 2).length (h.c 2)]) (.int .i64 (k : Int))) v = .ok (.slice (h.A k) n (h.c k)) v := by
        rw [← hn]
        rcases (show k = 0 ∨ k = 1 ∨ k = 2 by omega) with rfl | rfl | rfl <;> (intro v; rfl)
      clear hbk hcp hbel hn
      obtain ⟨Bs, hBs⟩ : ∃ Bs, Bs = (wo.setCell ⟨W.heap.size, k, none⟩ (.slice (some ⟨wo.heap.size, 0, none⟩) n n)).alloc (.cells (madeCells #[.int .i64 0, .slice none 0 0, .bool false] (n * 3)) 112) := ⟨_, rfl⟩
      have sBs : Bs.heap.size = wo.heap.size + 1 := by rw [hBs]; simp
      have sBa := Nat.le_of_eq sBs
      have sBb := Nat.le_of_eq sBs.symm
      have bwB : Below W.heap.size wo Bs := by rw [hBs]; exact ((Below.refl _ _).setCell (p := ⟨W.heap.size, k, none⟩) (Nat.le_refl _) _).alloc (by simp; omega) _
      have kBs : Bk Bs wo.heap.size 112 (madeCells #[.int .i64 0, .slice none 0 0, .bool false] (n * 3)) := by
        rw [hBs]
        have := Bk.new (wo.setCell ⟨W.heap.size, k, none⟩ (.slice (some ⟨wo.heap.size, 0, none⟩) n n)) (madeCells #[.int .i64 0, .slice none 0 0, .bool false] (n * 3)) 112
        rwa [World.size_setCell] at this
      have kHd : Bk Bs W.heap.size 110 (cs.setIfInBounds k (.slice (some ⟨wo.heap.size, 0, none⟩) n n)) := by rw [hBs]; exact (Kb.out.set _ _).alloc _
      have kBx : Bk Bs w.heap.size TG (mkG h s) := Kr.out.below bwB (by omega)
      have Vb := Lib.hid (Vr.out.below bwB (by omega))
      have start2 := Lib.hid (show FillN Bs Bs wo.heap.size (notesOf s k) 0 from ⟨Only.refl _ _ _, _, fun _ => Bs.heap.size, fun _ => ⟨none, 0⟩, kBs, by simp [size_madeCells, notesOf_length, HN.out], Nat.le_refl _, fun _ _ _ => Nat.le_refl _, fun _ => Nat.le_refl _, fun i x hj => absurd hj (by omega)⟩)
      have KHd := Lib.hid kHd
      have KBx := Lib.hid kBx
      have HBs := Lib.hid hBs
      have hdc : (cs.setIfInBounds k (.slice (some ⟨wo.heap.size, 0, none⟩) n n))[k]? = some (.slice (some ⟨wo.heap.size, 0, none⟩) n n) := Array.getElem?_setIfInBounds_self_of_lt (by omega)
      have Hdc := Lib.hid hdc
      clear sBs kBs kHd kBx hBs hdc bwB
      go_wp2_with (rw [← HBs.out])
      clear hix hmk2 e0 q0
      go_loopw [23] (fun i w2 => ∃ m : Nat, m ≤ n ∧ i = .int .i64 m ∧ FillN Bs w2 wo.heap.size (notesOf s k) m) (fun i _ => n - (intOf i).toNat)
      case atStart => exact ⟨0, Nat.zero_le _, rfl, start2.out⟩
      case round =>
        obtain ⟨m, hm, rfl, hfl⟩ := hrel
        clear start2
        have zw2 := hfl.1.size
        have BX := Lib.hid (only_bk KBx.out hfl.1 (by omega))
        have HX := Lib.hid (only_bk KHd.out hfl.1 (by omega))
        by_cases hlt2 : m < n
        · obtain ⟨g, hg⟩ : ∃ g, (s.S k)[m]? = some g := ⟨_, List.getElem?_eq_getElem (by rw [HN.out]; exact hlt2)⟩
          have Vw := (Vb.out.below (hfl.1.to_below (B := wo.heap.size) (Nat.le_refl _) (by omega)) (by omega))
          have V3 := Lib.hid (fun p hp => (Vw p hp))
          obtain ⟨b, off, hA, hb, hxs⟩ := Vw k hlt (by rw [vsW_length, HN.out]; omega)
          have cw := hxs m _ (vsW_at hg)
          have okg := Lib.hid (Hok.out.S k hlt g (List.mem_of_getElem? hg))
          have hmi : (m : Int) < (n : Int) := by omega
          have hki2 : (k : Int) < 3 := hki
          obtain ⟨-, cs2, -, -, hbk2, hsz2, -⟩ := id hfl
          rw [notesOf_length, HN.out] at hsz2
          have hlg2 := hbk2.lt
          have Kn := Lib.hid hbk2
          have Hfl := Lib.hid hfl
          have Hg := Lib.hid hg
          have lb2 := BX.out.lt
          have lh2 := HX.out.lt
          have hsz2a := Nat.le_of_eq hsz2.symm
          obtain ⟨S, SI, SK, SC⟩ : ∃ S : World → Prop, (∀ w' : World, Bk w' w.heap.size TG (mkG h s) → w'.cell? ⟨W.heap.size, k, none⟩ = some (.slice (some ⟨wo.heap.size, 0, none⟩) n n) → S w') ∧ (∀ w', In S w' → w'.rangeAt w.heap.size 0 (mkG h s).toList) ∧ (∀ y : Ws S, y.val.cell? ⟨W.heap.size, k, none⟩ = some (.slice (some ⟨wo.heap.size, 0, none⟩) n n)) :=
            ⟨fun w' => Bk w' w.heap.size TG (mkG h s) ∧ w'.cell? ⟨W.heap.size, k, none⟩ = some (.slice (some ⟨wo.heap.size, 0, none⟩) n n), fun w' a b => ⟨a, b⟩, fun w' ⟨y, e⟩ => by rw [e]; exact y.ok.1.range, fun y => y.ok.2⟩
          have HSI := Lib.hid SI
          have ch := (HX.out.cell k).trans Hdc.out
          have CH := Lib.hid ch
          have HS := Lib.hid (show S wr.drew from SI _ BX.out ch)
          haveI hne := Nonempty.intro (Ws.mk wr.drew HS.out)
          have GK := Lib.hid SK
          have CV := Lib.hid (fun v => valuein_any g v okg.out)
          obtain ⟨gl, hgl⟩ : ∃ b, ((g 0 : Int) == 1) = b := ⟨_, rfl⟩
          have CG := Lib.hid (fun v => isglued_any g v okg.out gl (Lib.hid hgl))
          have CL := Lib.hid (fun v hv hv2 => viewlist_any h s g v B hv hv2 Hok.out okg.out)
          have NX := Lib.hid (show (notesOf s k)[m]? = some ⟨(g 1 : Int), idxL s g, gl⟩ by rw [notesOf_at hg, ← hgl]; rfl)
          obtain ⟨vg, hvg⟩ : ∃ x, g 1 = x := ⟨_, rfl⟩
          obtain ⟨E, hE⟩ : ∃ E, enc WV g = E := ⟨_, rfl⟩
          rw [hvg] at CV NX
          rw [hE] at CV CG CL cw
          rw [hA]
          clear hE hvg hgl hxs hbk2 hfl Vw SI SK hA ch hg hsz2
          go_wp2_with fail
          refine region_sel (C := In S) 13 [true, true, true, true, true, true, false, true, true, false, true, false, false, false, false] (by kernel_rfl) (In.mk HS.out) ?_
          simp only [selR, selI]
          repeat (first | (refine qd_r sg_row rfl _ rfl w.heap.size 0 rfl _ rfl GK.out ?_; simp only [Act.put, List.setIfInBounds_toArray, List.set_cons_succ, List.set_cons_zero]) | go_big_quiet_step (fail))
          refine wpQuiet_nil ?_
          refine seqM_step (by rfl) ?_
          intro R hR
          go_wp2_with fail
          refine (CV.out wr.drew).mono ?_
          rintro e w3 ⟨rfl, hb'⟩
          have hb3 : Below wr.heap.size wr w3 := below_on ((Below.refl wr.heap.size wr).drew) hb'
          have B3 := Lib.hid hb3
          have z3 := hb3.size
          clear hb'
          go_wp2
          refine hR _ _ (fun _ => In.mk (HSI.out w3 (BX.out.below B3.out lb2) ((B3.out.cell (p := ⟨W.heap.size, k, none⟩) lh2).trans CH.out))) ?_
          refine seqM_step (by rfl) ?_
          intro R hR
          go_wp2_with fail
          refine (CL.out w3 (fun p hp => (V3.out p hp).below B3.out (by omega)) (by omega)).mono ?_
          rintro e w4 ⟨A4, rfl, hb4, own4⟩
          have B4 := Lib.hid (below_on B3.out hb4)
          have Own4 := Lib.hid own4
          have z4 := hb4.size
          rw [idxL_length]
          clear hb4 own4
          go_wp2
          refine hR _ _ (fun _ => In.mk (HSI.out w4 (BX.out.below B4.out lb2) ((B4.out.cell (p := ⟨W.heap.size, k, none⟩) lh2).trans CH.out))) ?_
          refine seqM_step (by rfl) ?_
          intro R hR
          go_wp2_with fail
          refine (CG.out w4).mono ?_
          rintro e w5 ⟨rfl, hb5⟩
          have B5 := Lib.hid (below_on B4.out hb5)
          have Own5 := Lib.hid (show OwnVs w5 wr.heap.size w5.heap.size 3 A4 (ints (idxL s g)) from (Own4.out.below hb5 (Nat.le_refl _)).more (by omega) hb5.size)
          have z5 := hb5.size
          clear hb5
          go_wp2
          refine hR _ _ (fun _ => In.mk (HSI.out w5 (BX.out.below B5.out lb2) ((B5.out.cell (p := ⟨W.heap.size, k, none⟩) lh2).trans CH.out))) ?_
          have kn5 := Kn.out.below B5.out hlg2
          obtain ⟨x0, e0⟩ := kn5.some_ (i := m * 3) (by omega)
          obtain ⟨x1, e1⟩ := kn5.some_ (i := m * 3 + 1) (by omega)
          obtain ⟨x2, e2⟩ := kn5.some_ (i := m * 3 + 2) (by omega)
          have f0 := kn5.free (m * 3)
          have f1 := kn5.free (m * 3 + 1)
          have f2 := kn5.free (m * 3 + 2)
          have Next := Lib.hid (Hfl.out.next (q := ⟨A4, 3⟩) (by omega) B5.out Own5.out NX.out)
          simp only [idxL_length] at Next
          refine seqM_step (by rfl) ?_
          intro R hR
          go_wp2
          refine hR _ _ (fun _ => In.mk (HSI.out w5 (BX.out.below B5.out lb2) ((B5.out.cell (p := ⟨W.heap.size, k, none⟩) lh2).trans CH.out))) ?_
          clear kn5
          refine seqM_step (by rfl) ?_
          intro R hR
          go_wp2
          refine hR _ _ (fun h => absurd h (by omega)) ?_
          refine seqM_step (by rfl) ?_
          intro R hR
          go_wp2
          refine hR _ _ (fun h => absurd h (by omega)) ?_
          refine seqM_nil ?_
          go_wp2
          go_roundw
          case rel => exact ⟨m + 1, by omega, by go_num, Next.out⟩
          case measure => simp [intOf]; omega
        · have hmn : m = n := by omega
          subst hmn
          have hi1 : ¬ (m : Int) < (m : Int) := by omega
          have Nx := Lib.hid (show CopyNN W wr (nssOf s) (k + 1) from Hcp.out.put (x := notesOf s k) (c := m) (nssOf_at s hlt) (by rw [notesOf_length, HN.out, ← HBs.out]; exact hfl.1) (FillN.done (by rw [notesOf_length, HN.out]; exact hfl) (by omega)))
          clear hfl
          go_wp2
          go_roundw
          case rel => exact ⟨k + 1, by omega, by go_num, Nx.out⟩
          case measure => simp [intOf]; omega
    · have hk3 : k = 3 := by omega
      subst hk3
      have hD := Lib.hid (CopyNN.done (o := nssOf s) (by rw [nssOf_length]; exact hcp))
      have lg : W.heap.size < wo.heap.size := by obtain ⟨-, cs, -, -, hbk, -⟩ := hcp; exact hbk.lt
      clear hcp
      go_wp2
      go_ret
      exact ⟨⟨_, 3⟩, rfl, B0.out.trans (hbel.mono (by omega)), by omega, hD.out.keep (by omega) (Nat.le_refl _) fun _ _ _ => rfl⟩
end Go.Proofs.Ytiljakbjbiinkaa
namespace Go.Proofs.Ytiljakbjbiinkaa
open Go.RowKit Pl Go.BigFrame
set_option maxHeartbeats 4000000
set_option maxRecDepth 100000
set_option linter.unusedVariables false

theorem vw_row : RowT 45 10 := ⟨by kernel_rfl, _, Try.underlying45, rfl⟩
def vwdC (k : VwdH) (o : Vwd) : Array Value := #[.slice k.h.A0 o.st.f0.length k.h.c0, .slice k.h.A1 o.st.f1.length k.h.c1, .slice k.h.A2 o.st.f2.length k.h.c2, .slice k.h.A3 o.st.f3.length k.h.c3, .slice k.h.A4 o.st.f4.length k.h.c4, .slice k.n.A o.n.length k.n.c, .slice k.v.A o.v.length k.v.c, .slice k.l.A o.l.length k.l.c, .slice k.k.A o.k.length k.k.c, .slice k.f.A o.f.length k.f.c]
theorem vwdC_one (k : VwdH) (o : Vwd) : (vwdC k o).all (·.oneCell') = true := by simp [vwdC, Value.oneCell']
/-- The state of words. -/
def vwdOf (L : Pg) (s : Sg) : Vwd := ⟨staF L s.f, nssOf s, (List.range L.length).map fun i => idxL s (s.V (0 + i)), (List.range 2).map fun i => idxL s (s.V (3 + i)), (List.range 2).map fun i => idxL s (s.V (5 + i)), idxL s (s.V 7)⟩
theorem unpv_any (hp : PgH) (L : Pg) (h : SgH) (s : Sg) (w : World) (B : Nat) (hS : SgR w B h s) (hB : B ≤ w.heap.size) (hok : SgOk s) (hL : progB L = true) :
    Calls Try.prog 62 #[PgV hp L, SgV h s] w (ToVwd w (vwdOf L s)) := by
  obtain ⟨h31, h32⟩ := prog_len hL
  obtain ⟨W, hW⟩ : ∃ W, W = ((w.alloc (.cells #[.slice hp.A L.length hp.c] 30)).alloc (.cells (mkG h s) TG)).alloc (.cells #[.slice none 0 0, .slice none 0 0, .slice none 0 0, .slice none 0 0, .slice none 0 0, .slice none 0 0, .slice none 0 0, .slice none 0 0, .slice none 0 0, .slice none 0 0] 45) := ⟨_, rfl⟩
  have bW : Below w.heap.size w W := by rw [hW]; go_grown
  have sW : W.heap.size = w.heap.size + 1 + 1 + 1 := by rw [hW]; simp
  have k0 : Bk W w.heap.size 30 #[.slice hp.A L.length hp.c] := by rw [hW]; exact ((Bk.new w _ _).alloc _).alloc _
  have k1 : Bk W (w.heap.size + 1) TG (mkG h s) := by
    rw [hW]; have := (Bk.new (w.alloc (.cells #[.slice hp.A L.length hp.c] 30)) (mkG h s) TG).alloc (.cells #[.slice none 0 0, .slice none 0 0, .slice none 0 0, .slice none 0 0, .slice none 0 0, .slice none 0 0, .slice none 0 0, .slice none 0 0, .slice none 0 0, .slice none 0 0] 45)
    rwa [World.size_alloc] at this
  have k2 : Bk W (w.heap.size + 1 + 1) 45 #[.slice none 0 0, .slice none 0 0, .slice none 0 0, .slice none 0 0, .slice none 0 0, .slice none 0 0, .slice none 0 0, .slice none 0 0, .slice none 0 0, .slice none 0 0] := by
    rw [hW]; have := Bk.new ((w.alloc (.cells #[.slice hp.A L.length hp.c] 30)).alloc (.cells (mkG h s) TG)) #[.slice none 0 0, .slice none 0 0, .slice none 0 0, .slice none 0 0, .slice none 0 0, .slice none 0 0, .slice none 0 0, .slice none 0 0, .slice none 0 0, .slice none 0 0] 45
    rwa [World.size_alloc, World.size_alloc] at this
  have R0 := Lib.hid (hS.below bW hB)
  have K0 := Lib.hid k0
  have K1 := Lib.hid k1
  have K2 := Lib.hid k2
  have BW := Lib.hid bW
  have sWa := Nat.le_of_eq sW
  have sWb := Nat.le_of_eq sW.symm
  have HW := Lib.hid hW
  have Hok := Lib.hid hok
  have l0 := k0.lt
  have l1 := k1.lt
  have l2 := k2.lt
  obtain ⟨S, SI, SK, S0, S1, S2⟩ : ∃ S : World → Prop, (∀ w' : World, Below W.heap.size W w' → S w') ∧ (∀ w', In S w' → w'.rangeAt (w.heap.size + 1) 0 (mkG h s).toList) ∧ (∀ y : Ws S, y.val.cell? ⟨w.heap.size, 0, none⟩ = some (.slice hp.A L.length hp.c)) ∧ (∀ y : Ws S, y.val.cell? ⟨w.heap.size + 1, 0, none⟩ = some (.int .u64 (enc WS s.f : Nat))) ∧ (∀ y : Ws S, y.val.cell? ⟨w.heap.size + 1, 11, none⟩ = some (.int .u64 (enc WV (s.V 7) : Nat))) :=
    ⟨fun w' => Below W.heap.size W w', fun w' a => a, fun w' ⟨y, e⟩ => by rw [e]; exact (k1.below y.ok l1).range, fun y => (k0.below y.ok l0).cell 0, fun y => (k1.below y.ok l1).cell 0, fun y => (k1.below y.ok l1).cell 11⟩
  have HSI := Lib.hid SI
  have HS := Lib.hid (show S W.drew from SI _ ((Below.refl _ _).drew))
  haveI hne := Nonempty.intro (Ws.mk W.drew HS.out)
  have GK := Lib.hid SK
  have C0 := Lib.hid (fun v => unpacked_any hp L s.f v hL hok.f)
  have C5 := Lib.hid (fun v hv hv2 => viewlist_any h s (s.V 7) v B hv hv2 hok (hok.V 7 (by decide)))
  obtain ⟨E0, hE0⟩ : ∃ E, enc WS s.f = E := ⟨_, rfl⟩
  obtain ⟨E7, hE7⟩ : ∃ E, enc WV (s.V 7) = E := ⟨_, rfl⟩
  rw [hE0] at S1 C0
  rw [hE7] at S2 C5
  clear hW bW sW k0 k1 k2 hS hok hE0 hE7 SI SK
  go_enter Try.func62, Try.ntmps62
  go_wp2_with (rw [← HW.out])
  refine region_sel (C := In S) 20 [true, true, true, false, true, false, true, true, true, true, false, true, false, true, false, true, true, true, true, false, false, false] (by kernel_rfl) (In.mk HS.out) ?_
  simp only [selR, selI]
  repeat (first | (refine qd_r sg_row rfl _ rfl (w.heap.size + 1) 0 rfl _ rfl GK.out ?_; simp only [Act.put, List.setIfInBounds_toArray, List.set_cons_succ, List.set_cons_zero]) | go_big_quiet_step (fail))
  refine wpQuiet_nil ?_
  refine seqM_step (by rfl) ?_
  intro R hR
  go_wp2_with fail
  refine (C0.out W.drew).mono ?_
  rintro e u0 ⟨hs, rfl, hb', hl0, own0⟩
  have B0 := Lib.hid (show Below W.heap.size W u0 from below_on ((Below.refl W.heap.size W).drew) hb')
  have O0 := Lib.hid (show StaO u0 W.heap.size u0.heap.size hs (staF L s.f) from own0)
  have z0 : W.heap.size < u0.heap.size := hl0
  clear hb' own0 hl0
  go_wp2
  refine hR _ _ (fun _ => In.mk (HSI.out u0 B0.out)) ?_
  refine seqM_step (by rfl) ?_
  intro R hR
  go_wp2_with fail
  refine (notelists_any h s u0 B (R0.out.below B0.out (by omega)) (by omega) Hok.out).mono ?_
  rintro e u1 ⟨hn, rfl, hb', hl1, own1⟩
  have B1 := Lib.hid (below_on B0.out hb')
  have O0_ := Lib.hid (O0.out.below hb' (Nat.le_refl _))
  have O1 := Lib.hid own1
  clear hb' own1 O0
  go_wp2
  refine hR _ _ (fun _ => In.mk (HSI.out u1 B1.out)) ?_
  refine seqM_step (by rfl) ?_
  intro R hR
  go_wp2_with fail
  refine (viewlists_any h s 0 L.length u1 B (R0.out.below B1.out (by omega)) (by omega) Hok.out (by omega)).mono ?_
  rintro e u2 ⟨hv, rfl, hb', hl2, own2⟩
  have B2 := Lib.hid (below_on B1.out hb')
  have O0 := Lib.hid (O0_.out.below hb' (by omega))
  have O1_ := Lib.hid (O1.out.below hb' (Nat.le_refl _))
  have O2 := Lib.hid own2
  clear hb' own2 O0_ O1
  go_wp2
  refine hR _ _ (fun _ => In.mk (HSI.out u2 B2.out)) ?_
  refine seqM_step (by rfl) ?_
  intro R hR
  go_wp2_with fail
  refine (viewlists_any h s 3 2 u2 B (R0.out.below B2.out (by omega)) (by omega) Hok.out (by omega)).mono ?_
  rintro e u3 ⟨hl, rfl, hb', hl3, own3⟩
  have B3 := Lib.hid (below_on B2.out hb')
  have O0_ := Lib.hid (O0.out.below hb' (by omega))
  have O1 := Lib.hid (O1_.out.below hb' (by omega))
  have O2_ := Lib.hid (O2.out.below hb' (Nat.le_refl _))
  have O3 := Lib.hid own3
  clear hb' own3 O0 O1_ O2
  go_wp2
  refine hR _ _ (fun _ => In.mk (HSI.out u3 B3.out)) ?_
  refine seqM_step (by rfl) ?_
  intro R hR
  go_wp2_with fail
  refine (viewlists_any h s 5 2 u3 B (R0.out.below B3.out (by omega)) (by omega) Hok.out (by omega)).mono ?_
  rintro e u4 ⟨hk, rfl, hb', hl4, own4⟩
  have B4 := Lib.hid (below_on B3.out hb')
  have O0 := Lib.hid (O0_.out.below hb' (by omega))
  have O1_ := Lib.hid (O1.out.below hb' (by omega))
  have O2 := Lib.hid (O2_.out.below hb' (by omega))
  have O3_ := Lib.hid (O3.out.below hb' (Nat.le_refl _))
  have O4 := Lib.hid own4
  clear hb' own4 O0_ O1 O2_ O3
  go_wp2
  refine hR _ _ (fun _ => In.mk (HSI.out u4 B4.out)) ?_
  refine seqM_step (by rfl) ?_
  intro R hR
  go_wp2_with fail
  refine (C5.out u4 (R0.out.below B4.out (by omega)) (by omega)).mono ?_
  rintro e u5 ⟨Af, rfl, hb', own5⟩
  have B5 := Lib.hid (below_on B4.out hb')
  have z5 := hb'.size
  have O0_ := Lib.hid (O0.out.below hb' (by omega))
  have O1 := Lib.hid (O1_.out.below hb' (by omega))
  have O2_ := Lib.hid (O2.out.below hb' (by omega))
  have O3 := Lib.hid (O3_.out.below hb' (by omega))
  have O4_ := Lib.hid (O4.out.below hb' (Nat.le_refl _))
  have O5 := Lib.hid own5
  clear hb' own5 O0 O1_ O2 O3_ O4
  go_wp2
  refine hR _ _ (fun _ => In.mk (HSI.out u5 B5.out)) ?_
  refine seqM_step (by rfl) ?_
  intro R hR
  go_wp2
  refine hR _ _ (fun h => absurd h (by omega)) ?_
  refine seqM_step (by rfl) ?_
  intro R hR
  have K25 := Lib.hid (K2.out.below B5.out l2)
  refine st_r vw_row rfl _ _ rfl (w.heap.size + 1 + 1) rfl 45 _ (vwdC ⟨hs, hn, hv, hl, hk, ⟨Af, (idxL s (s.V 7)).length⟩⟩ (vwdOf L s)) ?_ K25.out rfl rfl (vwdC_one _ _) ?_
  · simp [vwdC, vwdOf, Act.eval]
  intro u6 s6
  go_wp2
  refine hR _ _ (fun h => absurd h (by omega)) ?_
  refine seqM_nil ?_
  go_wp2
  have z6 := s6.size
  refine bodyPost_ret (v := .agg (vwdC ⟨hs, hn, hv, hl, hk, ⟨Af, (idxL s (s.V 7)).length⟩⟩ (vwdOf L s))) (res_r vw_row rfl rfl s6.bk rfl) rfl ?_
  refine ⟨⟨hs, hn, hv, hl, hk, ⟨Af, (idxL s (s.V 7)).length⟩⟩, rfl, BW.out.trans ((B5.out.mono (by omega)).trans (s6.bel _ (by omega))), by omega, W.heap.size, u0.heap.size, u1.heap.size, u2.heap.size, u3.heap.size, u4.heap.size, u5.heap.size, by omega, by omega, by omega, by omega, by omega, by omega, by omega, by omega, ?_, ?_, ?_, ?_, ?_, ?_⟩
  · exact O0_.out.keep (Nat.le_refl _) (Nat.le_refl _) fun q h1 h2 => s6.far q (by omega)
  · exact O1.out.keep (Nat.le_refl _) (Nat.le_refl _) fun q h1 h2 => s6.far q (by omega)
  · exact O2_.out.keep (Nat.le_refl _) (Nat.le_refl _) fun q h1 h2 => s6.far q (by omega)
  · exact O3.out.keep (Nat.le_refl _) (Nat.le_refl _) fun q h1 h2 => s6.far q (by omega)
  · exact O4_.out.keep (Nat.le_refl _) (Nat.le_refl _) fun q h1 h2 => s6.far q (by omega)
  · exact O5.out.keep (Nat.le_refl _) (Nat.le_refl _) fun q h1 h2 => s6.far q (by omega)
end Go.Proofs.Ytiljakbjbiinkaa
