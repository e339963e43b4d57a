/-
  What the program's ViewBegin comes to.
-/
import Derived.Test.YtiljakbjbiinkaaNUn
import Derived.Test.YtiljakbjbiinkaaBegin
import Derived.Test.YtiljakbjbiinkaaSNZ
namespace Go.Proofs.Ytiljakbjbiinkaa
open Go.RowKit Pl Go.BigFrame
set_option maxHeartbeats 4000000
set_option maxRecDepth 100000
set_option linter.unusedVariables false

def sgBeg (L : Pg) : Sg := ⟨keptF L zeroF L.length, fun _ => [fun _ => 0], fun _ _ => 0⟩
theorem okV_zero : okF WV fun _ => 0 := okF_of fun p hp => Nat.two_pow_pos _
theorem encV_zero : enc WV (fun _ => 0) = 0 := by decide
theorem sgBeg_ok {L : Pg} (h : L.length ≤ 3) : SgOk (sgBeg L) := ⟨keptF_ok zeroF_ok h, fun p _ g hg => by simp [sgBeg] at hg; subst hg; exact okV_zero, fun p _ => by simp [sgBeg], fun i _ => okV_zero⟩
def AnsG (w : World) (s : Sg) (e : Ending) (w' : World) : Prop := ∃ h, e = .returned (SgV h s) ∧ Below w.heap.size w w' ∧ SgR w' w'.heap.size h s
/-- The cells while places get their first stores. -/
def bgC (E : Nat) (F : Nat → Value) : Array Value := #[.int .u64 E, F 0, F 1, F 2, .int .u64 0, .int .u64 0, .int .u64 0, .int .u64 0, .int .u64 0, .int .u64 0, .int .u64 0, .int .u64 0]
def bgF (D : Nat → Nat) (k p : Nat) : Value := if p < k then .slice (some ⟨D p, 0, none⟩) 1 1 else .slice none 0 0
theorem bgC_set (E : Nat) (D : Nat → Nat) (d : Nat) {k : Nat} (h : k < 3) : (bgC E (bgF D k)).setIfInBounds (1 + k) (.slice (some ⟨d, 0, none⟩) 1 1) = bgC E (bgF (fun p => if p = k then d else D p) (k + 1)) := by
  rcases (show k = 0 ∨ k = 1 ∨ k = 2 by omega) with rfl | rfl | rfl <;> rfl
theorem bgC_beg (L : Pg) (D : Nat → Nat) : mkG ⟨fun p => some ⟨D p, 0, none⟩, fun _ => 1⟩ (sgBeg L) = bgC (enc WS (keptF L zeroF L.length)) (bgF D 3) := by
  have e : ∀ i, enc WV ((sgBeg L).V i) = 0 := fun i => encV_zero
  unfold mkG bgC bgF
  simp only [e]
  rfl
structure BegG (w wr : World) (E k : Nat) (D : Nat → Nat) : Prop where
  bel : Below w.heap.size w wr
  box : Bk wr w.heap.size TG (bgC E (bgF D k))
  row : ∀ p, p < k → w.heap.size < D p ∧ D p < wr.heap.size ∧ wr.cell? ⟨D p, 0, none⟩ = some (.int .u64 0)
theorem BegG.next {w wr : World} {E k : Nat} {D : Nat → Nat} (h : BegG w wr E k D) (hk : k < 3) (t : TypeId) :
    BegG w ((wr.setCell ⟨w.heap.size, 1 + k, none⟩ (.slice (some ⟨wr.heap.size, 0, none⟩) 1 1)).alloc (.cells #[.int .u64 0] t)) E (k + 1) (fun p => if p = k then wr.heap.size else D p) := by
  have hl := h.box.lt
  refine ⟨(h.bel.setCell (p := ⟨w.heap.size, 1 + k, none⟩) (Nat.le_refl _) _).alloc (by simp; omega) _, ?_, fun p hp => ?_⟩
  · have := (h.box.set (1 + k) (.slice (some ⟨wr.heap.size, 0, none⟩) 1 1)).alloc (.cells #[.int .u64 0] t)
    rw [bgC_set E D _ hk] at this
    exact this
  · by_cases e : p = k
    · subst e
      simp only [if_true]
      refine ⟨hl, by simp, ?_⟩
      have := (Bk.new (wr.setCell ⟨w.heap.size, 1 + p, none⟩ (.slice (some ⟨wr.heap.size, 0, none⟩) 1 1)) #[.int .u64 0] t).cell 0
      rw [World.size_setCell] at this
      exact this
    · simp only [if_neg e]
      obtain ⟨a, b, c⟩ := h.row p (by omega)
      refine ⟨a, by simp; omega, ?_⟩
      rw [← c]
      refine World.cell?_of_block (a := ⟨D p, 0, none⟩) ?_
      have b1 : Below (wr.setCell ⟨w.heap.size, 1 + k, none⟩ (.slice (some ⟨wr.heap.size, 0, none⟩) 1 1)).heap.size (wr.setCell ⟨w.heap.size, 1 + k, none⟩ (.slice (some ⟨wr.heap.size, 0, none⟩) 1 1)) ((wr.setCell ⟨w.heap.size, 1 + k, none⟩ (.slice (some ⟨wr.heap.size, 0, none⟩) 1 1)).alloc (.cells #[.int .u64 0] t)) := (Below.refl _ _).alloc (Nat.le_refl _) _
      exact (b1.block _ (by simpa using b)).trans (Below.heap_setCell _ _ _ _ (by show D p ≠ w.heap.size; omega))
theorem sgBeg_at (L : Pg) (p j : Nat) (v : Value) (h : (vsW ((sgBeg L).S p))[j]? = some v) : j = 0 ∧ v = .int .u64 0 := by
  have e : vsW ((sgBeg L).S p) = [.int .u64 (enc WV (fun _ => 0) : Nat)] := rfl
  rw [e, encV_zero] at h
  cases j with
  | zero => simp at h; exact ⟨rfl, h.symm⟩
  | succ j => simp at h
theorem begG_rd {w wr V5 : World} {E : Nat} {D : Nat → Nat} {L : Pg} (h : BegG w wr E 3 D) (hfar : ∀ q, w.heap.size < q → V5.heap[q]? = wr.heap[q]?) (hs : wr.heap.size ≤ V5.heap.size) : SgR V5 V5.heap.size ⟨fun p => some ⟨D p, 0, none⟩, fun _ => 1⟩ (sgBeg L) := by
  intro p hp
  obtain ⟨a, b, c⟩ := h.row p hp
  intro _
  have b' : D p < V5.heap.size := Nat.lt_of_lt_of_le b hs
  refine ⟨D p, 0, rfl, b', fun j v hj => ?_⟩
  obtain ⟨rfl, rfl⟩ := sgBeg_at L p j v hj
  rw [← c]
  exact World.cell?_of_block (a := ⟨D p, 0, none⟩) (hfar (D p) a)
theorem begsg_any (h : PgH) (L : Pg) (w : World) (B : Nat) (hR : PgR w B h L) (hB : B ≤ w.heap.size) (hL : progB L = true) :
    Calls Try.prog 63 #[PgV h L] w (AnsG w (sgBeg L)) := by
  obtain ⟨h31, h32⟩ := prog_len hL
  obtain ⟨Z, hZ⟩ : ∃ Z : Array Value, Z = #[.int .u64 0, .slice none 0 0, .slice none 0 0, .slice none 0 0, .int .u64 0, .int .u64 0, .int .u64 0, .int .u64 0, .int .u64 0, .int .u64 0, .int .u64 0, .int .u64 0] := ⟨_, rfl⟩
  obtain ⟨W, hW⟩ : ∃ W, W = (w.alloc (.cells #[.slice h.A L.length h.c] 30)).alloc (.cells #[.int .u64 0, .slice none 0 0, .slice none 0 0, .slice none 0 0, .int .u64 0, .int .u64 0, .int .u64 0, .int .u64 0, .int .u64 0, .int .u64 0, .int .u64 0, .int .u64 0] TG) := ⟨_, rfl⟩
  have bW : Below w.heap.size w W := by rw [hW]; go_grown
  have sW : W.heap.size = w.heap.size + 1 + 1 := by rw [hW]; simp
  have k0 : Bk W w.heap.size 30 #[.slice h.A L.length h.c] := by rw [hW]; exact (Bk.new w _ _).alloc _
  have k1 : Bk W (w.heap.size + 1) TG Z := by
    rw [hW, hZ]; have := Bk.new (w.alloc (.cells #[.slice h.A L.length h.c] 30)) #[.int .u64 0, .slice none 0 0, .slice none 0 0, .slice none 0 0, .int .u64 0, .int .u64 0, .int .u64 0, .int .u64 0, .int .u64 0, .int .u64 0, .int .u64 0, .int .u64 0] TG
    rwa [World.size_alloc] at this
  have sZ : Z.size = 12 := by rw [hZ]; rfl
  have P0 := Lib.hid (hR.below bW hB)
  have K0 := Lib.hid k0
  have K1 := Lib.hid k1
  have BW := Lib.hid bW
  have sWa := Nat.le_of_eq sW
  have sWb := Nat.le_of_eq sW.symm
  have HW := Lib.hid hW
  have c0 : W.cell? ⟨w.heap.size, 0, none⟩ = some (.slice h.A L.length h.c) := k0.cell 0
  have l0 := k0.lt
  clear hW bW sW k0 k1 hR hZ
  go_enter Try.func63, Try.ntmps63
  go_wp2_with (rw [← HW.out])
  refine (begword_any h L W B P0.out (by omega) hL).mono ?_
  rintro e w1 ⟨rfl, hb1⟩
  obtain ⟨E, hE⟩ : ∃ E, enc WS (keptF L zeroF L.length) = E := ⟨_, rfl⟩
  rw [hE]
  have HE := Lib.hid hE
  have B1 := Lib.hid (below_on BW.out hb1)
  have z1 := hb1.size
  have K11 := Lib.hid (K1.out.below hb1 K1.out.lt)
  clear hb1 hE c0 l0
  have start := Lib.hid (show BegG w1 (w1.alloc (.cells #[.int .u64 E, .slice none 0 0, .slice none 0 0, .slice none 0 0, .int .u64 0, .int .u64 0, .int .u64 0, .int .u64 0, .int .u64 0, .int .u64 0, .int .u64 0, .int .u64 0] TG)) E 0 (fun _ => 0) from
    ⟨(Below.refl _ _).alloc (Nat.le_refl _) _, Bk.new _ _ _, fun p hp => absurd hp (by omega)⟩)
  go_wp2_with fail
  go_loopw [8] (fun i wr => ∃ (k : Nat) (D : Nat → Nat), k ≤ 3 ∧ i = .int .i64 k ∧ BegG w1 wr E k D) (fun i _ => 3 - (intOf i).toNat)
  case atStart => exact ⟨0, _, Nat.zero_le _, rfl, start.out⟩
  case round =>
    obtain ⟨k, D, hk, rfl, hg⟩ := hrel
    clear start
    have hz := hg.bel.size
    have lb := hg.box.lt
    by_cases hlt : k < 3
    · obtain ⟨v0, e0⟩ := hg.box.some_ (i := 1 + k) (by show 1 + k < 12; omega)
      have f0 := hg.box.free (1 + k)
      have Next := Lib.hid (fun t => hg.next hlt t)
      have hki : (k : Int) < 3 := by omega
      clear hg
      go_wp2
      go_roundw
      case rel => exact ⟨k + 1, _, by omega, by go_num, Next.out _⟩
      case measure => simp [intOf]; omega
    · have hk3 : k = 3 := by omega
      subst hk3
      have Hg := Lib.hid hg
      have K12 := Lib.hid (K11.out.below hg.bel K11.out.lt)
      have rg := Lib.hid hg.box.range
      clear hg
      go_wp2_with (first | (refine ld_r sg_row rfl _ rfl w1.heap.size 0 rfl (bgC E (bgF D 3)) rg.out rfl ?_) | (refine st_r sg_row rfl _ _ rfl (w.heap.size + 1) rfl TG _ (bgC E (bgF D 3)) rfl K12.out sZ rfl (by simp [bgC, bgF, Value.oneCell']) ?_; intro V5 s5))
      refine bodyPost_ret (v := .agg (bgC E (bgF D 3))) (res_r sg_row rfl rfl s5.bk rfl) rfl ?_
      have z5 := s5.size
      have hval : (.returned (.agg (bgC E (bgF D 3))) : Ending) = .returned (SgV ⟨fun p => some ⟨D p, 0, none⟩, fun _ => 1⟩ (sgBeg L)) := by rw [← HE.out, ← bgC_beg]
      have hbl : Below w.heap.size w V5 := (B1.out.trans (Hg.out.bel.mono (by omega))).trans (s5.bel _ (by omega))
      have hrd : SgR V5 V5.heap.size ⟨fun p => some ⟨D p, 0, none⟩, fun _ => 1⟩ (sgBeg L) := by
        exact begG_rd Hg.out (fun q hq => s5.far q (by omega)) (by omega)
      exact ⟨_, hval, hbl, hrd⟩
end Go.Proofs.Ytiljakbjbiinkaa
namespace Go.Proofs.Ytiljakbjbiinkaa
open Go.RowKit Pl Go.BigFrame
set_option maxHeartbeats 4000000
set_option maxRecDepth 100000
set_option linter.unusedVariables false

theorem idxL_beg (L : Pg) : idxL (sgBeg L) (fun _ => 0) = [0, 0, 0] := rfl
theorem vwdOf_beg (L : Pg) (h : L.length ≤ 3) : vwdOf L (sgBeg L) = viewBegS L := by
  have e1 : ∀ (n k : Nat), ((List.range n).map fun i => idxL (sgBeg L) ((sgBeg L).V (k + i))) = List.replicate n [0, 0, 0] := fun n k => by
    have : (fun i : Nat => idxL (sgBeg L) ((sgBeg L).V (k + i))) = fun _ => [0, 0, 0] := funext fun i => idxL_beg L
    rw [this, List.map_const', List.length_range]
  have e2 : nssOf (sgBeg L) = List.replicate 3 [⟨0, [0, 0, 0], false⟩] := rfl
  unfold vwdOf viewBegS
  rw [e1, e1, e1, e2, show staF L (sgBeg L).f = begS L from staF_beg L h]
  rfl
theorem ivbeg_any (h : PgH) (L : Pg) (w : World) (B : Nat) (hR : PgR w B h L) (hB : B ≤ w.heap.size) (SP : PgS L) :
    Calls Try.prog 24 #[PgV h L] w (AnsVwd w (viewBegE L) (progB L)) := by
  have LP := PgS_L SP
  have hl := LP.l
  obtain ⟨Z, hZ⟩ : ∃ Z : Array Value, Z = #[.slice none 0 0, .slice none 0 0, .slice none 0 0, .slice none 0 0, .slice none 0 0, .slice none 0 0, .slice none 0 0, .slice none 0 0, .slice none 0 0, .slice none 0 0] := ⟨_, rfl⟩
  obtain ⟨W, hW⟩ : ∃ W, W = (w.alloc (.cells #[.slice h.A L.length h.c] 30)).alloc (.cells #[.slice none 0 0, .slice none 0 0, .slice none 0 0, .slice none 0 0, .slice none 0 0, .slice none 0 0, .slice none 0 0, .slice none 0 0, .slice none 0 0, .slice none 0 0] 45) := ⟨_, rfl⟩
  have bW : Below w.heap.size w W := by rw [hW]; go_grown
  have sW : W.heap.size = w.heap.size + 1 + 1 := by rw [hW]; simp
  have k0 : Bk W w.heap.size 30 #[.slice h.A L.length h.c] := by rw [hW]; exact (Bk.new w _ _).alloc _
  have k1 : Bk W (w.heap.size + 1) 45 Z := by
    rw [hW, hZ]; have := Bk.new (w.alloc (.cells #[.slice h.A L.length h.c] 30)) #[.slice none 0 0, .slice none 0 0, .slice none 0 0, .slice none 0 0, .slice none 0 0, .slice none 0 0, .slice none 0 0, .slice none 0 0, .slice none 0 0, .slice none 0 0] 45
    rwa [World.size_alloc] at this
  have sZ : Z.size = 10 := by rw [hZ]; rfl
  have oZ : Z.all (·.oneCell') = true := by rw [hZ]; simp [Value.oneCell']
  have eZ : (.agg Z : Value) = VwdV VwdN VwdE := by rw [hZ]; rfl
  have P0 := Lib.hid (hR.below bW hB)
  have K0 := Lib.hid k0
  have K1 := Lib.hid k1
  have BW := Lib.hid bW
  have sWa := Nat.le_of_eq sW
  have sWb := Nat.le_of_eq sW.symm
  have HW := Lib.hid hW
  have HZ := Lib.hid hZ
  have EZ := Lib.hid eZ
  clear k0 k1 bW sW hW hR hZ eZ
  rcases Bool.eq_false_or_eq_true (progB L) with hp | hp
  rotate_left
  · have hE : viewBegE L = VwdE := by unfold viewBegE; rw [hp]; rfl
    rw [hE, hp]
    have HP := Lib.hid hp
    clear hE hp
    go_enter Try.func24, Try.ntmps24
    go_wp2_with fail
    rw [← HW.out]
    refine (iprog_any h.A L h.c W B P0.out (by omega) hl false HP).mono ?_
    rintro e w1 ⟨rfl, hb1⟩
    have B1 := Lib.hid (below_on BW.out hb1)
    have z1 := hb1.size
    have K11 := Lib.hid (K1.out.below hb1 K1.out.lt)
    clear hb1
    go_wp2_with (refine st_r vw_row rfl _ _ rfl (w.heap.size + 1) rfl 45 _ Z (by rw [HZ.out]; rfl) K11.out sZ sZ oZ ?_; intro V5 s5)
    refine bodyPost_ret (v := .tuple #[.agg Z, .bool false]) (res_r2 vw_row rfl rfl rfl s5.bk sZ) rfl ?_
    have z5 := s5.size
    exact ⟨VwdN, by rw [EZ.out], B1.out.trans (s5.bel _ (by omega)), by omega, VwdO.none_ _ _ _ _ (by omega)⟩
  have hE : viewBegE L = vwdOf L (sgBeg L) := by rw [vwdOf_beg L (prog_len hp).2]; unfold viewBegE; rw [hp]; rfl
  rw [hE, hp]
  obtain ⟨h31, h32⟩ := prog_len hp
  have HP := Lib.hid hp
  have HL := Lib.hid hp
  clear hE hp
  go_enter Try.func24, Try.ntmps24
  go_wp2_with fail
  rw [← HW.out]
  refine (iprog_any h.A L h.c W B P0.out (by omega) hl true HP).mono ?_
  rintro e w1 ⟨rfl, hb1⟩
  have B1 := Lib.hid (below_on BW.out hb1)
  have z1 := hb1.size
  have K01 := Lib.hid (K0.out.below hb1 K0.out.lt)
  have K11 := Lib.hid (K1.out.below hb1 K1.out.lt)
  have P1 := Lib.hid (P0.out.below hb1 (by omega))
  clear hb1
  have l1 := K11.out.lt
  have l0 := K01.out.lt
  have S0 : ∀ y : Ws (Fr w1 []), y.val.cell? ⟨w.heap.size, 0, none⟩ = some (.slice h.A L.length h.c) := Ws.same (bs := []) (by omega) (K01.out.cell 0)
  haveI hne := Nonempty.intro (Ws.mk w1.drew ((fr_none w1).drew))
  go_wp2_with fail
  refine region_sel (C := In (Fr w1 [])) 4 [true, true, false, false, false, false] (by kernel_rfl) (In.mk (fr_none w1).drew) ?_
  simp only [selR, selI]
  repeat (go_big_quiet_step (fail))
  refine wpQuiet_nil ?_
  refine seqM_step (by rfl) ?_
  intro R hR
  go_wp2_with fail
  refine (begsg_any h L w1.drew B (P1.out.below ((Below.refl w1.heap.size w1).drew) (by omega)) (by show B ≤ w1.heap.size; omega) HL.out).mono ?_
  rintro e w2 ⟨hg, rfl, hb', hr⟩
  have hb2 : Below w1.heap.size w1 w2 := below_on ((Below.refl w1.heap.size w1).drew) hb'
  have B2 := Lib.hid hb2
  have Rg := Lib.hid hr
  have z2 := hb2.size
  clear hb' hb2 hr
  go_wp2
  refine hR _ _ (fun _ => In.mk ⟨B2.out, fun b cs hm => absurd hm (by simp)⟩) ?_
  refine seqM_step (by rfl) ?_
  intro R hR
  go_wp2_with fail
  refine (unpv_any h L hg (sgBeg L) w2 w2.heap.size Rg.out (Nat.le_refl _) (sgBeg_ok h32) HL.out).mono ?_
  rintro e w3 ⟨hv, rfl, hb3, hl3, own⟩
  have B3 := Lib.hid (below_on B2.out hb3)
  have Own := Lib.hid own
  clear hb3 own
  go_wp2
  refine hR _ _ (fun _ => In.mk ⟨B3.out, fun b cs hm => absurd hm (by simp)⟩) ?_
  refine seqM_step (by rfl) ?_
  intro R hR
  have K13 := Lib.hid (K11.out.below B3.out l1)
  refine st_r vw_row rfl _ _ rfl (w.heap.size + 1) rfl 45 _ (vwdC hv (vwdOf L (sgBeg L))) rfl K13.out sZ rfl (vwdC_one _ _) ?_
  intro V5 s5
  go_wp2
  refine hR _ _ (fun h => absurd h (by omega)) ?_
  refine seqM_step (by rfl) ?_
  intro R hR
  go_wp2
  refine hR _ _ (fun h => absurd h (by omega)) ?_
  refine seqM_nil ?_
  go_wp2
  refine bodyPost_ret (v := .tuple #[.agg (vwdC hv (vwdOf L (sgBeg L))), .bool true]) (res_r2 vw_row rfl rfl rfl s5.bk rfl) rfl ?_
  have z5 := s5.size
  exact ⟨hv, rfl, (B1.out.trans (B3.out.mono (by omega))).trans (s5.bel _ (by omega)), by omega, Own.out.keep (by omega) (by omega) fun q h1 h2 => s5.far q (by omega)⟩
end Go.Proofs.Ytiljakbjbiinkaa
