/-
  What the reference model's l4Before and Before come to.
-/
import Derived.Test.YtidibnmlceccnaaIBef
import Derived.Test.YtidibnmlceccnaaDep
import Derived.Deep.RegionHeld3
import Derived.Deep.AppendLies
namespace Go.Proofs.Ytidibnmlceccnaa
open Go.RowKit Pl Go.BigFrame
set_option maxHeartbeats 4000000
set_option maxRecDepth 100000
set_option linter.unusedVariables false

theorem ssync_any (t i k a b c : Int) (s : Bool) (t' i' k' a' b' c' : Int) (s' : Bool) (w : World) : Calls Try.prog 140 #[Ev t i k a b c s, Ev t' i' k' a' b' c' s'] w fun e w' => e = .returned (.bool (syB ⟨k, a, b, c, s⟩ ⟨k', a', b', c', s'⟩)) ∧ Below w.heap.size w w' := by
  unfold syB
  simp only
  by_cases h : k = 7 ∧ k' = 6
  · obtain ⟨rfl, rfl⟩ := h
    rw [if_pos ⟨rfl, rfl⟩]
    go_enter Try.func140, Try.ntmps140
    go_wp2
    go_ret
    exact ⟨rfl, by go_grown⟩
  · rw [if_neg h]
    have h7 : (k == 7 && k' == 6) = false := by simpa using h
    rcases Bool.eq_false_or_eq_true (k == 7) with k7 | k7
    all_goals
     rw [k7] at h7
     (try rw [Bool.true_and] at h7)
     rcases Bool.eq_false_or_eq_true (decide (0 ≤ chanZ k a b c s)) with c0 | c0 <;> rcases Bool.eq_false_or_eq_true (chanZ k a b c s == chanZ k' a' b' c' s') with c1 | c1
    all_goals
     rw [c0, c1]
     have hS := fr_two w #[.int .i64 t, .int .i64 i, .int .i64 k, .int .i64 a, .int .i64 b, .int .i64 c, .bool s] #[.int .i64 t', .int .i64 i', .int .i64 k', .int .i64 a', .int .i64 b', .int .i64 c', .bool s'] 81 81
     have hc1 := @Ws.cells w [(w.heap.size, #[.int .i64 t, .int .i64 i, .int .i64 k, .int .i64 a, .int .i64 b, .int .i64 c, .bool s]), (w.heap.size + 1, #[.int .i64 t', .int .i64 i', .int .i64 k', .int .i64 a', .int .i64 b', .int .i64 c', .bool s'])] w.heap.size _ (List.mem_cons_self ..)
     have hc2 := @Ws.cells w [(w.heap.size, #[.int .i64 t, .int .i64 i, .int .i64 k, .int .i64 a, .int .i64 b, .int .i64 c, .bool s]), (w.heap.size + 1, #[.int .i64 t', .int .i64 i', .int .i64 k', .int .i64 a', .int .i64 b', .int .i64 c', .bool s'])] (w.heap.size + 1) _ (List.mem_cons_of_mem _ (List.mem_cons_self ..))
     haveI hne := Nonempty.intro (Ws.mk _ hS)
     have HS := Lib.hid hS
     clear hS h
     go_enter Try.func140, Try.ntmps140
     go_wp2_with fail
     refine region_in (by kernel_rfl) HS.out.drew ?_
     repeat (go_big_quiet_step ((go_at_call 143; exact call_in (schan_any _ _ _ _ _ _))))
     refine wpQuiet_nil ?_
     rintro _ ⟨⟨w3, hw3⟩, rfl⟩
     have bw3 := hw3.below
     go_wp2
     go_ret
     exact ⟨by simp, bw3⟩
end Go.Proofs.Ytidibnmlceccnaa
namespace Go.Proofs.Ytidibnmlceccnaa
open Go.RowKit Pl Go.BigFrame
set_option maxHeartbeats 4000000
set_option maxRecDepth 100000
set_option linter.unusedVariables false

theorem RowB.drew {wo wr : World} {n q : Nat} {f : Nat → Bool} (h : RowB wo wr n q f) : RowB wo wr.drew n q f := by
  obtain ⟨h0, cs, hbk, h1, h2⟩ := h
  exact ⟨h0.trans ⟨rfl, rfl, rfl, Nat.le_refl _, fun _ _ => rfl⟩, cs, hbk, h1, h2⟩
theorem Vs.ev2 {w : World} {B : Nat} {A : Option Addr} {l : Evts} (h : Vs w B A (evs l)) {i q : Nat} (hi : i < l.length) (hq : q < l.length) :
    ∃ b off, A = some ⟨b, off, none⟩ ∧ b < B ∧ EvAt w b (off + i * 7) (gE l i) ∧ EvAt w b (off + q * 7) (gE l q) := by
  obtain ⟨b, off, hA, hb, hx⟩ := h (by rw [evs_length]; omega)
  have key : ∀ k, k < l.length → EvAt w b (off + k * 7) (gE l k) := fun k hk => by
    have h1 : l[k]? = some (gE l k) := by simp [gE, List.getD, hk]
    have q := fun i v hv => hx (k * 7 + i) v (evs_at h1 i v hv)
    exact ⟨q 0 _ rfl, q 1 _ rfl, q 2 _ rfl, q 3 _ rfl, q 4 _ rfl, q 5 _ rfl, q 6 _ rfl⟩
  exact ⟨b, off, hA, hb, key i hi, key q hq⟩
/-- A table of the call's own. -/
def AnsT (w : World) (o : List (List Bool)) (e : Ending) (w' : World) : Prop :=
  ∃ k : BssH, e = .returned (BssV k o) ∧ Below w.heap.size w w' ∧ w.heap.size ≤ w'.heap.size ∧ BssO w' w.heap.size w'.heap.size k o
/-- What the first loop has come to. -/
def P1 (w wr : World) (l : Evts) (v : Value) (k : Nat) : Prop :=
  ∃ g cap D, v = .slice (some ⟨g, 0, none⟩) k cap ∧ w.heap.size ≤ g ∧ wr.ownsRow w.heap.size 92 1 (.slice (some ⟨g, 0, none⟩) k cap) k (heads l.length k D) ∧ Tab wr w.heap.size wr.heap.size l.length k D (dU l) ∧ Below w.heap.size w wr
theorem cell_one (w : World) (v : Value) (t : TypeId) : ∀ j u, [v][j]? = some u → (w.alloc (.cells #[v] t)).cell? ((⟨w.heap.size, 0, none⟩ : Addr).add j) = some u := cell1_new w v t
theorem p1_next {w wo wr w4 : World} {l : Evts} {k g cap : Nat} {D : Nat → Nat} {hs : List Value} {o : Obj} (hbel : Below w.heap.size w wo) (htab : Tab wo w.heap.size wo.heap.size l.length k D (dU l)) (hrow : RowB wo wr l.length l.length (dU l k))
    (own : wo.ownsRow w.heap.size 92 1 (.slice (some ⟨g, 0, none⟩) k cap) k hs) (grow4 : (wr.alloc o).grownBy w4 (Value.slice (some ⟨g, 0, none⟩) k cap).ownBlock) :
    Tab w4 w.heap.size w4.heap.size l.length (k + 1) (fun i => if i = k then wo.heap.size else D i) (dU l) ∧ Below w.heap.size w w4 := by
  obtain ⟨hr0, cs, hbk, hsz, hc⟩ := hrow
  obtain ⟨g0, g1, cu, hcu⟩ := owns_block own (q := g) rfl
  have hz1 := hbel.size
  have hz2 := hr0.size
  have hz4 : wr.heap.size + 1 ≤ w4.heap.size := by have := grow4.size; simpa using this
  have hlt := hbk.lt
  have h4 : ∀ z, z < wr.heap.size → z ≠ g → w4.heap[z]? = wr.heap[z]? := fun z hz hne => (grow4.block z (by simp; omega) (fun e => hne (by injection e))).trans (Below.heap_alloc wr o z hz)
  have hB : Below w.heap.size w w4 := ((below_on hbel hr0).alloc (by omega) o).grown grow4 (by simp; omega) (fun q hq => by cases hq; omega)
  refine ⟨(htab.keep (Nat.le_refl _) (Nat.le_refl _) fun z cz a b hz => ?_).snoc (Nat.le_refl _) hz1 (by omega) ((h4 wo.heap.size hlt (by omega)).trans hbk) hsz fun j hj => ?_, hB⟩
  · refine (h4 z (by omega) fun e => ?_).trans (hr0.block z b)
    subst e
    unfold Bk at hz hcu
    rw [hcu] at hz
    injection hz with hz
    injection hz with _ hz
    cases hz
  · rw [hc j hj, decide_eq_true hj, Bool.true_and]
theorem sbef_any (k0 : EvsH) (l : Evts) (w : World) (B : Nat) (hR : EvsR w B k0 l) (hB : B ≤ w.heap.size) (hok : okE l) (hm : l.length ≤ 1048576) :
    Calls Try.prog 94 #[EvsV k0 l] w (AnsT w (mat l.length (cB l))) := by
  obtain ⟨A, c⟩ := k0
  obtain ⟨h⟩ := hR
  have h : Vs w B A (evs l) := h
  show Calls Try.prog 94 #[.slice A l.length c] w _
  obtain ⟨i0, hi, hz0, hz1, hz2⟩ := info_parts Try.info4
  have hmk := make_any Try.underlying92 hi hz0 l.length (by rw [hz2]; omega) (by omega)
  rw [hz1, Nat.mul_one] at hmk
  obtain ⟨i1, hi1, jz0, jz1, jz2⟩ := info_parts Try.info92
  have start : Hid (P1 w (w.alloc (.cells #[] 92)) l (.slice (some ⟨w.heap.size, 0, none⟩) 0 0) 0) := Lib.hid
    ⟨w.heap.size, 0, fun _ => 0, rfl, Nat.le_refl _, by rw [show heads l.length 0 (fun _ => 0) = [] from rfl]; exact World.ownsRow_made w #[] 0 (Nat.le_refl _) (by decide) (by simp), Tab.nil _ _ _ _ _ _, (Below.refl _ _).alloc (Nat.le_refl _) _⟩
  clear hz0 hz1 hz2 hi
  go_enter Try.func94, Try.ntmps94
  go_wp2
  go_loopw [3, 4] (fun o i wr => ∃ k : Nat, k ≤ l.length ∧ i = .int .i64 k ∧ P1 w wr l o k) (fun _ i _ => l.length - (intOf i).toNat)
  case atStart => exact ⟨0, Nat.zero_le _, rfl, start.out⟩
  case round =>
    obtain ⟨k, hk, rfl, g, cap, D, rfl, hg, hown, htab, hbel⟩ := hrel
    clear start
    have hz := hbel.size
    have HO := Lib.hid hown
    have HT := Lib.hid htab
    have HB := Lib.hid hbel
    clear hown htab hbel
    by_cases hlt : k < l.length
    · have hi1' : (k : Int) < (l.length : Int) := by omega
      obtain ⟨wo, rfl⟩ : ∃ wo : World, wo = wr := ⟨_, rfl⟩
      have start2 := Lib.hid (RowB.start (wo := wo) (n := l.length) (q := k + 1) (f := dU l k) fun j hj => by unfold dU; rw [decide_eq_false (by omega)]; rfl)
      go_wp2_with fail
      go_loopw [6] (fun j w2 => ∃ q : Nat, k < q ∧ q ≤ l.length ∧ j = .int .i64 q ∧ RowB wo w2 l.length q (dU l k)) (fun j _ => l.length - (intOf j).toNat)
      case atStart => exact ⟨k + 1, by omega, by omega, by go_num, start2.out⟩
      case round =>
        obtain ⟨q, hkq, hq, rfl, hrow⟩ := hrel
        clear start2
        have hzr := hrow.1.size
        have hwo : wo.heap.size < wr.heap.size := by obtain ⟨_, cs, hb, _⟩ := hrow; exact hb.lt
        by_cases hlq : q < l.length
        · obtain ⟨b, off, rfl, hb, ⟨hx0, hx1, hx2, hx3, hx4, hx5, hx6⟩, ⟨hy0, hy1, hy2, hy3, hy4, hy5, hy6⟩⟩ := ((h.below HB.out hB).below hrow.1 (by omega)).ev2 hlt hlq
          have hi2' : (q : Int) < (l.length : Int) := by omega
          have hbw : b < wr.heap.size := by omega
          have hdu : dU l k q = ((gE l k).t == (gE l q).t || syB (gE l k).x (gE l q).x) := by
            unfold dU
            rw [decide_eq_true hkq, Bool.true_and, ← dir_eq hok (by omega) hlq]
            rfl
          obtain ⟨x, hx⟩ : ∃ x, gE l k = x := ⟨_, rfl⟩
          obtain ⟨y, hy⟩ : ∃ y, gE l q = y := ⟨_, rfl⟩
          rw [hx] at hx0 hx1 hx2 hx3 hx4 hx5 hx6 hdu
          rw [hy] at hy0 hy1 hy2 hy3 hy4 hy5 hy6 hdu
          obtain ⟨cr, hbr, hcr, -⟩ := id hrow.2
          obtain ⟨v1, e1⟩ := hbr.some_ (i := q) (by omega)
          have f1 := hbr.free q
          have lR := hbr.lt
          have HROW := Lib.hid hrow
          have KB := Lib.hid hbr
          have hcq : q < cr.size := by omega
          clear hx hy hrow hbr hcr
          have HDU := Lib.hid hdu
          clear hdu
          rcases Bool.eq_false_or_eq_true (x.t == y.t) with ht | ht
          · rw [ht, Bool.true_or] at HDU
            clear hx1 hx2 hx3 hx4 hx5 hx6 hy1 hy2 hy3 hy4 hy5 hy6
            go_wp2_with fail
            go_region
            have Fin := Lib.hid (show RowB wo ((wr.setCell ⟨wo.heap.size, q, none⟩ (.bool true)).drew) l.length (q + 1) (dU l k) from (HROW.out.put HDU.out).drew)
            clear hx0 hy0 e1 f1 HROW KB
            go_wp2
            go_roundw
            case rel => exact ⟨q + 1, by omega, by omega, by go_num, Fin.out⟩
            case measure => simp [intOf]; omega
          · rw [ht, Bool.false_or] at HDU
            go_wp2_with fail
            have hbwo : b < wo.heap.size := by omega
            have allS : ∀ w', Below wr.heap.size wr w' → (w'.cell? ⟨b, off + k * 7, none⟩ = some (.int .i64 x.t) ∧ w'.cell? ⟨b, off + k * 7 + 1, none⟩ = some (.int .i64 x.i) ∧ w'.cell? ⟨b, off + k * 7 + 2, none⟩ = some (.int .i64 x.x.k) ∧ w'.cell? ⟨b, off + k * 7 + 3, none⟩ = some (.int .i64 x.x.a) ∧ w'.cell? ⟨b, off + k * 7 + 4, none⟩ = some (.int .i64 x.x.b) ∧ w'.cell? ⟨b, off + k * 7 + 5, none⟩ = some (.int .i64 x.x.c) ∧ w'.cell? ⟨b, off + k * 7 + 6, none⟩ = some (.bool x.x.s) ∧ w'.cell? ⟨b, off + q * 7, none⟩ = some (.int .i64 y.t) ∧ w'.cell? ⟨b, off + q * 7 + 1, none⟩ = some (.int .i64 y.i) ∧ w'.cell? ⟨b, off + q * 7 + 2, none⟩ = some (.int .i64 y.x.k) ∧ w'.cell? ⟨b, off + q * 7 + 3, none⟩ = some (.int .i64 y.x.a) ∧ w'.cell? ⟨b, off + q * 7 + 4, none⟩ = some (.int .i64 y.x.b) ∧ w'.cell? ⟨b, off + q * 7 + 5, none⟩ = some (.int .i64 y.x.c) ∧ w'.cell? ⟨b, off + q * 7 + 6, none⟩ = some (.bool y.x.s)) := fun w' hb => ⟨(hb.cell (p := ⟨b, _, none⟩) hbw).trans hx0, (hb.cell (p := ⟨b, _, none⟩) hbw).trans hx1, (hb.cell (p := ⟨b, _, none⟩) hbw).trans hx2, (hb.cell (p := ⟨b, _, none⟩) hbw).trans hx3, (hb.cell (p := ⟨b, _, none⟩) hbw).trans hx4, (hb.cell (p := ⟨b, _, none⟩) hbw).trans hx5, (hb.cell (p := ⟨b, _, none⟩) hbw).trans hx6, (hb.cell (p := ⟨b, _, none⟩) hbw).trans hy0, (hb.cell (p := ⟨b, _, none⟩) hbw).trans hy1, (hb.cell (p := ⟨b, _, none⟩) hbw).trans hy2, (hb.cell (p := ⟨b, _, none⟩) hbw).trans hy3, (hb.cell (p := ⟨b, _, none⟩) hbw).trans hy4, (hb.cell (p := ⟨b, _, none⟩) hbw).trans hy5, (hb.cell (p := ⟨b, _, none⟩) hbw).trans hy6⟩
            have AllS := Lib.hid allS
            have AllF := Lib.hid (show ∀ v : World, Below wr.heap.size wr v → ∀ r : Value, ((v.setCell ⟨wo.heap.size, q, none⟩ r).cell? ⟨b, off + k * 7, none⟩ = some (.int .i64 x.t) ∧ (v.setCell ⟨wo.heap.size, q, none⟩ r).cell? ⟨b, off + k * 7 + 1, none⟩ = some (.int .i64 x.i) ∧ (v.setCell ⟨wo.heap.size, q, none⟩ r).cell? ⟨b, off + k * 7 + 2, none⟩ = some (.int .i64 x.x.k) ∧ (v.setCell ⟨wo.heap.size, q, none⟩ r).cell? ⟨b, off + k * 7 + 3, none⟩ = some (.int .i64 x.x.a) ∧ (v.setCell ⟨wo.heap.size, q, none⟩ r).cell? ⟨b, off + k * 7 + 4, none⟩ = some (.int .i64 x.x.b) ∧ (v.setCell ⟨wo.heap.size, q, none⟩ r).cell? ⟨b, off + k * 7 + 5, none⟩ = some (.int .i64 x.x.c) ∧ (v.setCell ⟨wo.heap.size, q, none⟩ r).cell? ⟨b, off + k * 7 + 6, none⟩ = some (.bool x.x.s) ∧ (v.setCell ⟨wo.heap.size, q, none⟩ r).cell? ⟨b, off + q * 7, none⟩ = some (.int .i64 y.t) ∧ (v.setCell ⟨wo.heap.size, q, none⟩ r).cell? ⟨b, off + q * 7 + 1, none⟩ = some (.int .i64 y.i) ∧ (v.setCell ⟨wo.heap.size, q, none⟩ r).cell? ⟨b, off + q * 7 + 2, none⟩ = some (.int .i64 y.x.k) ∧ (v.setCell ⟨wo.heap.size, q, none⟩ r).cell? ⟨b, off + q * 7 + 3, none⟩ = some (.int .i64 y.x.a) ∧ (v.setCell ⟨wo.heap.size, q, none⟩ r).cell? ⟨b, off + q * 7 + 4, none⟩ = some (.int .i64 y.x.b) ∧ (v.setCell ⟨wo.heap.size, q, none⟩ r).cell? ⟨b, off + q * 7 + 5, none⟩ = some (.int .i64 y.x.c) ∧ (v.setCell ⟨wo.heap.size, q, none⟩ r).cell? ⟨b, off + q * 7 + 6, none⟩ = some (.bool y.x.s)) from fun v hBv r => ⟨(World.cell?_setCell_far _ _ _ _ (show wo.heap.size ≠ b by omega)).trans ((hBv.cell (p := ⟨b, _, none⟩) hbw).trans hx0), (World.cell?_setCell_far _ _ _ _ (show wo.heap.size ≠ b by omega)).trans ((hBv.cell (p := ⟨b, _, none⟩) hbw).trans hx1), (World.cell?_setCell_far _ _ _ _ (show wo.heap.size ≠ b by omega)).trans ((hBv.cell (p := ⟨b, _, none⟩) hbw).trans hx2), (World.cell?_setCell_far _ _ _ _ (show wo.heap.size ≠ b by omega)).trans ((hBv.cell (p := ⟨b, _, none⟩) hbw).trans hx3), (World.cell?_setCell_far _ _ _ _ (show wo.heap.size ≠ b by omega)).trans ((hBv.cell (p := ⟨b, _, none⟩) hbw).trans hx4), (World.cell?_setCell_far _ _ _ _ (show wo.heap.size ≠ b by omega)).trans ((hBv.cell (p := ⟨b, _, none⟩) hbw).trans hx5), (World.cell?_setCell_far _ _ _ _ (show wo.heap.size ≠ b by omega)).trans ((hBv.cell (p := ⟨b, _, none⟩) hbw).trans hx6), (World.cell?_setCell_far _ _ _ _ (show wo.heap.size ≠ b by omega)).trans ((hBv.cell (p := ⟨b, _, none⟩) hbw).trans hy0), (World.cell?_setCell_far _ _ _ _ (show wo.heap.size ≠ b by omega)).trans ((hBv.cell (p := ⟨b, _, none⟩) hbw).trans hy1), (World.cell?_setCell_far _ _ _ _ (show wo.heap.size ≠ b by omega)).trans ((hBv.cell (p := ⟨b, _, none⟩) hbw).trans hy2), (World.cell?_setCell_far _ _ _ _ (show wo.heap.size ≠ b by omega)).trans ((hBv.cell (p := ⟨b, _, none⟩) hbw).trans hy3), (World.cell?_setCell_far _ _ _ _ (show wo.heap.size ≠ b by omega)).trans ((hBv.cell (p := ⟨b, _, none⟩) hbw).trans hy4), (World.cell?_setCell_far _ _ _ _ (show wo.heap.size ≠ b by omega)).trans ((hBv.cell (p := ⟨b, _, none⟩) hbw).trans hy5), (World.cell?_setCell_far _ _ _ _ (show wo.heap.size ≠ b by omega)).trans ((hBv.cell (p := ⟨b, _, none⟩) hbw).trans hy6)⟩)
            clear allS
            go_region_held3 (fun w' => w'.cell? ⟨b, off + k * 7, none⟩ = some (.int .i64 x.t) ∧ w'.cell? ⟨b, off + k * 7 + 1, none⟩ = some (.int .i64 x.i) ∧ w'.cell? ⟨b, off + k * 7 + 2, none⟩ = some (.int .i64 x.x.k) ∧ w'.cell? ⟨b, off + k * 7 + 3, none⟩ = some (.int .i64 x.x.a) ∧ w'.cell? ⟨b, off + k * 7 + 4, none⟩ = some (.int .i64 x.x.b) ∧ w'.cell? ⟨b, off + k * 7 + 5, none⟩ = some (.int .i64 x.x.c) ∧ w'.cell? ⟨b, off + k * 7 + 6, none⟩ = some (.bool x.x.s) ∧ w'.cell? ⟨b, off + q * 7, none⟩ = some (.int .i64 y.t) ∧ w'.cell? ⟨b, off + q * 7 + 1, none⟩ = some (.int .i64 y.i) ∧ w'.cell? ⟨b, off + q * 7 + 2, none⟩ = some (.int .i64 y.x.k) ∧ w'.cell? ⟨b, off + q * 7 + 3, none⟩ = some (.int .i64 y.x.a) ∧ w'.cell? ⟨b, off + q * 7 + 4, none⟩ = some (.int .i64 y.x.b) ∧ w'.cell? ⟨b, off + q * 7 + 5, none⟩ = some (.int .i64 y.x.c) ∧ w'.cell? ⟨b, off + q * 7 + 6, none⟩ = some (.bool y.x.s)) (first | (with_reducible exact Fin.out) | (go_split_ands; refine AllS.out _ ?_; go_grown; done) | (refine AllS.out _ ?_; go_grown; done)) (first | (go_at_call 140; go_split_ands; refine (ssync_any x.t x.i x.x.k x.x.a x.x.b x.x.c x.x.s y.t y.i y.x.k y.x.a y.x.b y.x.c y.x.s _).mono ?_; rintro e v ⟨rfl, hv⟩; have hBv : Below wr.heap.size wr v := below_on (by go_grown) hv; have HBv := Lib.hid hBv; have kbv := KB.out.below hBv lR; obtain ⟨v3, e3⟩ := kbv.some_ (i := q) hcq; have f3 := kbv.free q; have l3 := kbv.lt; have Fin := Lib.hid (AllF.out v hBv (.bool (syB ⟨x.x.k, x.x.a, x.x.b, x.x.c, x.x.s⟩ ⟨y.x.k, y.x.a, y.x.b, y.x.c, y.x.s⟩))); clear hv kbv))
            have Fin2 := Lib.hid (show RowB wo (v.setCell ⟨wo.heap.size, q, none⟩ (.bool (syB ⟨x.x.k, x.x.a, x.x.b, x.x.c, x.x.s⟩ ⟨y.x.k, y.x.a, y.x.b, y.x.c, y.x.s⟩))) l.length (q + 1) (dU l k) from (HROW.out.below HBv.out).put HDU.out)
            clear hx0 hx1 hx2 hx3 hx4 hx5 hx6 hy0 hy1 hy2 hy3 hy4 hy5 hy6 e1 f1 e3 f3 HROW KB AllS AllF Fin hBv
            try clear hHeld
            go_wp2
            go_roundw
            case rel => exact ⟨q + 1, by omega, by omega, by go_num, Fin2.out⟩
            case measure => simp [intOf]; omega
        · have hqq : q = l.length := by omega
          subst hqq
          have HROW := Lib.hid hrow
          have HO' := Lib.hid (HO.out.kept (grown_of_below hrow.1 none) (by simp [Value.ownBlock]))
          clear hrow
          go_wp2_with (at_builtin; refine wpList_append_own _ rfl (.tmp 53) (.tmp 55) 56 rfl w.heap.size 92 i1 _ 1 24 Try.underlying56 hi1 jz0 jz1 jz2 rfl (by decide) _ k (heads l.length k D) rfl (HO'.out.alloc _) ⟨_, 0, none⟩ 1 1 [.slice (some ⟨wo.heap.size, 0, none⟩) l.length l.length] rfl rfl (cell_one _ _ _) (by intro u hu; simp at hu; subst hu; rfl) (by unfold maxLen; omega) (by omega) (by simp; omega) ?_; intro v' w4 own4 grow4 _; obtain ⟨g4, cap4, rfl, hg4, hlt4⟩ := own4.form (by omega); have Next := Lib.hid (p1_next HB.out HT.out HROW.out HO.out grow4); have Own4 := Lib.hid own4; clear own4 grow4)
          go_roundw
          case rel => exact ⟨k + 1, by omega, by go_num, g4, cap4, _, rfl, hg4, by rw [heads_snoc]; exact Own4.out, Next.out.1, Next.out.2⟩
          case measure => simp [intOf]; omega
    · have hkk : k = l.length := by omega
      subst hkk
      have PH0 := Lib.hid (show Ph w wr g wr.heap.size l.length D (wA (dU l) 0) from ⟨HB.out, Nat.le_refl _, own_vs HO.out rfl, HT.out⟩)
      obtain ⟨n, hn⟩ : ∃ n, l.length = n := ⟨_, rfl⟩
      obtain ⟨wq, rfl⟩ : ∃ wq : World, wq = wr := ⟨_, rfl⟩
      go_wp2_with fail
      go_loopw [7] (fun j wr => ∃ m : Nat, m ≤ l.length ∧ j = .int .i64 m ∧ Ph w wr g wq.heap.size l.length D (wA (dU l) m)) (fun j _ => l.length - (intOf j).toNat)
      case atStart => exact ⟨0, Nat.zero_le _, rfl, PH0.out⟩
      case round =>
        obtain ⟨m, hm1, rfl, hph⟩ := hrel
        clear PH0
        by_cases hlm : m < l.length
        · have P0 := Lib.hid (show Ph w wr g wq.heap.size l.length D (midW (dU l) m 0 0) from hph.congr fun i j _ _ => by unfold midW; rw [if_neg (by omega)])
          have hm2 : (m : Int) < (l.length : Int) := by omega
          clear hph
          go_wp2_with fail
          go_loopw [8] (fun j wr => ∃ i : Nat, i ≤ l.length ∧ j = .int .i64 i ∧ Ph w wr g wq.heap.size l.length D (midW (dU l) m i 0)) (fun j _ => l.length - (intOf j).toNat)
          case atStart => exact ⟨0, Nat.zero_le _, rfl, P0.out⟩
          case round =>
            obtain ⟨i, hi0, rfl, hph⟩ := hrel
            clear P0
            by_cases hli : i < l.length
            · have P1' := Lib.hid hph
              have hi2 : (i : Int) < (l.length : Int) := by omega
              clear hph
              go_wp2_with fail
              go_loopw [9] (fun j wr => ∃ q : Nat, q ≤ l.length ∧ j = .int .i64 q ∧ Ph w wr g wq.heap.size l.length D (midW (dU l) m i q)) (fun j _ => l.length - (intOf j).toNat)
              case atStart => exact ⟨0, Nat.zero_le _, rfl, P1'.out⟩
              case round =>
                obtain ⟨q, hq0, rfl, hph⟩ := hrel
                clear P1'
                by_cases hlq : q < l.length
                · have hq2 : (q : Int) < (l.length : Int) := by omega
                  obtain ⟨cGi, lG⟩ := hph.head hli
                  obtain ⟨cGm, -⟩ := hph.head hlm
                  obtain ⟨cim, lDi, -⟩ := hph.cell hli hlm
                  obtain ⟨cmq, lDm, -⟩ := hph.cell hlm hlq
                  obtain ⟨ciq, -, fiq⟩ := hph.cell hli hlq
                  rw [mid_col] at cim
                  rw [mid_row] at cmq
                  have HPH := Lib.hid hph
                  clear hph
                  obtain ⟨b1, hb1⟩ : ∃ b, wA (dU l) m i m = b := ⟨_, rfl⟩
                  obtain ⟨b2, hb2⟩ : ∃ b, wA (dU l) m m q = b := ⟨_, rfl⟩
                  rw [hb1] at cim
                  rw [hb2] at cmq
                  have HB1 := Lib.hid hb1
                  have HB2 := Lib.hid hb2
                  clear hb1 hb2
                  by_cases hy : b1 = true ∧ b2 = true
                  · obtain ⟨rfl, rfl⟩ := hy
                    have Nx := Lib.hid (show Ph w (wr.setCell ⟨D i, q, none⟩ (.bool true)) g wq.heap.size l.length D (midW (dU l) m i (q + 1)) by rw [← mid_yes HB1.out HB2.out]; exact HPH.out.put hli hlq)
                    clear HPH
                    go_wp2
                    go_roundw
                    case rel => exact ⟨q + 1, by omega, by go_num, Nx.out⟩
                    case measure => simp [intOf]; omega
                  · have Nx := Lib.hid (show Ph w wr g wq.heap.size l.length D (midW (dU l) m i (q + 1)) by rw [← mid_no (by rw [HB1.out, HB2.out]; cases b1 <;> cases b2 <;> simp_all)]; exact HPH.out)
                    clear HPH
                    cases b1 with
                    | false =>
                      go_wp2
                      go_roundw
                      case rel => exact ⟨q + 1, by omega, by go_num, Nx.out⟩
                      case measure => simp [intOf]; omega
                    | true =>
                      cases b2 with
                      | false =>
                        go_wp2
                        go_roundw
                        case rel => exact ⟨q + 1, by omega, by go_num, Nx.out⟩
                        case measure => simp [intOf]; omega
                      | true => exact absurd ⟨rfl, rfl⟩ hy
                · have hqq : q = l.length := by omega
                  subst hqq
                  have Nx := Lib.hid (show Ph w wr g wq.heap.size l.length D (midW (dU l) m (i + 1) 0) from hph.congr fun a b ha hb => by
                    unfold midW
                    by_cases e : a < i ∨ (a = i ∧ b < l.length)
                    · rw [if_pos e, if_pos (by omega)]
                    · rw [if_neg e, if_neg (by omega)])
                  clear hph
                  go_wp2
                  go_roundw
                  case rel => exact ⟨i + 1, by omega, by go_num, Nx.out⟩
                  case measure => simp [intOf]; omega
            · have hii : i = l.length := by omega
              subst hii
              have Nx := Lib.hid (show Ph w wr g wq.heap.size l.length D (wA (dU l) (m + 1)) from hph.congr fun a b ha hb => by unfold midW; rw [if_pos (Or.inl ha)])
              clear hph
              go_wp2
              go_roundw
              case rel => exact ⟨m + 1, by omega, by go_num, Nx.out⟩
              case measure => simp [intOf]; omega
        · have hmm : m = l.length := by omega
          subst hmm
          have PF := hph.congr (M' := cB l) fun a b ha hb => wA_c (Nat.le_of_lt hb)
          have hlen : (mat l.length (cB l)).length = l.length := mat_length _ _
          have Fin := Lib.hid (show BssO wr w.heap.size wr.heap.size ⟨some ⟨g, 0, none⟩, cap⟩ (mat l.length (cB l)) from ⟨(tab_own PF.hd PF.tab).keep (Nat.le_refl _) PF.top fun _ _ _ => rfl⟩)
          have BF := Lib.hid PF.bel
          clear PF hph
          go_wp2
          go_ret
          refine ⟨⟨some ⟨g, 0, none⟩, cap⟩, ?_, BF.out, BF.out.size, Fin.out⟩
          show Ending.returned (.slice _ l.length cap) = .returned (.slice _ (mat l.length (cB l)).length cap)
          rw [hlen]
theorem sbefore_any (h : PgH) (L : Pg) (k : IsH) (xs : List Int) (w : World) (B : Nat) (hP : PgR w B h L) (hV : IsR w B k xs) (hB : B ≤ w.heap.size) (SP : PgS L) (LS : IsS xs) :
    Calls Try.prog 45 #[PgV h L, IsV k xs] w (AnsBs w (befE L xs) (evR L xs)) := by
  obtain ⟨W, hW⟩ : ∃ W, W = w.alloc (.cells #[.slice h.A L.length h.c] 32) := ⟨_, rfl⟩
  have bW : Below w.heap.size w W := by rw [hW]; go_grown
  have KW := Lib.hid (show Bk W w.heap.size 32 #[.slice h.A L.length h.c] by rw [hW]; exact Bk.new _ _ _)
  have RW := Lib.hid (hP.below bW hB)
  have VW := Lib.hid (hV.below bW hB)
  have BW := Lib.hid bW
  have hBW : B ≤ W.heap.size := Nat.le_trans hB bW.size
  have HW := Lib.hid hW
  have F := Lib.hid (evE_facts (L := L) (xs := xs))
  have hev := sevs_any h L k xs W B RW.out VW.out hBW SP LS
  unfold befE
  generalize evE L xs = l at hev F
  generalize evR L xs = r at hev
  obtain ⟨E, hE⟩ : ∃ E, (if r = true then befO l else []) = E := ⟨_, rfl⟩
  rw [hE]
  have HE := Lib.hid hE
  clear hW bW hP hV hE
  have h9 := F.out.2
  have cP := KW.out.cell 0
  have lP := KW.out.lt
  go_enter Try.func45, Try.ntmps45
  go_wp2_with fail
  rw [← HW.out]
  go_wp2_with fail
  refine hev.mono ?_
  clear hev cP lP
  rintro e w1 ⟨ke, rfl, hb1, hz1, ho1⟩
  have B1 := Lib.hid (below_on BW.out hb1)
  have O1 := Lib.hid ho1
  clear hb1 ho1
  cases r with
  | false =>
    have e0 : E = [] := HE.out.symm
    subst e0
    go_wp2
    go_returns
    exact ⟨⟨none, 0⟩, rfl, B1.out, B1.out.size, ⟨OwnVss.nil _ _ _ _ _ _⟩⟩
  | true =>
    have e0 : E = befO l := HE.out.symm
    subst e0
    go_wp2_with fail
    refine (sbef_any ke l w1 w1.heap.size O1.out.rd (Nat.le_refl _) F.out.1 (by omega)).mono ?_
    rintro e w2 ⟨k2, rfl, hb2, hz2, ho2⟩
    have B2 := Lib.hid (below_on B1.out hb2)
    have O2 := Lib.hid (ho2.keep (lo' := w.heap.size) (hi' := w2.heap.size) B1.out.size (Nat.le_refl _) fun _ _ _ => rfl)
    clear hb2 ho2
    unfold befO at O2
    unfold befO
    go_wp2
    go_returns
    exact ⟨k2, rfl, B2.out, B2.out.size, O2.out⟩
end Go.Proofs.Ytidibnmlceccnaa
