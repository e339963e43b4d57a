/-
  What the program's Do comes to.
-/
import Derived.Test.YtmnpndmjheippaaSteppd
import Derived.Test.YtmnpndmjheippaaICan
namespace Go.Proofs.Ytmnpndmjheippaa
open Go.RowKit Pl
set_option maxHeartbeats 4000000
set_option maxRecDepth 100000
set_option linter.unusedVariables false

/-- The state behind the next statement of a thread. -/
def doB (L : Pg) (s : Sta) (th : Int) : Sta := if canB L s th then staF L (stepF L (wdF L s) th.toNat) else StaE
theorem stepF_good {L : Pg} {f : Nat → Nat} {t : Nat} (hL : progB L = true) (hf : Good L f) (ht : t < L.length) (hc : canF L f t = true) (h4 : ∀ n, n < 2 → f (20 + n) ≤ 4) : Good L (stepF L f t) := by
  obtain ⟨h31, h32⟩ := prog_len hL
  obtain ⟨xs, hxs⟩ : ∃ xs, L[t]? = some xs := ⟨L[t], List.getElem?_eq_getElem ht⟩
  have hd : L.getD t [] = xs := getD_some hxs
  have hle := hf.at_ t xs hxs
  unfold canF at hc
  rw [hd] at hc
  have hml : f (3 + t) < xs.length := by
    have : f (3 + t) ≠ xs.length := by intro e; rw [e] at hc; simp at hc
    omega
  obtain ⟨hx6, hxok⟩ := prog_thr hL hxs
  have hsx : smAt L t (f (3 + t)) = xs[f (3 + t)] := by unfold smAt; rw [hd]; simp [List.getD, hml]
  have hok : (smAt L t (f (3 + t))).okb = true := by rw [hsx]; exact hxok _ _ (List.getElem?_eq_getElem hml)
  have hn : nextF L f t (smAt L t (f (3 + t))) ≤ xs.length := by have := nextF_le (L := L) (f := f) (t := t) (x := smAt L t (f (3 + t))) (by rw [hd]; exact hml); rwa [hd] at this
  unfold stepF
  refine keptF_good ?_ h32
  generalize hx : smAt L t (f (3 + t)) = x at *
  generalize nextF L f t x = nx at *
  have hok1 : okF WS (upd f (3 + t) nx) := okF_upd fld0 hf.ok (i := t) (show t < 3 by omega) (show nx < 8 by omega)
  refine ⟨affF_ok hok1 (by omega) hok fun hk n hn' => ?_, fun u ys hu => ?_⟩
  · obtain ⟨n', hn2, hb'⟩ := ok_get hok hk
    have : n = n' := by omega
    subst this
    have e : (upd f (3 + t) nx) (20 + n) = f (20 + n) := by unfold upd; rw [if_neg (by omega)]
    rw [e]
    refine ⟨?_, h4 n hn2⟩
    have hw : waitF f t x = (f (20 + n) == 0) := by unfold waitF; rw [hk, hn']; simp
    rw [hw] at hc
    have h0 : f (20 + n) ≠ 0 := by intro e; rw [e] at hc; simp at hc
    omega
  · have hu3 : u < 3 := by have := (List.getElem?_eq_some_iff.1 hu).1; omega
    rw [affF_lo (by omega)]
    unfold upd
    by_cases e : 3 + u = 3 + t
    · rw [if_pos e]
      have e' : u = t := by omega
      subst e'
      rw [hxs] at hu; injection hu with hu; subst hu; exact hn
    · rw [if_neg e]; exact hf.at_ u ys hu

theorem ido_any (h : PgH) (L : Pg) (k : StaH) (s : Sta) (th : Int) (w : World) (B : Nat) (hP : PgR w B h L) (hS : StaR w B k s) (hB : B ≤ w.heap.size) (SP : PgS L) (LS : StaS s) :
    Calls Try.prog 20 #[PgV h L, StaV k s, .int .i64 th] w (AnsSta w (doB L s th) (canB L s th)) := by
  obtain ⟨W, hW⟩ : ∃ W, W = ((w.alloc (.cells #[.slice h.A L.length h.c] 35)).alloc (.cells #[.slice k.A0 s.f0.length k.c0, .slice k.A1 s.f1.length k.c1, .slice k.A2 s.f2.length k.c2, .slice k.A3 s.f3.length k.c3, .slice k.A4 s.f4.length k.c4] 30)).alloc (.cells #[.slice none 0 0, .slice none 0 0, .slice none 0 0, .slice none 0 0, .slice none 0 0] 30) := ⟨_, rfl⟩
  have bW : Below w.heap.size w W := by rw [hW]; go_grown
  have sW : W.heap.size = w.heap.size + 1 + 1 + 1 := by rw [hW]; simp
  have k0 : Bk W w.heap.size 35 #[.slice h.A L.length h.c] := by rw [hW]; exact ((Bk.new w _ _).alloc _).alloc _
  have k1 : Bk W (w.heap.size + 1) 30 #[.slice k.A0 s.f0.length k.c0, .slice k.A1 s.f1.length k.c1, .slice k.A2 s.f2.length k.c2, .slice k.A3 s.f3.length k.c3, .slice k.A4 s.f4.length k.c4] := by
    rw [hW]; have := (Bk.new (w.alloc (.cells #[.slice h.A L.length h.c] 35)) #[.slice k.A0 s.f0.length k.c0, .slice k.A1 s.f1.length k.c1, .slice k.A2 s.f2.length k.c2, .slice k.A3 s.f3.length k.c3, .slice k.A4 s.f4.length k.c4] 30).alloc (.cells #[.slice none 0 0, .slice none 0 0, .slice none 0 0, .slice none 0 0, .slice none 0 0] 30)
    rwa [World.size_alloc] at this
  have k2 : Bk W (w.heap.size + 1 + 1) 30 #[.slice none 0 0, .slice none 0 0, .slice none 0 0, .slice none 0 0, .slice none 0 0] := by
    rw [hW]; have := Bk.new ((w.alloc (.cells #[.slice h.A L.length h.c] 35)).alloc (.cells #[.slice k.A0 s.f0.length k.c0, .slice k.A1 s.f1.length k.c1, .slice k.A2 s.f2.length k.c2, .slice k.A3 s.f3.length k.c3, .slice k.A4 s.f4.length k.c4] 30)) #[.slice none 0 0, .slice none 0 0, .slice none 0 0, .slice none 0 0, .slice none 0 0] 30
    rwa [World.size_alloc, World.size_alloc] at this
  have P0 := Lib.hid (hP.below bW hB)
  have Q0 := Lib.hid (hS.below bW hB)
  have K0 := Lib.hid k0
  have K1 := Lib.hid k1
  have K2 := Lib.hid k2
  have BW := Lib.hid bW
  have sWa := Nat.le_of_eq sW
  have sWb := Nat.le_of_eq sW.symm
  have HW := Lib.hid hW
  clear k0 k1 k2 bW sW hW hP hS
  rcases Bool.eq_false_or_eq_true (canB L s th) with hc | hc
  rotate_left
  · have hE : doB L s th = StaE := by unfold doB; rw [hc]; rfl
    rw [hE, hc]
    have HC := Lib.hid hc
    clear hE hc
    go_enter Try.func20, Try.ntmps20
    go_wp2_with fail
    rw [← HW.out]
    refine (ican_any h L k s th W B P0.out Q0.out (by omega) SP LS false HC).mono ?_
    rintro e w1 ⟨rfl, hb1⟩
    have B1 := Lib.hid (below_on BW.out hb1)
    have z1 := hb1.size
    have K01 := Lib.hid (K0.out.below hb1 K0.out.lt)
    have K11 := Lib.hid (K1.out.below hb1 K1.out.lt)
    have K21 := Lib.hid (K2.out.below hb1 K2.out.lt)
    have P1 := Lib.hid (P0.out.below hb1 (by omega))
    have Q1 := Lib.hid (Q0.out.below hb1 (by omega))
    clear hb1
    have cr0 : w1.cell? ⟨w.heap.size + 1 + 1, 0, none⟩ = some (.slice none 0 0) := K21.out.cell 0
    have fr0 : w1.frozen? ⟨w.heap.size + 1 + 1, 0, none⟩ = false := K21.out.free 0
    have cr1 : w1.cell? ⟨w.heap.size + 1 + 1, 1, none⟩ = some (.slice none 0 0) := K21.out.cell 1
    have fr1 : w1.frozen? ⟨w.heap.size + 1 + 1, 1, none⟩ = false := K21.out.free 1
    have cr2 : w1.cell? ⟨w.heap.size + 1 + 1, 2, none⟩ = some (.slice none 0 0) := K21.out.cell 2
    have fr2 : w1.frozen? ⟨w.heap.size + 1 + 1, 2, none⟩ = false := K21.out.free 2
    have cr3 : w1.cell? ⟨w.heap.size + 1 + 1, 3, none⟩ = some (.slice none 0 0) := K21.out.cell 3
    have fr3 : w1.frozen? ⟨w.heap.size + 1 + 1, 3, none⟩ = false := K21.out.free 3
    have cr4 : w1.cell? ⟨w.heap.size + 1 + 1, 4, none⟩ = some (.slice none 0 0) := K21.out.cell 4
    have fr4 : w1.frozen? ⟨w.heap.size + 1 + 1, 4, none⟩ = false := K21.out.free 4
    go_wp2
    clear cr0 fr0 cr1 fr1 cr2 fr2 cr3 fr3 cr4 fr4
    have kF : Bk (((((w1.setCell ⟨w.heap.size + 1 + 1, 0, none⟩ (.slice none 0 0)).setCell ⟨w.heap.size + 1 + 1, 1, none⟩ (.slice none 0 0)).setCell ⟨w.heap.size + 1 + 1, 2, none⟩ (.slice none 0 0)).setCell ⟨w.heap.size + 1 + 1, 3, none⟩ (.slice none 0 0)).setCell ⟨w.heap.size + 1 + 1, 4, none⟩ (.slice none 0 0)) (w.heap.size + 1 + 1) 30 #[.slice none 0 0, .slice none 0 0, .slice none 0 0, .slice none 0 0, .slice none 0 0] := by
      have a0 := K21.out
      have a1 := a0.set 0 (.slice none 0 0)
      have a2 := a1.set 1 (.slice none 0 0)
      have a3 := a2.set 2 (.slice none 0 0)
      have a4 := a3.set 3 (.slice none 0 0)
      have a5 := a4.set 4 (.slice none 0 0)
      simpa using a5
    have bF : Below w.heap.size w (((((w1.setCell ⟨w.heap.size + 1 + 1, 0, none⟩ (.slice none 0 0)).setCell ⟨w.heap.size + 1 + 1, 1, none⟩ (.slice none 0 0)).setCell ⟨w.heap.size + 1 + 1, 2, none⟩ (.slice none 0 0)).setCell ⟨w.heap.size + 1 + 1, 3, none⟩ (.slice none 0 0)).setCell ⟨w.heap.size + 1 + 1, 4, none⟩ (.slice none 0 0)) := (((((B1.out.setCell (p := ⟨w.heap.size + 1 + 1, 0, none⟩) (show w.heap.size ≤ w.heap.size + 1 + 1 by omega) _).setCell (p := ⟨w.heap.size + 1 + 1, 1, none⟩) (show w.heap.size ≤ w.heap.size + 1 + 1 by omega) _).setCell (p := ⟨w.heap.size + 1 + 1, 2, none⟩) (show w.heap.size ≤ w.heap.size + 1 + 1 by omega) _).setCell (p := ⟨w.heap.size + 1 + 1, 3, none⟩) (show w.heap.size ≤ w.heap.size + 1 + 1 by omega) _).setCell (p := ⟨w.heap.size + 1 + 1, 4, none⟩) (show w.heap.size ≤ w.heap.size + 1 + 1 by omega) _)
    have nF : ∀ q, w.heap.size + 1 + 1 < q → (((((w1.setCell ⟨w.heap.size + 1 + 1, 0, none⟩ (.slice none 0 0)).setCell ⟨w.heap.size + 1 + 1, 1, none⟩ (.slice none 0 0)).setCell ⟨w.heap.size + 1 + 1, 2, none⟩ (.slice none 0 0)).setCell ⟨w.heap.size + 1 + 1, 3, none⟩ (.slice none 0 0)).setCell ⟨w.heap.size + 1 + 1, 4, none⟩ (.slice none 0 0)).heap[q]? = w1.heap[q]? := fun q hq => (Below.heap_setCell _ _ _ q (by show q ≠ w.heap.size + 1 + 1; omega)).trans ((Below.heap_setCell _ _ _ q (by show q ≠ w.heap.size + 1 + 1; omega)).trans ((Below.heap_setCell _ _ _ q (by show q ≠ w.heap.size + 1 + 1; omega)).trans ((Below.heap_setCell _ _ _ q (by show q ≠ w.heap.size + 1 + 1; omega)).trans (Below.heap_setCell _ _ _ q (by show q ≠ w.heap.size + 1 + 1; omega)))))
    have zF : w1.heap.size ≤ (((((w1.setCell ⟨w.heap.size + 1 + 1, 0, none⟩ (.slice none 0 0)).setCell ⟨w.heap.size + 1 + 1, 1, none⟩ (.slice none 0 0)).setCell ⟨w.heap.size + 1 + 1, 2, none⟩ (.slice none 0 0)).setCell ⟨w.heap.size + 1 + 1, 3, none⟩ (.slice none 0 0)).setCell ⟨w.heap.size + 1 + 1, 4, none⟩ (.slice none 0 0)).heap.size := by simp
    have HF := Lib.hid kF
    have BF := Lib.hid bF
    have NF := Lib.hid nF
    obtain ⟨F, hF⟩ : ∃ F, F = (((((w1.setCell ⟨w.heap.size + 1 + 1, 0, none⟩ (.slice none 0 0)).setCell ⟨w.heap.size + 1 + 1, 1, none⟩ (.slice none 0 0)).setCell ⟨w.heap.size + 1 + 1, 2, none⟩ (.slice none 0 0)).setCell ⟨w.heap.size + 1 + 1, 3, none⟩ (.slice none 0 0)).setCell ⟨w.heap.size + 1 + 1, 4, none⟩ (.slice none 0 0)) := ⟨_, rfl⟩
    rw [← hF] at HF BF NF zF
    rw [← hF]
    clear kF bF nF hF
    have c0 := HF.out.cell 0
    have c1 := HF.out.cell 1
    have c2 := HF.out.cell 2
    have c3 := HF.out.cell 3
    have c4 := HF.out.cell 4
    simp only [List.getElem?_toArray, List.getElem?_cons_zero, List.getElem?_cons_succ] at c0 c1 c2 c3 c4
    refine bodyPost_ret (v := .tuple #[.agg #[.slice none 0 0, .slice none 0 0, .slice none 0 0, .slice none 0 0, .slice none 0 0], .bool false]) (by simp [results, Try.results20, c0, c1, c2, c3, c4, go_sem]) rfl ?_
    exact ⟨StaN, rfl, BF.out, by omega, StaO.none_ _ _ _ _⟩
  have hE : doB L s th = staF L (stepF L (wdF L s) th.toNat) := by unfold doB; rw [hc]; rfl
  rw [hE, hc]
  have HC := Lib.hid hc
  have hst : stB L s = true := by
    unfold canB at hc; simp only [Bool.and_eq_true] at hc; exact hc.1
  have hin : inB th 0 ((L.length : Int) - 1) = true ∧ canF L (pkF s) th.toNat = true := by
    unfold canB at hc; simp only [Bool.and_eq_true] at hc; exact ⟨hc.2.1, hc.2.2⟩
  obtain ⟨hin, hcf⟩ := hin
  obtain ⟨t, rfl⟩ := Int.eq_ofNat_of_zero_le (show 0 ≤ th by simp [inB] at hin; omega)
  have ht : t < L.length := by simp [inB] at hin; omega
  rw [Int.toNat_natCast] at hcf ⊢
  have P := stB_parts hst
  have hcw : canF L (wdF L s) t = true := by rw [canF_congr (g := pkF s) fun p hp => wdF_hi P hp]; exact hcf
  have h4 : ∀ n, n < 2 → wdF L s (20 + n) ≤ 4 := fun n hn => by
    rw [wdF_hi P (by omega), pk_chan P hn]
    have m4 := P.m4
    obtain ⟨y, hy⟩ : ∃ y, s.f4[n]? = some y := ⟨s.f4[n], List.getElem?_eq_getElem (by omega)⟩
    have := P.v4 n y hy
    rw [getD_some hy]; omega
  have hgd := stepF_good P.prog (wdF_good P) ht hcw h4
  have HP := Lib.hid P
  have HC4 := Lib.hid h4
  have HCW := Lib.hid hcw
  have HG := Lib.hid hgd
  clear hE hc hst hin hcf P hcw h4 hgd
  go_enter Try.func20, Try.ntmps20
  go_wp2_with fail
  rw [← HW.out]
  refine (ican_any h L k s (t : Int) W B P0.out Q0.out (by omega) SP LS true HC).mono ?_
  rintro e w1 ⟨rfl, hb1⟩
  have B1 := Lib.hid (below_on BW.out hb1)
  have z1 := hb1.size
  have K01 := Lib.hid (K0.out.below hb1 K0.out.lt)
  have K11 := Lib.hid (K1.out.below hb1 K1.out.lt)
  have K21 := Lib.hid (K2.out.below hb1 K2.out.lt)
  have P1 := Lib.hid (P0.out.below hb1 (by omega))
  have Q1 := Lib.hid (Q0.out.below hb1 (by omega))
  clear hb1
  have allS : ∀ w', Below w1.heap.size w1 w' → (w'.cell? ⟨w.heap.size, 0, none⟩ = some (.slice h.A L.length h.c) ∧ w'.cell? ⟨w.heap.size + 1, 0, none⟩ = some (.slice k.A0 s.f0.length k.c0) ∧ w'.cell? ⟨w.heap.size + 1, 1, none⟩ = some (.slice k.A1 s.f1.length k.c1) ∧ w'.cell? ⟨w.heap.size + 1, 2, none⟩ = some (.slice k.A2 s.f2.length k.c2) ∧ w'.cell? ⟨w.heap.size + 1, 3, none⟩ = some (.slice k.A3 s.f3.length k.c3) ∧ w'.cell? ⟨w.heap.size + 1, 4, none⟩ = some (.slice k.A4 s.f4.length k.c4)) := fun w' hb => ⟨box_at (K01.out.below hb K01.out.lt), (K11.out.below hb K11.out.lt).cell 0, (K11.out.below hb K11.out.lt).cell 1, (K11.out.below hb K11.out.lt).cell 2, (K11.out.below hb K11.out.lt).cell 3, (K11.out.below hb K11.out.lt).cell 4⟩
  have AllS := Lib.hid allS
  clear allS
  go_wp2_with fail
  go_region_held3 (fun w' => w'.cell? ⟨w.heap.size, 0, none⟩ = some (.slice h.A L.length h.c) ∧ w'.cell? ⟨w.heap.size + 1, 0, none⟩ = some (.slice k.A0 s.f0.length k.c0) ∧ w'.cell? ⟨w.heap.size + 1, 1, none⟩ = some (.slice k.A1 s.f1.length k.c1) ∧ w'.cell? ⟨w.heap.size + 1, 2, none⟩ = some (.slice k.A2 s.f2.length k.c2) ∧ w'.cell? ⟨w.heap.size + 1, 3, none⟩ = some (.slice k.A3 s.f3.length k.c3) ∧ w'.cell? ⟨w.heap.size + 1, 4, none⟩ = some (.slice k.A4 s.f4.length k.c4)) (first | (with_reducible exact Fin.out) | (go_split_ands; refine AllS.out _ ?_; go_grown; done) | (refine AllS.out _ ?_; go_grown; done)) (first | (go_at_call 75; go_split_ands; refine (packed_any h L k s _ B (P1.out.below (show Below w1.heap.size w1 _ from by go_grown) (by omega)) (Q1.out.below (show Below w1.heap.size w1 _ from by go_grown) (by omega)) (Nat.le_trans (show B ≤ w1.heap.size by omega) (show Below w1.heap.size w1 _ from by go_grown).size) HP.out).mono ?_; rintro e v0 ⟨rfl, hv⟩; have hBv0 : Below w1.heap.size w1 v0 := below_on (by go_grown) hv; clear hv) | (go_at_call 74; go_split_ands; refine (stepped_any h L (wdF L s) t _ B (P1.out.below (show Below w1.heap.size w1 _ from by go_grown) (by omega)) (Nat.le_trans (show B ≤ w1.heap.size by omega) (show Below w1.heap.size w1 _ from by go_grown).size) HP.out.prog (wdF_good HP.out) ht HCW.out HC4.out).mono ?_; rintro e v1 ⟨rfl, hv⟩; have hBv1 : Below w1.heap.size w1 v1 := below_on (by go_grown) hv; clear hv) | (go_at_call 73; go_split_ands; refine (unpacked_any h L _ _ HP.out.prog HG.out.ok).mono ?_; rintro e v2 ⟨hu, rfl, hv, hlt, ov⟩; have Ov := Lib.hid ov; have hBv2 : Below w1.heap.size w1 v2 := below_on (by go_grown) hv; have hz2 := hv.size; have hz1v := hBv1.size; have cr0 : v2.cell? ⟨w.heap.size + 1 + 1, 0, none⟩ = some (.slice none 0 0) := (K21.out.below hBv2 K21.out.lt).cell 0; have fr0 : v2.frozen? ⟨w.heap.size + 1 + 1, 0, none⟩ = false := (K21.out.below hBv2 K21.out.lt).free 0; have cr1 : v2.cell? ⟨w.heap.size + 1 + 1, 1, none⟩ = some (.slice none 0 0) := (K21.out.below hBv2 K21.out.lt).cell 1; have fr1 : v2.frozen? ⟨w.heap.size + 1 + 1, 1, none⟩ = false := (K21.out.below hBv2 K21.out.lt).free 1; have cr2 : v2.cell? ⟨w.heap.size + 1 + 1, 2, none⟩ = some (.slice none 0 0) := (K21.out.below hBv2 K21.out.lt).cell 2; have fr2 : v2.frozen? ⟨w.heap.size + 1 + 1, 2, none⟩ = false := (K21.out.below hBv2 K21.out.lt).free 2; have cr3 : v2.cell? ⟨w.heap.size + 1 + 1, 3, none⟩ = some (.slice none 0 0) := (K21.out.below hBv2 K21.out.lt).cell 3; have fr3 : v2.frozen? ⟨w.heap.size + 1 + 1, 3, none⟩ = false := (K21.out.below hBv2 K21.out.lt).free 3; have cr4 : v2.cell? ⟨w.heap.size + 1 + 1, 4, none⟩ = some (.slice none 0 0) := (K21.out.below hBv2 K21.out.lt).cell 4; have fr4 : v2.frozen? ⟨w.heap.size + 1 + 1, 4, none⟩ = false := (K21.out.below hBv2 K21.out.lt).free 4; have fin : (((((v2.setCell ⟨w.heap.size + 1 + 1, 0, none⟩ (.slice hu.A0 (staF L (stepF L (wdF L s) t)).f0.length hu.c0)).setCell ⟨w.heap.size + 1 + 1, 1, none⟩ (.slice hu.A1 (staF L (stepF L (wdF L s) t)).f1.length hu.c1)).setCell ⟨w.heap.size + 1 + 1, 2, none⟩ (.slice hu.A2 (staF L (stepF L (wdF L s) t)).f2.length hu.c2)).setCell ⟨w.heap.size + 1 + 1, 3, none⟩ (.slice hu.A3 (staF L (stepF L (wdF L s) t)).f3.length hu.c3)).setCell ⟨w.heap.size + 1 + 1, 4, none⟩ (.slice hu.A4 (staF L (stepF L (wdF L s) t)).f4.length hu.c4)).cell? ⟨w.heap.size, 0, none⟩ = some (.slice h.A L.length h.c) ∧ (((((v2.setCell ⟨w.heap.size + 1 + 1, 0, none⟩ (.slice hu.A0 (staF L (stepF L (wdF L s) t)).f0.length hu.c0)).setCell ⟨w.heap.size + 1 + 1, 1, none⟩ (.slice hu.A1 (staF L (stepF L (wdF L s) t)).f1.length hu.c1)).setCell ⟨w.heap.size + 1 + 1, 2, none⟩ (.slice hu.A2 (staF L (stepF L (wdF L s) t)).f2.length hu.c2)).setCell ⟨w.heap.size + 1 + 1, 3, none⟩ (.slice hu.A3 (staF L (stepF L (wdF L s) t)).f3.length hu.c3)).setCell ⟨w.heap.size + 1 + 1, 4, none⟩ (.slice hu.A4 (staF L (stepF L (wdF L s) t)).f4.length hu.c4)).cell? ⟨w.heap.size + 1, 0, none⟩ = some (.slice k.A0 s.f0.length k.c0) ∧ (((((v2.setCell ⟨w.heap.size + 1 + 1, 0, none⟩ (.slice hu.A0 (staF L (stepF L (wdF L s) t)).f0.length hu.c0)).setCell ⟨w.heap.size + 1 + 1, 1, none⟩ (.slice hu.A1 (staF L (stepF L (wdF L s) t)).f1.length hu.c1)).setCell ⟨w.heap.size + 1 + 1, 2, none⟩ (.slice hu.A2 (staF L (stepF L (wdF L s) t)).f2.length hu.c2)).setCell ⟨w.heap.size + 1 + 1, 3, none⟩ (.slice hu.A3 (staF L (stepF L (wdF L s) t)).f3.length hu.c3)).setCell ⟨w.heap.size + 1 + 1, 4, none⟩ (.slice hu.A4 (staF L (stepF L (wdF L s) t)).f4.length hu.c4)).cell? ⟨w.heap.size + 1, 1, none⟩ = some (.slice k.A1 s.f1.length k.c1) ∧ (((((v2.setCell ⟨w.heap.size + 1 + 1, 0, none⟩ (.slice hu.A0 (staF L (stepF L (wdF L s) t)).f0.length hu.c0)).setCell ⟨w.heap.size + 1 + 1, 1, none⟩ (.slice hu.A1 (staF L (stepF L (wdF L s) t)).f1.length hu.c1)).setCell ⟨w.heap.size + 1 + 1, 2, none⟩ (.slice hu.A2 (staF L (stepF L (wdF L s) t)).f2.length hu.c2)).setCell ⟨w.heap.size + 1 + 1, 3, none⟩ (.slice hu.A3 (staF L (stepF L (wdF L s) t)).f3.length hu.c3)).setCell ⟨w.heap.size + 1 + 1, 4, none⟩ (.slice hu.A4 (staF L (stepF L (wdF L s) t)).f4.length hu.c4)).cell? ⟨w.heap.size + 1, 2, none⟩ = some (.slice k.A2 s.f2.length k.c2) ∧ (((((v2.setCell ⟨w.heap.size + 1 + 1, 0, none⟩ (.slice hu.A0 (staF L (stepF L (wdF L s) t)).f0.length hu.c0)).setCell ⟨w.heap.size + 1 + 1, 1, none⟩ (.slice hu.A1 (staF L (stepF L (wdF L s) t)).f1.length hu.c1)).setCell ⟨w.heap.size + 1 + 1, 2, none⟩ (.slice hu.A2 (staF L (stepF L (wdF L s) t)).f2.length hu.c2)).setCell ⟨w.heap.size + 1 + 1, 3, none⟩ (.slice hu.A3 (staF L (stepF L (wdF L s) t)).f3.length hu.c3)).setCell ⟨w.heap.size + 1 + 1, 4, none⟩ (.slice hu.A4 (staF L (stepF L (wdF L s) t)).f4.length hu.c4)).cell? ⟨w.heap.size + 1, 3, none⟩ = some (.slice k.A3 s.f3.length k.c3) ∧ (((((v2.setCell ⟨w.heap.size + 1 + 1, 0, none⟩ (.slice hu.A0 (staF L (stepF L (wdF L s) t)).f0.length hu.c0)).setCell ⟨w.heap.size + 1 + 1, 1, none⟩ (.slice hu.A1 (staF L (stepF L (wdF L s) t)).f1.length hu.c1)).setCell ⟨w.heap.size + 1 + 1, 2, none⟩ (.slice hu.A2 (staF L (stepF L (wdF L s) t)).f2.length hu.c2)).setCell ⟨w.heap.size + 1 + 1, 3, none⟩ (.slice hu.A3 (staF L (stepF L (wdF L s) t)).f3.length hu.c3)).setCell ⟨w.heap.size + 1 + 1, 4, none⟩ (.slice hu.A4 (staF L (stepF L (wdF L s) t)).f4.length hu.c4)).cell? ⟨w.heap.size + 1, 4, none⟩ = some (.slice k.A4 s.f4.length k.c4) := ⟨((((((K01.out.below hBv2 K01.out.lt).far (p := ⟨w.heap.size + 1 + 1, 0, none⟩) (show w.heap.size ≠ w.heap.size + 1 + 1 by omega) _).far (p := ⟨w.heap.size + 1 + 1, 1, none⟩) (show w.heap.size ≠ w.heap.size + 1 + 1 by omega) _).far (p := ⟨w.heap.size + 1 + 1, 2, none⟩) (show w.heap.size ≠ w.heap.size + 1 + 1 by omega) _).far (p := ⟨w.heap.size + 1 + 1, 3, none⟩) (show w.heap.size ≠ w.heap.size + 1 + 1 by omega) _).far (p := ⟨w.heap.size + 1 + 1, 4, none⟩) (show w.heap.size ≠ w.heap.size + 1 + 1 by omega) _).cell 0, ((((((K11.out.below hBv2 K11.out.lt).far (p := ⟨w.heap.size + 1 + 1, 0, none⟩) (show w.heap.size + 1 ≠ w.heap.size + 1 + 1 by omega) _).far (p := ⟨w.heap.size + 1 + 1, 1, none⟩) (show w.heap.size + 1 ≠ w.heap.size + 1 + 1 by omega) _).far (p := ⟨w.heap.size + 1 + 1, 2, none⟩) (show w.heap.size + 1 ≠ w.heap.size + 1 + 1 by omega) _).far (p := ⟨w.heap.size + 1 + 1, 3, none⟩) (show w.heap.size + 1 ≠ w.heap.size + 1 + 1 by omega) _).far (p := ⟨w.heap.size + 1 + 1, 4, none⟩) (show w.heap.size + 1 ≠ w.heap.size + 1 + 1 by omega) _).cell 0, ((((((K11.out.below hBv2 K11.out.lt).far (p := ⟨w.heap.size + 1 + 1, 0, none⟩) (show w.heap.size + 1 ≠ w.heap.size + 1 + 1 by omega) _).far (p := ⟨w.heap.size + 1 + 1, 1, none⟩) (show w.heap.size + 1 ≠ w.heap.size + 1 + 1 by omega) _).far (p := ⟨w.heap.size + 1 + 1, 2, none⟩) (show w.heap.size + 1 ≠ w.heap.size + 1 + 1 by omega) _).far (p := ⟨w.heap.size + 1 + 1, 3, none⟩) (show w.heap.size + 1 ≠ w.heap.size + 1 + 1 by omega) _).far (p := ⟨w.heap.size + 1 + 1, 4, none⟩) (show w.heap.size + 1 ≠ w.heap.size + 1 + 1 by omega) _).cell 1, ((((((K11.out.below hBv2 K11.out.lt).far (p := ⟨w.heap.size + 1 + 1, 0, none⟩) (show w.heap.size + 1 ≠ w.heap.size + 1 + 1 by omega) _).far (p := ⟨w.heap.size + 1 + 1, 1, none⟩) (show w.heap.size + 1 ≠ w.heap.size + 1 + 1 by omega) _).far (p := ⟨w.heap.size + 1 + 1, 2, none⟩) (show w.heap.size + 1 ≠ w.heap.size + 1 + 1 by omega) _).far (p := ⟨w.heap.size + 1 + 1, 3, none⟩) (show w.heap.size + 1 ≠ w.heap.size + 1 + 1 by omega) _).far (p := ⟨w.heap.size + 1 + 1, 4, none⟩) (show w.heap.size + 1 ≠ w.heap.size + 1 + 1 by omega) _).cell 2, ((((((K11.out.below hBv2 K11.out.lt).far (p := ⟨w.heap.size + 1 + 1, 0, none⟩) (show w.heap.size + 1 ≠ w.heap.size + 1 + 1 by omega) _).far (p := ⟨w.heap.size + 1 + 1, 1, none⟩) (show w.heap.size + 1 ≠ w.heap.size + 1 + 1 by omega) _).far (p := ⟨w.heap.size + 1 + 1, 2, none⟩) (show w.heap.size + 1 ≠ w.heap.size + 1 + 1 by omega) _).far (p := ⟨w.heap.size + 1 + 1, 3, none⟩) (show w.heap.size + 1 ≠ w.heap.size + 1 + 1 by omega) _).far (p := ⟨w.heap.size + 1 + 1, 4, none⟩) (show w.heap.size + 1 ≠ w.heap.size + 1 + 1 by omega) _).cell 3, ((((((K11.out.below hBv2 K11.out.lt).far (p := ⟨w.heap.size + 1 + 1, 0, none⟩) (show w.heap.size + 1 ≠ w.heap.size + 1 + 1 by omega) _).far (p := ⟨w.heap.size + 1 + 1, 1, none⟩) (show w.heap.size + 1 ≠ w.heap.size + 1 + 1 by omega) _).far (p := ⟨w.heap.size + 1 + 1, 2, none⟩) (show w.heap.size + 1 ≠ w.heap.size + 1 + 1 by omega) _).far (p := ⟨w.heap.size + 1 + 1, 3, none⟩) (show w.heap.size + 1 ≠ w.heap.size + 1 + 1 by omega) _).far (p := ⟨w.heap.size + 1 + 1, 4, none⟩) (show w.heap.size + 1 ≠ w.heap.size + 1 + 1 by omega) _).cell 4⟩; have Fin := Lib.hid fin; clear fin; clear hv hlt ov))
  clear Fin AllS
  clear cr0 fr0 cr1 fr1 cr2 fr2 cr3 fr3 cr4 fr4
  have kF : Bk (((((v2.setCell ⟨w.heap.size + 1 + 1, 0, none⟩ (.slice hu.A0 (staF L (stepF L (wdF L s) t)).f0.length hu.c0)).setCell ⟨w.heap.size + 1 + 1, 1, none⟩ (.slice hu.A1 (staF L (stepF L (wdF L s) t)).f1.length hu.c1)).setCell ⟨w.heap.size + 1 + 1, 2, none⟩ (.slice hu.A2 (staF L (stepF L (wdF L s) t)).f2.length hu.c2)).setCell ⟨w.heap.size + 1 + 1, 3, none⟩ (.slice hu.A3 (staF L (stepF L (wdF L s) t)).f3.length hu.c3)).setCell ⟨w.heap.size + 1 + 1, 4, none⟩ (.slice hu.A4 (staF L (stepF L (wdF L s) t)).f4.length hu.c4)) (w.heap.size + 1 + 1) 30 #[.slice hu.A0 (staF L (stepF L (wdF L s) t)).f0.length hu.c0, .slice hu.A1 (staF L (stepF L (wdF L s) t)).f1.length hu.c1, .slice hu.A2 (staF L (stepF L (wdF L s) t)).f2.length hu.c2, .slice hu.A3 (staF L (stepF L (wdF L s) t)).f3.length hu.c3, .slice hu.A4 (staF L (stepF L (wdF L s) t)).f4.length hu.c4] := by
    have a0 := (K21.out.below hBv2 K21.out.lt)
    have a1 := a0.set 0 (.slice hu.A0 (staF L (stepF L (wdF L s) t)).f0.length hu.c0)
    have a2 := a1.set 1 (.slice hu.A1 (staF L (stepF L (wdF L s) t)).f1.length hu.c1)
    have a3 := a2.set 2 (.slice hu.A2 (staF L (stepF L (wdF L s) t)).f2.length hu.c2)
    have a4 := a3.set 3 (.slice hu.A3 (staF L (stepF L (wdF L s) t)).f3.length hu.c3)
    have a5 := a4.set 4 (.slice hu.A4 (staF L (stepF L (wdF L s) t)).f4.length hu.c4)
    simpa using a5
  have bF : Below w.heap.size w (((((v2.setCell ⟨w.heap.size + 1 + 1, 0, none⟩ (.slice hu.A0 (staF L (stepF L (wdF L s) t)).f0.length hu.c0)).setCell ⟨w.heap.size + 1 + 1, 1, none⟩ (.slice hu.A1 (staF L (stepF L (wdF L s) t)).f1.length hu.c1)).setCell ⟨w.heap.size + 1 + 1, 2, none⟩ (.slice hu.A2 (staF L (stepF L (wdF L s) t)).f2.length hu.c2)).setCell ⟨w.heap.size + 1 + 1, 3, none⟩ (.slice hu.A3 (staF L (stepF L (wdF L s) t)).f3.length hu.c3)).setCell ⟨w.heap.size + 1 + 1, 4, none⟩ (.slice hu.A4 (staF L (stepF L (wdF L s) t)).f4.length hu.c4)) := ((((((B1.out.trans (hBv2.mono (by omega))).setCell (p := ⟨w.heap.size + 1 + 1, 0, none⟩) (show w.heap.size ≤ w.heap.size + 1 + 1 by omega) _).setCell (p := ⟨w.heap.size + 1 + 1, 1, none⟩) (show w.heap.size ≤ w.heap.size + 1 + 1 by omega) _).setCell (p := ⟨w.heap.size + 1 + 1, 2, none⟩) (show w.heap.size ≤ w.heap.size + 1 + 1 by omega) _).setCell (p := ⟨w.heap.size + 1 + 1, 3, none⟩) (show w.heap.size ≤ w.heap.size + 1 + 1 by omega) _).setCell (p := ⟨w.heap.size + 1 + 1, 4, none⟩) (show w.heap.size ≤ w.heap.size + 1 + 1 by omega) _)
  have nF : ∀ q, w.heap.size + 1 + 1 < q → (((((v2.setCell ⟨w.heap.size + 1 + 1, 0, none⟩ (.slice hu.A0 (staF L (stepF L (wdF L s) t)).f0.length hu.c0)).setCell ⟨w.heap.size + 1 + 1, 1, none⟩ (.slice hu.A1 (staF L (stepF L (wdF L s) t)).f1.length hu.c1)).setCell ⟨w.heap.size + 1 + 1, 2, none⟩ (.slice hu.A2 (staF L (stepF L (wdF L s) t)).f2.length hu.c2)).setCell ⟨w.heap.size + 1 + 1, 3, none⟩ (.slice hu.A3 (staF L (stepF L (wdF L s) t)).f3.length hu.c3)).setCell ⟨w.heap.size + 1 + 1, 4, none⟩ (.slice hu.A4 (staF L (stepF L (wdF L s) t)).f4.length hu.c4)).heap[q]? = v2.heap[q]? := fun q hq => (Below.heap_setCell _ _ _ q (by show q ≠ w.heap.size + 1 + 1; omega)).trans ((Below.heap_setCell _ _ _ q (by show q ≠ w.heap.size + 1 + 1; omega)).trans ((Below.heap_setCell _ _ _ q (by show q ≠ w.heap.size + 1 + 1; omega)).trans ((Below.heap_setCell _ _ _ q (by show q ≠ w.heap.size + 1 + 1; omega)).trans (Below.heap_setCell _ _ _ q (by show q ≠ w.heap.size + 1 + 1; omega)))))
  have zF : v2.heap.size ≤ (((((v2.setCell ⟨w.heap.size + 1 + 1, 0, none⟩ (.slice hu.A0 (staF L (stepF L (wdF L s) t)).f0.length hu.c0)).setCell ⟨w.heap.size + 1 + 1, 1, none⟩ (.slice hu.A1 (staF L (stepF L (wdF L s) t)).f1.length hu.c1)).setCell ⟨w.heap.size + 1 + 1, 2, none⟩ (.slice hu.A2 (staF L (stepF L (wdF L s) t)).f2.length hu.c2)).setCell ⟨w.heap.size + 1 + 1, 3, none⟩ (.slice hu.A3 (staF L (stepF L (wdF L s) t)).f3.length hu.c3)).setCell ⟨w.heap.size + 1 + 1, 4, none⟩ (.slice hu.A4 (staF L (stepF L (wdF L s) t)).f4.length hu.c4)).heap.size := by simp
  have HF := Lib.hid kF
  have BF := Lib.hid bF
  have NF := Lib.hid nF
  obtain ⟨F, hF⟩ : ∃ F, F = (((((v2.setCell ⟨w.heap.size + 1 + 1, 0, none⟩ (.slice hu.A0 (staF L (stepF L (wdF L s) t)).f0.length hu.c0)).setCell ⟨w.heap.size + 1 + 1, 1, none⟩ (.slice hu.A1 (staF L (stepF L (wdF L s) t)).f1.length hu.c1)).setCell ⟨w.heap.size + 1 + 1, 2, none⟩ (.slice hu.A2 (staF L (stepF L (wdF L s) t)).f2.length hu.c2)).setCell ⟨w.heap.size + 1 + 1, 3, none⟩ (.slice hu.A3 (staF L (stepF L (wdF L s) t)).f3.length hu.c3)).setCell ⟨w.heap.size + 1 + 1, 4, none⟩ (.slice hu.A4 (staF L (stepF L (wdF L s) t)).f4.length hu.c4)) := ⟨_, rfl⟩
  rw [← hF] at HF BF NF zF
  rw [← hF]
  clear kF bF nF hF
  have c0 := HF.out.cell 0
  have c1 := HF.out.cell 1
  have c2 := HF.out.cell 2
  have c3 := HF.out.cell 3
  have c4 := HF.out.cell 4
  simp only [List.getElem?_toArray, List.getElem?_cons_zero, List.getElem?_cons_succ] at c0 c1 c2 c3 c4
  go_wp2
  refine bodyPost_ret (v := .tuple #[.agg #[.slice hu.A0 (staF L (stepF L (wdF L s) t)).f0.length hu.c0, .slice hu.A1 (staF L (stepF L (wdF L s) t)).f1.length hu.c1, .slice hu.A2 (staF L (stepF L (wdF L s) t)).f2.length hu.c2, .slice hu.A3 (staF L (stepF L (wdF L s) t)).f3.length hu.c3, .slice hu.A4 (staF L (stepF L (wdF L s) t)).f4.length hu.c4], .bool true]) (by simp [results, Try.results20, c0, c1, c2, c3, c4, go_sem]) rfl ?_
  exact ⟨hu, rfl, BF.out, by omega, Ov.out.keep (by omega) zF fun q h1 h2 => NF.out q (by omega)⟩
end Go.Proofs.Ytmnpndmjheippaa
