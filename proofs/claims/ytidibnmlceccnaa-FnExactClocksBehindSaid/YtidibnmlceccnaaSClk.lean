/-
  What the reference model's ClocksOf comes to.
-/
import Derived.Test.YtidibnmlceccnaaSStp
import Derived.Test.YtidibnmlceccnaaSEvs
import Derived.Deep.RegionLaw
import Derived.Deep.RegionHeldLaw
namespace Go.Proofs.Ytidibnmlceccnaa
open Go.RowKit Pl Go.BigFrame
set_option maxHeartbeats 8000000
set_option maxRecDepth 100000
set_option linter.unusedVariables false

theorem step_any (z : WkH) (lo n : Nat) (S : Nat → Ck) (D : Nat → Nat) (x : Evt) (w : World) (hW0 : Wk w lo w.heap.size n S D z) (hlo : lo ≤ w.heap.size) (hn : n ≤ 3) (h0 : 0 ≤ x.t) (ht : x.t < (n : Int)) (hok : x.x.okb = true) (hS : ∀ p q, S p q < 128) :
    Calls Try.prog 100 #[.pointer (some ⟨z.zb, 0, none⟩), Ev x.t x.i x.x.k x.x.a x.x.b x.x.c x.x.s] w (Stp w lo n S z x) := by
  have hm := met_cases hok
  obtain ⟨t, ti, q, a, bb, cc, ss⟩ := x
  have h0 : 0 ≤ t := h0
  have ht : t < (n : Int) := ht
  obtain ⟨tn, rfl⟩ : ∃ m : Nat, t = (m : Int) := ⟨t.toNat, by omega⟩
  have htn : tn < n := by omega
  unfold chE loE at hm
  simp only at hm
  rcases hm with ⟨hk, han, -, hc, -, ha0⟩ | ⟨hk, hcn, hc0, -, -⟩ | ⟨h6, h7, h8, h9, hc, -, -⟩
  · obtain ⟨an, rfl⟩ : ∃ m : Nat, a = (m : Int) := ⟨a.toNat, by omega⟩
    have han : an < 2 := by simpa using han
    rcases hk with rfl | rfl
    · exact step_lock z lo n S D tn ti bb cc ss w hW0 hlo hn htn hS an han hc
    · exact step_free z lo n S D tn ti bb cc ss w hW0 hlo hn htn hS an han hc
  · have h6 : ¬ q = 6 := by omega
    have h7 : ¬ q = 7 := by omega
    exact step_chan z lo n S D tn ti q a bb cc ss w hW0 hlo hn htn hS h6 h7 (by simp [h6]) (by simp [h7]) (chanZ q a bb cc ss).toNat hcn (by omega)
  · exact step_none z lo n S D tn ti q a bb cc ss w hW0 hlo hn htn hS h6 h7 (by simp [h6]) (by simp [h7]) hc

theorem Try.info48 : (Try.prog.info? 48).map (fun i => (i.zero, i.size, i.bytes)) = some (some (.slice none 0 0), 1, 24) := by kernel_rfl
def headsR (n i : Nat) (G C : Nat → Nat) : List Value := (List.range i).map fun P => .slice (some ⟨G P, 0, none⟩) n (C P)
@[simp] theorem headsR_length (n i : Nat) (G C : Nat → Nat) : (headsR n i G C).length = i := by simp [headsR]
theorem headsR_at {n i P : Nat} {G C : Nat → Nat} (h : P < i) : (headsR n i G C)[P]? = some (.slice (some ⟨G P, 0, none⟩) n (C P)) := by simp [headsR, h]
theorem headsR_next (n i : Nat) (G C : Nat → Nat) (g c : Nat) : headsR n (i + 1) (setF G i g) (setF C i c) = headsR n i G C ++ [.slice (some ⟨g, 0, none⟩) n c] := by
  unfold headsR setF
  rw [List.range_succ, List.map_append]
  congr 1
  · refine List.map_congr_left fun j hj => ?_
    have := List.mem_range.1 hj
    rw [if_neg (by omega), if_neg (by omega)]
  · simp
def zS : Nat → Ck := fun _ _ => 0
/-- The tables of the last reads, one a place. -/
def Rds (w : World) (lo hi n i : Nat) (G : Nat → Nat) (SR : Nat → Nat → Ck) (DD : Nat → Nat → Nat) : Prop := ∀ P, P < i → TabC w lo hi (G P) n n (SR P) (DD P) 0
theorem own_base2 {w : World} {base n c2 : Nat} {t : TypeId} {A : Option Addr} {vs : List Value} (h : w.ownsRow base t 1 (.slice A n c2) n vs) (a : Addr) (hA : A = some a) : base ≤ a.block := by
  rcases h.2 with ⟨h0, _⟩ | ⟨g, cap, cur, hv, hb, _⟩
  · rw [hA] at h0; cases h0
  · rw [hA] at hv
    injection hv with hv
    injection hv with hv
    rw [hv]; exact hb
theorem grown_set2 (w : World) (p : Addr) (v : Value) : w.grownBy (w.setCell p v) (some p.block) := ⟨rfl, rfl, rfl, by simp, fun q _ hne => Below.heap_setCell w p v q (fun e => hne (by rw [e]))⟩
theorem TabC.base {w w' : World} {lo lo' hi hi' g m n : Nat} {S S' : Nat → Ck} {D D' : Nat → Nat} {b : Nat} (h : TabC w lo hi g m n S D 0) (hl : lo' ≤ lo) (hh : hi ≤ hi') (hk : ∀ q, lo ≤ q → q < hi → w'.heap[q]? = w.heap[q]?) (hS : ∀ i, i < m → S' (b + i) = S i) (hD : ∀ i, i < m → D' (b + i) = D i) : TabC w' lo' hi' g m n S' D' b := by
  obtain ⟨h0, h1, cs, hb, hr⟩ := h
  refine ⟨by omega, by omega, cs, (hk g h0 h1).trans hb, fun i hi2 => ?_⟩
  obtain ⟨a1, a2, hc, cr, hbr, hcr⟩ := hr i hi2
  rw [Nat.zero_add] at a1 a2 hc hbr hcr
  rw [hS i hi2, hD i hi2]
  exact ⟨by omega, by omega, hc, cr, (hk _ a1 a2).trans hbr, hcr⟩
theorem TabC.keepT {w w' : World} {lo hi hi' g m n : Nat} {S : Nat → Ck} {D : Nat → Nat} {b : Nat} (h : TabC w lo hi g m n S D b) (hh : hi ≤ hi') (hk : ∀ q cs t, lo ≤ q → q < hi → Bk w q t cs → t = 25 ∨ t = 3 → w'.heap[q]? = w.heap[q]?) : TabC w' lo hi' g m n S D b := by
  obtain ⟨h0, h1, cs, hb, hr⟩ := h
  refine ⟨h0, by omega, cs, (hk g cs _ h0 h1 hb (Or.inl rfl)).trans hb, fun i hi2 => ?_⟩
  obtain ⟨a1, a2, hc, cr, hbr, hcr⟩ := hr i hi2
  exact ⟨a1, by omega, hc, cr, (hk _ cr _ a1 a2 hbr (Or.inr rfl)).trans hbr, hcr⟩
/-- What the walk keeps of each place: the clock of its last write, and those of the last reads. -/
def Rw (w : World) (lo hi n : Nat) (SW : Nat → Ck) (SR : Nat → Nat → Ck) (z : WkH) : Prop :=
  ∃ (gW cW : Nat) (DW : Nat → Nat) (gR cR : Nat) (G C : Nat → Nat) (DD : Nat → Nat → Nat),
    z.vW = .slice (some ⟨gW, 0, none⟩) 3 cW ∧ z.vR = .slice (some ⟨gR, 0, none⟩) 3 cR ∧ TabC w lo hi gW 3 n SW DW 0 ∧
    (lo ≤ gR ∧ gR < hi ∧ ∃ cs, Bk w gR 48 cs ∧ ∀ P, P < 3 → cs[P]? = some (.slice (some ⟨G P, 0, none⟩) n (C P))) ∧ Rds w lo hi n 3 G SR DD ∧
    (∀ P Q, P < Q → Q < 3 → G P ≠ G Q) ∧ (gW ≠ z.gT ∧ gW ≠ z.gL ∧ gW ≠ z.gC) ∧ ∀ P, P < 3 → G P ≠ gW ∧ G P ≠ z.gT ∧ G P ≠ z.gL ∧ G P ≠ z.gC
theorem sbeg_any (n : Nat) (w : World) (hn1 : 1 ≤ n) (hn : n ≤ 3) :
    Calls Try.prog 99 #[.int .i64 n] w fun e w' => ∃ (z : WkH) (D : Nat → Nat), e = .returned (.pointer (some ⟨z.zb, 0, none⟩)) ∧ Below w.heap.size w w' ∧ Wk w' w.heap.size w'.heap.size n zS D z ∧ Rw w' w.heap.size w'.heap.size n zS (fun _ => zS) z := by
  have ZR := Lib.hid (fun (m : Nat) (hm : m ≤ 3) (M : Int) (hM : M = (m : Int)) (v : World) => szeros_any m n v hm hn M n hM rfl hn1)
  obtain ⟨i0, hi, iz0, iz1, iz2⟩ := info_parts Try.info48
  go_enter Try.func99, Try.ntmps99
  go_wp2_with fail
  refine (ZR.out 3 (by omega) 3 rfl w).mono ?_
  rintro e w1 ⟨gW, cW, DW, rfl, -, -, hb1, htW, hdW⟩
  have B1 := Lib.hid hb1
  have TW := Lib.hid htW
  have sW1 := hb1.size
  have gW0 := htW.1
  have gW1 := htW.2.1
  clear hb1 htW hdW
  go_wp2_with fail
  obtain ⟨W, hW⟩ : ∃ W, W = w1.alloc (.cells #[.slice none 0 0, .slice none 0 0, .slice none 0 0, .slice (some ⟨gW, 0, none⟩) 3 cW, .slice none 0 0] 128) := ⟨_, rfl⟩
  rw [← hW]
  have bW : Below w1.heap.size w1 W := by rw [hW]; go_grown
  have sW : W.heap.size = w1.heap.size + 1 := by rw [hW]; simp
  have kW : Bk W w1.heap.size 128 #[.slice none 0 0, .slice none 0 0, .slice none 0 0, .slice (some ⟨gW, 0, none⟩) 3 cW, .slice none 0 0] := by rw [hW]; exact Bk.new _ _ _
  have KW := Lib.hid kW
  have BW := Lib.hid bW
  have sWa := Nat.le_of_eq sW
  have sWb := Nat.le_of_eq sW.symm
  clear hW bW sW kW
  go_wp2_with fail
  refine (ZR.out n hn n rfl W).mono ?_
  rintro e v1 ⟨gT, cT, DT, rfl, -, -, hb2, htT, hdT⟩
  have s1 := hb2.size
  have gT0 := htT.1
  have gT1 := htT.2.1
  have BT := Lib.hid hb2
  have TT := Lib.hid htT
  have HT := Lib.hid hdT
  clear hb2 htT hdT
  go_wp2_with fail
  refine (ZR.out 2 (by omega) 2 rfl v1).mono ?_
  rintro e v2 ⟨gL, cL, DL, rfl, -, -, hb3, htL, hdL⟩
  have s2 := hb3.size
  have gL0 := htL.1
  have gL1 := htL.2.1
  have BL := Lib.hid hb3
  have TL := Lib.hid htL
  have HL := Lib.hid hdL
  clear hb3 htL hdL
  go_wp2_with fail
  refine (ZR.out 2 (by omega) 2 rfl v2).mono ?_
  rintro e v3 ⟨gC, cC, DC, rfl, -, -, hb4, htC, hdC⟩
  have s3 := hb4.size
  have gC0 := htC.1
  have gC1 := htC.2.1
  have BC := Lib.hid hb4
  have TC := Lib.hid htC
  have HC := Lib.hid hdC
  clear hb4 htC hdC
  have BW3 := Lib.hid (below_on (below_on BT.out BL.out) BC.out)
  have K3 := Lib.hid (KW.out.below BW3.out KW.out.lt)
  have lz := K3.out.lt
  have q0 : v3.cell? ⟨w1.heap.size, 0, none⟩ = some (.slice none 0 0) := K3.out.cell 0
  have q1 : v3.cell? ⟨w1.heap.size, 1, none⟩ = some (.slice none 0 0) := K3.out.cell 1
  have q2 : v3.cell? ⟨w1.heap.size, 2, none⟩ = some (.slice none 0 0) := K3.out.cell 2
  have f0 := K3.out.free 0
  have f1 := K3.out.free 1
  have f2 := K3.out.free 2
  obtain ⟨y, hy⟩ : ∃ y, y = ((v3.setCell ⟨w1.heap.size, 0, none⟩ (.slice (some ⟨gT, 0, none⟩) n cT)).setCell ⟨w1.heap.size, 1, none⟩ (.slice (some ⟨gL, 0, none⟩) 2 cL)).setCell ⟨w1.heap.size, 2, none⟩ (.slice (some ⟨gC, 0, none⟩) 2 cC) := ⟨_, rfl⟩
  have sy : y.heap.size = v3.heap.size := by rw [hy]; simp
  have ky : Bk y w1.heap.size 128 #[.slice (some ⟨gT, 0, none⟩) n cT, .slice (some ⟨gL, 0, none⟩) 2 cL, .slice (some ⟨gC, 0, none⟩) 2 cC, .slice (some ⟨gW, 0, none⟩) 3 cW, .slice none 0 0] := by
    rw [hy]
    have a1 := K3.out.set 0 (.slice (some ⟨gT, 0, none⟩) n cT)
    have a2 := a1.set 1 (.slice (some ⟨gL, 0, none⟩) 2 cL)
    have a3 := a2.set 2 (.slice (some ⟨gC, 0, none⟩) 2 cC)
    simpa using a3
  have fy : ∀ q, q ≠ w1.heap.size → y.heap[q]? = v3.heap[q]? := fun q hq => by
    rw [hy]
    exact (Below.heap_setCell _ _ _ q hq).trans ((Below.heap_setCell _ _ _ q hq).trans (Below.heap_setCell _ _ _ q hq))
  have by_ : Below w.heap.size w y := by
    rw [hy]
    exact (((below_on (below_on B1.out BW.out) BW3.out).setCell (p := ⟨w1.heap.size, 0, none⟩) sW1 _).setCell (p := ⟨w1.heap.size, 1, none⟩) sW1 _).setCell (p := ⟨w1.heap.size, 2, none⟩) sW1 _
  have KY := Lib.hid ky
  have FY := Lib.hid fy
  have BY := Lib.hid by_
  have HY := Lib.hid hy
  have sya := Nat.le_of_eq sy
  have syb := Nat.le_of_eq sy.symm
  clear ky fy by_ hy sy
  go_wp2_with fail
  rw [← HY.out]
  clear q0 q1 q2 f0 f1 f2 lz
  go_loopw [4] (fun j wr => ∃ (i : Nat) (A : Option Addr) (cap : Nat) (G C : Nat → Nat) (DD : Nat → Nat → Nat), i ≤ 3 ∧ j = .int .i64 i ∧ Below w.heap.size w wr ∧ y.heap.size ≤ wr.heap.size ∧ Bk wr w1.heap.size 128 #[.slice (some ⟨gT, 0, none⟩) n cT, .slice (some ⟨gL, 0, none⟩) 2 cL, .slice (some ⟨gC, 0, none⟩) 2 cC, .slice (some ⟨gW, 0, none⟩) 3 cW, .slice A i cap] ∧ (∀ q, q < y.heap.size → q ≠ w1.heap.size → wr.heap[q]? = y.heap[q]?) ∧ wr.ownsRow y.heap.size 48 1 (.slice A i cap) i (headsR n i G C) ∧ Rds wr y.heap.size wr.heap.size n i G (fun _ => zS) DD ∧ ∀ P Q, P < Q → Q < i → G P ≠ G Q) (fun j _ => 3 - (intOf j).toNat)
  case atStart => exact ⟨0, none, 0, fun _ => 0, fun _ => 0, fun _ _ => 0, by omega, rfl, BY.out, Nat.le_refl _, KY.out, fun _ _ _ => rfl, World.ownsRow_nil _ _ _ _, fun P hP => absurd hP (by omega), fun P Q _ h => absurd h (by omega)⟩
  case round =>
    obtain ⟨i, A, cap, G, C, DD, hik, rfl, hbel, hys, hbk, hfr, hown, hrds, hG⟩ := hrel
    by_cases hlt : i < 3
    · have hi3 : (i : Int) < 3 := by omega
      have HB := Lib.hid hbel
      have KB := Lib.hid hbk
      have FR := Lib.hid hfr
      have HO := Lib.hid hown
      have RD := Lib.hid hrds
      have HG := Lib.hid hG
      have c4 : wr.cell? ⟨w1.heap.size, 4, none⟩ = some (.slice A i cap) := hbk.cell 4
      have f4 := hbk.free 4
      have l4 := hbk.lt
      have NB := Lib.hid (show ∀ q, q < y.heap.size → some q ≠ (Value.slice A i cap).ownBlock from fun q hq e => by
        cases hA : A with
        | none => rw [hA] at e; simp [Value.ownBlock] at e
        | some a =>
          rw [hA] at e
          simp [Value.ownBlock] at e
          have := own_base2 hown a hA
          omega)
      have NT := Lib.hid (show ∀ q cs t, Bk wr q t cs → t = 25 ∨ t = 3 → some q ≠ (Value.slice A i cap).ownBlock from fun q cs t hb ht e => by
        obtain ⟨_, _, cu, hcu⟩ := owns_block hown (q := q) e
        unfold Bk at hb hcu
        rw [hcu] at hb
        injection hb with hb
        injection hb with _ hb
        rcases ht with ht | ht <;> (rw [ht] at hb; cases hb))
      have OB := Lib.hid (show ∀ q, some q = (Value.slice A i cap).ownBlock → q < wr.heap.size from fun q e => by
        obtain ⟨_, _, cu, hcu⟩ := owns_block hown (q := q) e
        exact Bk.lt hcu)
      have hzy : w1.heap.size < y.heap.size := by omega
      clear hbel hbk hfr hown hrds hG
      go_upto_region 6 with (fail)
      go_region_law (first | (refine step_append_lies _ rfl (.tmp 28) (.tmp 32) 126 rfl y.heap.size 48 i0 _ 1 24 Try.underlying126 hi iz0 iz1 iz2 rfl (by decide) (.slice A i cap) i (headsR n i G C) rfl (HOv.out.alloc _) ⟨_, 0, none⟩ 1 1 [.slice (some ⟨g, 0, none⟩) n cg] rfl rfl (cell1_new _ _ _) (by intro u hu; simp at hu; subst hu; rfl) (by omega) (by unfold maxLen; omega) (by omega) (by simp; omega) _ rfl ?_; intro g2 cap2 w3 hown3 hgrow3 hat3 hlt3; have hblk : ∀ q, q < v.heap.size → some q ≠ (Value.slice A i cap).ownBlock → w3.heap[q]? = v.heap[q]? := (by refine far3e ?_ hgrow3; go_grown); have hbw : Below w.heap.size w w3 := (by refine below3e (below_on HB.out HBv.out) ?_ hgrow3 (fun q hq => NB.out q (by omega)); go_grown); have hz3 := hgrow3.size; (try simp at hz3); have HBk := Lib.hid hblk; have HB3 := Lib.hid hbw; have HO3 := Lib.hid hown3; have KB3 := Lib.hid (show Bk w3 w1.heap.size 128 #[.slice (some ⟨gT, 0, none⟩) n cT, .slice (some ⟨gL, 0, none⟩) 2 cL, .slice (some ⟨gC, 0, none⟩) 2 cC, .slice (some ⟨gW, 0, none⟩) 3 cW, .slice A i cap] from (hblk w1.heap.size (by omega) (NB.out _ hzy)).trans (KB.out.below HBv.out KB.out.lt)); have hg2 : y.heap.size ≤ g2 := own_base2 hown3 ⟨g2, 0, none⟩ rfl; have cfr : w3.frozen? ⟨w1.heap.size, 4, none⟩ = false := KB3.out.free 4; have ccl : w3.cell? ⟨w1.heap.size, 4, none⟩ = some (.slice A i cap) := KB3.out.cell 4; clear hblk hbw hgrow3 hat3 hown3) | (go_simp; go_at_call 142; refine (ZR.out n hn n rfl _).mono ?_; rintro e v ⟨g, cg, D, rfl, -, -, hv, htab, hd⟩; have hBv : Below wr.heap.size wr v := below_on (by go_grown) hv; have HT' := Lib.hid (show TabC v wr.heap.size v.heap.size g n n (fun _ => fun _ => 0) D 0 from htab); have HBv := Lib.hid hBv; have zv := hBv.size; have l4v : w1.heap.size < v.heap.size := Nat.lt_of_lt_of_le l4 hBv.size; have c4v : v.cell? ⟨w1.heap.size, 4, none⟩ = some (.slice A i cap) := (hBv.cell (p := ⟨w1.heap.size, 4, none⟩) l4).trans c4; have HOv := Lib.hid (HO.out.kept (grown_of_below hBv none) (by cases A <;> simp [Value.ownBlock])); clear hv htab hd hBv))
      all_goals
        try clear hHeld
        clear cfr ccl c4v c4 f4
        obtain ⟨X, hX⟩ : ∃ X, X = w3.setCell ⟨w1.heap.size, 4, none⟩ (.slice (some ⟨g2, 0, none⟩) (i + 1) cap2) := ⟨_, rfl⟩
        rw [← hX]
        have zX : X.heap.size = w3.heap.size := by rw [hX]; simp
        have zXa := Nat.le_of_eq zX
        have zXb := Nat.le_of_eq zX.symm
        have KX := Lib.hid (show Bk X w1.heap.size 128 #[.slice (some ⟨gT, 0, none⟩) n cT, .slice (some ⟨gL, 0, none⟩) 2 cL, .slice (some ⟨gC, 0, none⟩) 2 cC, .slice (some ⟨gW, 0, none⟩) 3 cW, .slice (some ⟨g2, 0, none⟩) (i + 1) cap2] from by rw [hX]; have := KB3.out.set 4 (.slice (some ⟨g2, 0, none⟩) (i + 1) cap2); simpa using this)
        have BX := Lib.hid (show Below w.heap.size w X from by rw [hX]; exact HB3.out.setCell (p := ⟨w1.heap.size, 4, none⟩) sW1 _)
        have same := Lib.hid (show ∀ q, q < v.heap.size → q ≠ w1.heap.size → some q ≠ (Value.slice A i cap).ownBlock → X.heap[q]? = v.heap[q]? from fun q h1 h2 h3 => by rw [hX]; exact (Below.heap_setCell w3 ⟨w1.heap.size, 4, none⟩ _ q h2).trans (HBk.out q h1 h3))
        have FX := Lib.hid (show ∀ q, q < y.heap.size → q ≠ w1.heap.size → X.heap[q]? = y.heap[q]? from fun q h1 h2 => (same.out q (by omega) h2 (NB.out q h1)).trans ((HBv.out.block q (by omega)).trans (FR.out q h1 h2)))
        have OX := Lib.hid (show X.ownsRow y.heap.size 48 1 (.slice (some ⟨g2, 0, none⟩) (i + 1) cap2) (i + 1) (headsR n (i + 1) (setF G i g) (setF C i cg)) from by rw [hX, headsR_next]; exact HO3.out.kept (grown_set2 w3 ⟨w1.heap.size, 4, none⟩ (.slice (some ⟨g2, 0, none⟩) (i + 1) cap2)) (Or.inr (by simp [Value.ownBlock]; omega)))
        have RX := Lib.hid (show Rds X y.heap.size X.heap.size n (i + 1) (setF G i g) (fun _ => zS) (fun P => if P = i then D else DD P) from fun P hP => by
          unfold setF
          by_cases e : P = i
          · rw [if_pos e]
            simp only [if_pos e]
            obtain ⟨t0, t1, t2⟩ := HT'.out
            exact HT'.out.base (by omega) (by omega) (fun q h1 h2 => same.out q h2 (by omega) (fun e => by have := OB.out q e; omega)) (fun _ _ => rfl) (fun j _ => by rw [Nat.zero_add])
          · rw [if_neg e]
            simp only [if_neg e]
            exact (RD.out P (by omega)).keepT (by omega) (fun q cs t h1 h2 hb ht => (same.out q (by omega) (by omega) (NT.out q cs t hb ht)).trans (HBv.out.block q h2)))
        have GX := Lib.hid (show ∀ P Q, P < Q → Q < i + 1 → setF G i g P ≠ setF G i g Q from fun P Q h1 h2 => by
          unfold setF
          rw [if_neg (by omega)]
          by_cases e : Q = i
          · rw [if_pos e]
            have a1 := (RD.out P (by omega)).2.1
            have a2 := HT'.out.1
            omega
          · rw [if_neg e]; exact HG.out P Q h1 (by omega))
        clear hX
        go_wp2
        go_roundw
        case rel => exact ⟨i + 1, some ⟨g2, 0, none⟩, cap2, setF G i g, setF C i cg, fun P => if P = i then D else DD P, by omega, by go_num, BX.out, by omega, KX.out, FX.out, OX.out, RX.out, GX.out⟩
        case measure => simp [intOf]; omega
    · have hi3 : i = 3 := by omega
      subst hi3
      have HB := Lib.hid hbel
      have KB := Lib.hid hbk
      have FR := Lib.hid hfr
      have HO := Lib.hid hown
      have RD := Lib.hid hrds
      have HG := Lib.hid hG
      clear hbel hbk hfr hown hrds hG
      go_wp2
      go_ret
      have T1 := TT.out
      have T2 := TL.out
      have T3 := TC.out
      have T0 := TW.out
      have tlt : ∀ {u : World} {l1 h1 g m : Nat} {D : Nat → Nat}, TabC u l1 h1 g m n (fun _ => fun _ => 0) D 0 → ∀ j, j < m → l1 ≤ D j ∧ D j < h1 := fun h j hj => by
        obtain ⟨_, _, cs, _, hr⟩ := h
        have := hr j hj
        rw [Nat.zero_add] at this
        exact ⟨this.1, this.2.1⟩
      have k0 : ∀ q, q < w1.heap.size → wr.heap[q]? = w1.heap[q]? := fun q hq => (FR.out q (by omega) (by omega)).trans ((FY.out q (by omega)).trans ((BW3.out.block q (by omega)).trans (BW.out.block q hq)))
      have k1 : ∀ q, q ≠ w1.heap.size → q < v1.heap.size → wr.heap[q]? = v1.heap[q]? := fun q hq h1 => (FR.out q (by omega) hq).trans ((FY.out q hq).trans ((BC.out.block q (by omega)).trans (BL.out.block q h1)))
      have k2 : ∀ q, q ≠ w1.heap.size → q < v2.heap.size → wr.heap[q]? = v2.heap[q]? := fun q hq h1 => (FR.out q (by omega) hq).trans ((FY.out q hq).trans (BC.out.block q h1))
      have k3 : ∀ q, q ≠ w1.heap.size → q < v3.heap.size → wr.heap[q]? = v3.heap[q]? := fun q hq h1 => (FR.out q (by omega) hq).trans (FY.out q hq)
      obtain ⟨D, hD⟩ : ∃ D : Nat → Nat, D = fun p => if p < 6 then DT p else if p < 8 then DL (p - 6) else DC (p - 8) := ⟨_, rfl⟩
      have d0 : ∀ j, j < n → D (0 + j) = DT j := fun j hj => by rw [hD]; show (if 0 + j < 6 then _ else _) = _; rw [if_pos (by omega), Nat.zero_add]
      have d1 : ∀ j, j < 2 → D (6 + j) = DL j := fun j hj => by rw [hD]; show (if 6 + j < 6 then _ else _) = _; rw [if_neg (by omega), if_pos (by omega), show 6 + j - 6 = j by omega]
      have d2 : ∀ j, j < 2 → D (8 + j) = DC j := fun j hj => by rw [hD]; show (if 8 + j < 6 then _ else _) = _; rw [if_neg (by omega), if_neg (by omega), show 8 + j - 8 = j by omega]
      have incr : ∀ {D' : Nat → Nat} {m : Nat}, (∀ a b, a < b → b < m → D' a < D' b) → ∀ a b, a < m → b < m → D' a = D' b → a = b := fun h a b ha hb e => by
        rcases Nat.lt_trichotomy a b with h1 | h1 | h1
        · have := h a b h1 hb; omega
        · exact h1
        · have := h b a h1 ha; omega
      have dv : ∀ p, valid n p → (p < n ∧ D p = DT p ∧ W.heap.size ≤ D p ∧ D p < v1.heap.size) ∨ (6 ≤ p ∧ p - 6 < 2 ∧ D p = DL (p - 6) ∧ v1.heap.size ≤ D p ∧ D p < v2.heap.size) ∨ (8 ≤ p ∧ p - 8 < 2 ∧ D p = DC (p - 8) ∧ v2.heap.size ≤ D p ∧ D p < v3.heap.size) := fun p hp => by
        unfold valid at hp
        by_cases h1 : p < n
        · left
          have e := d0 p h1
          rw [Nat.zero_add] at e
          have := tlt T1 p h1
          exact ⟨h1, e, by omega, by omega⟩
        · right
          by_cases h2 : p < 8
          · left
            have e := d1 (p - 6) (by omega)
            rw [show 6 + (p - 6) = p by omega] at e
            have := tlt T2 (p - 6) (by omega)
            exact ⟨by omega, by omega, e, by omega, by omega⟩
          · right
            have e := d2 (p - 8) (by omega)
            rw [show 8 + (p - 8) = p by omega] at e
            have := tlt T3 (p - 8) (by omega)
            exact ⟨by omega, by omega, e, by omega, by omega⟩
      obtain ⟨gR, cR, hA, hgR, hgl⟩ := HO.out.form (by omega)
      injection hA with hA1 hA2 hA3
      subst hA1
      subst hA3
      obtain ⟨gx, cs, hAx, -, -, hbR, hxR⟩ := own_vs HO.out rfl (by rw [headsR_length]; omega)
      injection hAx with hAx
      injection hAx with hAx
      subst hAx
      refine ⟨⟨w1.heap.size, gT, gL, gC, cT, cL, cC, .slice (some ⟨gW, 0, none⟩) 3 cW, .slice (some ⟨gR, 0, none⟩) 3 cap⟩, D, rfl, HB.out, ⟨KB.out, ⟨sW1, by show w1.heap.size < _; omega⟩, ?_, ?_, ?_, ?_, ?_⟩, ?_⟩
      · exact T1.base (by omega) (by omega) (fun q h1 h2 => k1 q (by omega) h2) (fun _ _ => rfl) d0
      · exact T2.base (by omega) (by omega) (fun q h1 h2 => k2 q (by omega) h2) (fun _ _ => rfl) d1
      · exact T3.base (by omega) (by omega) (fun q h1 h2 => k3 q (by omega) h2) (fun _ _ => rfl) d2
      · show gT ≠ gL ∧ gT ≠ gC ∧ gL ≠ gC
        omega
      · intro p q hp hq e
        rcases dv p hp with ⟨a1, a2, a3, a4⟩ | ⟨a0, a1, a2, a3, a4⟩ | ⟨a0, a1, a2, a3, a4⟩ <;> rcases dv q hq with ⟨b1, b2, b3, b4⟩ | ⟨b0, b1, b2, b3, b4⟩ | ⟨b0, b1, b2, b3, b4⟩
        · exact incr HT.out p q a1 b1 (by omega)
        · omega
        · omega
        · omega
        · have := incr HL.out (p - 6) (q - 6) a1 b1 (by omega); omega
        · omega
        · omega
        · omega
        · have := incr HC.out (p - 8) (q - 8) a1 b1 (by omega); omega
      · refine ⟨gW, cW, DW, gR, cap, G, C, DD, rfl, rfl, T0.base (by omega) (by omega) (fun q h1 h2 => k0 q h2) (fun _ _ => rfl) (fun j _ => by rw [Nat.zero_add]), ⟨by omega, hgl, cs, hbR, fun P hP => hxR P _ (headsR_at hP)⟩, fun P hP => (RD.out P hP).base (by omega) (Nat.le_refl _) (fun _ _ _ => rfl) (fun j _ => by rw [Nat.zero_add]) (fun j _ => by rw [Nat.zero_add]), HG.out, ?_, fun P hP => ?_⟩
        · show gW ≠ gT ∧ gW ≠ gL ∧ gW ≠ gC
          omega
        · have := (RD.out P hP).1
          show G P ≠ gW ∧ G P ≠ gT ∧ G P ≠ gL ∧ G P ≠ gC
          omega
end Go.Proofs.Ytidibnmlceccnaa
namespace Go.Proofs.Ytidibnmlceccnaa
open Go.RowKit Pl Go.BigFrame
set_option maxHeartbeats 8000000
set_option maxRecDepth 100000
set_option linter.unusedVariables false

theorem own_same {w w' : World} {base g n cap s : Nat} {t : TypeId} {vs : List Value} (h : w.ownsRow base t s (.slice (some ⟨g, 0, none⟩) n cap) n vs) (hk : w'.heap[g]? = w.heap[g]?) : w'.ownsRow base t s (.slice (some ⟨g, 0, none⟩) n cap) n vs := by
  refine ⟨h.1, ?_⟩
  rcases h.2 with ⟨h0, _⟩ | ⟨g', cap', cur, hv, hb, hh, r⟩
  · cases h0
  · injection hv with hv h2 h3
    injection hv with hv
    injection hv with hv
    subst hv h3
    exact Or.inr ⟨g, cap, cur, rfl, hb, hk.trans hh, r⟩
theorem TabC.but {w w' : World} {lo hi hi' g g' m n : Nat} {S : Nat → Ck} {D : Nat → Nat} {b : Nat} {cs' : Array Value} (h : TabC w lo hi g m n S D b) (hh : hi ≤ hi') (hne : g ≠ g') (hb' : Bk w g' 25 cs') (hk : ∀ q, q < hi → q ≠ g' → w'.heap[q]? = w.heap[q]?) : TabC w' lo hi' g m n S D b := by
  obtain ⟨h0, h1, cs, hb, hr⟩ := h
  refine ⟨h0, by omega, cs, (hk g h1 hne).trans hb, fun i hi2 => ?_⟩
  obtain ⟨a1, a2, hc, cr, hbr, hcr⟩ := hr i hi2
  refine ⟨a1, by omega, hc, cr, (hk _ a2 (fun e => ?_)).trans hbr, hcr⟩
  rw [e] at hbr
  unfold Bk at hbr hb'
  rw [hb'] at hbr
  injection hbr with hbr
  injection hbr with _ hbr
  cases hbr
theorem Wk.but {w w' : World} {lo hi hi' n g' : Nat} {S : Nat → Ck} {D : Nat → Nat} {z : WkH} {cs' : Array Value} (h : Wk w lo hi n S D z) (hh : hi ≤ hi') (hT : z.gT ≠ g') (hL : z.gL ≠ g') (hC : z.gC ≠ g') (hb' : Bk w g' 25 cs') (hk : ∀ q, q < hi → q ≠ g' → w'.heap[q]? = w.heap[q]?) : Wk w' lo hi' n S D z := by
  have hz : z.zb ≠ g' := fun e => by
    have h1 := h.bx
    rw [e] at h1
    unfold Bk at h1 hb'
    rw [hb'] at h1
    injection h1 with h1
    injection h1 with _ h1
    cases h1
  exact ⟨(hk _ h.b0.2 hz).trans h.bx, ⟨h.b0.1, by have := h.b0.2; omega⟩, h.tT.but hh hT hb' hk, h.tL.but hh hL hb' hk, h.tC.but hh hC hb' hk, h.ne, h.inj⟩
theorem row_next2 {w1 w4 : World} {base g cap hi g1 : Nat} {D : Nat → Nat} {Ls : List (List Int)} {x : List Int} {cs : Array Value} {o : Obj} {vs : List Value} {m : Nat} (hrows : RowsI w1 base hi Ls D) (hhi : hi ≤ g1) (hlo : base ≤ hi)
    (own : w1.ownsRow base 25 1 (.slice (some ⟨g, 0, none⟩) m cap) m vs) (hb : Bk w1 g1 3 cs) (hc : ∀ (a : Nat) (v : Value), (ints x)[a]? = some v → cs[a]? = some v)
    (grow4 : (w1.alloc o).grownBy w4 (Value.slice (some ⟨g, 0, none⟩) m cap).ownBlock) :
    RowsI w4 base w4.heap.size (Ls ++ [x]) (setF D Ls.length g1) ∧ w1.heap.size ≤ w4.heap.size ∧ (∀ q, q < w1.heap.size → q ≠ g → w4.heap[q]? = w1.heap[q]?) ∧ ∀ (w : World) (lo : Nat), lo ≤ g → lo ≤ w1.heap.size → Below lo w w1 → Below lo w w4 := by
  obtain ⟨g0, g1', cu, hcu⟩ := owns_block own (q := g) rfl
  have hl1 := hb.lt
  have hz4 : w1.heap.size + 1 ≤ w4.heap.size := by have := grow4.size; simpa using this
  have h4 : ∀ z, z < w1.heap.size → z ≠ g → w4.heap[z]? = w1.heap[z]? := fun z hz hne => (grow4.block z (by simp; omega) (fun e => hne (by injection e))).trans (Below.heap_alloc _ o z hz)
  have hne : ∀ z cz, Bk w1 z 3 cz → z ≠ g := fun z cz hz e => by
    subst e
    unfold Bk at hz hcu
    rw [hcu] at hz
    injection hz with hz
    injection hz with _ hz
    cases hz
  refine ⟨(hrows.keep (Nat.le_refl _) (Nat.le_refl _) fun z cz a b hz => h4 z (by omega) (hne z cz hz)).snoc hhi (by omega) (by omega) ((h4 g1 hl1 (hne g1 cs hb)).trans hb) hc, by omega, h4, fun w lo h1 h2 hB => ?_⟩
  exact (hB.alloc h2 o).grown grow4 (by simp; omega) (fun q hq => by cases hq; omega)
theorem now_ints {w : World} {g n : Nat} {c : Ck} (h : NowR w g n c) : ∃ cs, Bk w g 3 cs ∧ ∀ (a : Nat) (v : Value), (ints (rowC n c))[a]? = some v → cs[a]? = some v := by
  obtain ⟨cs, hb, hc⟩ := h
  refine ⟨cs, hb, fun a v hv => ?_⟩
  have hl := (List.getElem?_eq_some_iff.1 hv).1
  rw [ints_length, rowC_length] at hl
  have e : (ints (rowC n c))[a]? = some (.int .i64 (c a : Nat)) := by simp [ints, rowC, hl]
  rw [e] at hv
  injection hv with hv
  rw [← hv]; exact hc a hl
theorem sclocks_any (h : PgH) (L : Pg) (k : IsH) (xs : List Int) (w : World) (B : Nat) (hP : PgR w B h L) (hV : IsR w B k xs) (hB : B ≤ w.heap.size) (SP : PgS L) (LS : IsS xs) :
    Calls Try.prog 55 #[PgV h L, IsV k xs] w (AnsIss w (clkE L xs) (evR L xs)) := by
  obtain ⟨W, hW⟩ : ∃ W, W = w.alloc (.cells #[.slice h.A L.length h.c] 32) := ⟨_, rfl⟩
  have bW : Below w.heap.size w W := by rw [hW]; go_grown
  have KW := Lib.hid (show Bk W w.heap.size 32 #[.slice h.A L.length h.c] by rw [hW]; exact Bk.new _ _ _)
  have RW := Lib.hid (hP.below bW hB)
  have VW := Lib.hid (hV.below bW hB)
  have BW := Lib.hid bW
  have hBW : B ≤ W.heap.size := Nat.le_trans hB bW.size
  have HW := Lib.hid hW
  have F := Lib.hid (fun (hr : evR L xs = true) => ev_f (L := L) (xs := xs) hr)
  have N := Lib.hid (fun (hr : evR L xs = false) => evE_no (L := L) (xs := xs) hr)
  have hev := sevs_any h L k xs W B RW.out VW.out hBW SP LS
  unfold clkE
  generalize evE L xs = l at hev F N
  generalize evR L xs = r at hev F N
  clear hW bW hP hV
  have cP := KW.out.cell 0
  have lP := KW.out.lt
  go_enter Try.func55, Try.ntmps55
  go_wp2_with fail
  rw [← HW.out]
  go_wp2_with fail
  refine hev.mono ?_
  clear hev cP lP
  rintro e w1 ⟨⟨A, c0⟩, he, hb1, hz1, ho1⟩
  have he : e = .returned (.tuple #[.slice A l.length c0, .bool r]) := he
  subst he
  have B1 := Lib.hid (below_on BW.out hb1)
  have O1 := Lib.hid ho1
  have K1 := Lib.hid (KW.out.below hb1 KW.out.lt)
  clear hb1 ho1
  cases r with
  | false =>
    have e0 := N.out rfl
    subst e0
    go_wp2
    go_returns
    exact ⟨⟨none, 0⟩, rfl, B1.out, B1.out.size, ⟨OwnVss.nil _ _ _ _ _ _⟩⟩
  | true =>
    have FF := Lib.hid (F.out rfl)
    have h9 := FF.out.few
    have h31 := FF.out.h31
    have h32 := FF.out.h32
    clear F N
    have cP := K1.out.cell 0
    have lP := K1.out.lt
    have HB := Lib.hid (sbeg_any L.length w1 h31 h32)
    go_wp2_with fail
    refine HB.out.mono ?_
    rintro e y ⟨z, D0, rfl, hby, hwk, -⟩
    have BY := Lib.hid hby
    have s1 := B1.out.size
    have s2 := hby.size
    have WK := Lib.hid hwk
    have gT1 := hwk.tT.2.1
    have gL1 := hwk.tL.2.1
    have gC1 := hwk.tC.2.1
    obtain ⟨i1, hi1, jz0, jz1, jz2⟩ := info_parts Try.info25
    have start : Hid ((y.alloc (.cells #[] 25)).ownsRow y.heap.size 25 1 (.slice (some ⟨y.heap.size, 0, none⟩) 0 0) 0 []) := Lib.hid (World.ownsRow_made y #[] 0 (Nat.le_refl _) (by decide) (by simp))
    have WK0 := Lib.hid (hwk.below (hi' := (y.alloc (.cells #[] 25)).heap.size) ((Below.refl y.heap.size y).alloc (Nat.le_refl _) (.cells #[] 25)) (Nat.le_refl _) (by simp))
    have BY0 := Lib.hid (hby.alloc s2 (.cells #[] 25))
    clear hby hwk cP lP
    go_wp2
    go_loopw [9, 10] (fun v i wr => ∃ (k g cap : Nat) (D C Dz : Nat → Nat), k ≤ l.length ∧ i = .int .i64 k ∧ v = .slice (some ⟨g, 0, none⟩) k cap ∧ y.heap.size ≤ g ∧ y.heap.size ≤ wr.heap.size ∧ wr.ownsRow y.heap.size 25 1 (.slice (some ⟨g, 0, none⟩) k cap) k (headsC (rowsF L.length k (ckK l)) D C) ∧ RowsI wr y.heap.size wr.heap.size (rowsF L.length k (ckK l)) D ∧ Below w1.heap.size w1 wr ∧ Wk wr w1.heap.size wr.heap.size L.length (stK l k) Dz z) (fun _ i _ => l.length - (intOf i).toNat)
    case atStart => exact ⟨0, _, 0, fun _ => 0, fun _ => 0, D0, Nat.zero_le _, rfl, rfl, Nat.le_refl _, by simp, start.out, RowsI.nil _ _ _ _, BY0.out, by
      have e : stK l 0 = zS := by unfold stK; rw [List.take_zero]; rfl
      rw [e]; exact WK0.out⟩
    case round =>
      obtain ⟨k, g, cap, D, C, Dz, hk, rfl, rfl, hgg, hys, hown, hrows, hbel, hwk⟩ := hrel
      clear start WK0 BY0
      have hz := hbel.size
      by_cases hlt : k < l.length
      · have OR : EvsR w1 w1.heap.size ⟨A, c0⟩ l := O1.out.rd
        obtain ⟨hV1⟩ := OR
        have hV1 : Vs w1 w1.heap.size A (evs l) := hV1
        obtain ⟨b, off, x, rfl, hb, hx, -, hx0, hx1, hx2, hx3, hx4, hx5, hx6⟩ := (hV1.below hbel (Nat.le_refl _)).ev_ hlt
        have hi2 : (k : Int) < (l.length : Int) := by omega
        have hbw : b < wr.heap.size := by omega
        obtain ⟨ht0, htn, hok⟩ := FF.out.all x (List.mem_of_getElem? hx)
        have hsame := step_same (S := stK l k) hok (fun h7 => FF.out.lock k x hx h7)
        have hck : ckK l k = nowC (stK l k) x := by unfold ckK; rw [gE_at hx]
        have hst := stK_next hx
        have HS := Lib.hid (step_any z w1.heap.size L.length (stK l k) Dz x wr hwk hz h32 ht0 htn hok (fun p q => by have := stK_le l k p q; omega))
        have Hown := Lib.hid hown
        have Hrows := Lib.hid hrows
        have Hb := Lib.hid hbel
        have Hsame := Lib.hid hsame
        have Hck := Lib.hid hck
        have Hst := Lib.hid hst
        clear hown hrows hbel hwk hx hsame hck hst
        go_wp2_with fail
        refine HS.out.mono ?_
        rintro e v ⟨g1, c1, Dn, rfl, hg1, hN, hbv, hwv, hfr⟩
        rw [Hsame.out.1, ← Hck.out] at hN
        rw [Hsame.out.2, ← Hst.out] at hwv
        obtain ⟨cs, hbk, hcs⟩ := now_ints hN
        have sv := hbk.lt
        obtain ⟨q0, q1, cu, hcu⟩ := owns_block Hown.out (q := g) rfl
        have hgl : g < wr.heap.size := Bk.lt hcu
        have Hown1 := Lib.hid (own_same Hown.out (hfr g hgl (by omega) (by omega) (by omega)))
        have Hrows1 := Lib.hid (Hrows.out.keep (w' := v) (Nat.le_refl _) (Nat.le_refl _) fun i _ h1 h2 _ => hfr i h2 (by omega) (by omega) (by omega))
        have Hb1 := Lib.hid (Hb.out.trans hbv)
        have Hbk := Lib.hid hbk
        have Hcs := Lib.hid hcs
        have Hwv := Lib.hid hwv
        have Hcu := Lib.hid (show Bk v g 25 cu from (hfr g hgl (by omega) (by omega) (by omega)).trans hcu)
        clear hN hbv hwv hfr hbk hcs hcu HS hx0 hx1 hx2 hx3 hx4 hx5 hx6
        go_wp2_with (at_builtin; refine wpList_append_own _ rfl (.tmp 30) (.tmp 37) 48 rfl y.heap.size 25 i1 _ 1 24 Try.underlying48 hi1 jz0 jz1 jz2 rfl (by decide) _ k _ rfl (Hown1.out.alloc _) ⟨_, 0, none⟩ 1 1 [.slice (some ⟨g1, 0, none⟩) L.length c1] rfl rfl (cell1_new _ _ _) (by intro u hu; simp at hu; subst hu; rfl) (by unfold maxLen; omega) (by omega) (by simp; omega) ?_; intro v' w3 own3 grow3 _; obtain ⟨g3, cap3, rfl, hg3, hlt3⟩ := own3.form (by omega); have Own3 := Lib.hid own3; have N3 := Lib.hid (row_next2 Hrows1.out hg1 hys Hown1.out Hbk.out Hcs.out grow3); clear own3 grow3)
        have n1 := N3.out.2.1
        go_roundw
        case rel => exact ⟨k + 1, g3, cap3, setF D k g1, setF C k c1, Dn, by omega, by go_num, rfl, hg3, by omega, by
          rw [rowsF_next]
          have h1 := headsC_snoc (rowsF L.length k (ckK l)) (rowC L.length (ckK l k)) D C g1 c1
          rw [rowsF_length, rowC_length] at h1
          rw [h1]; exact Own3.out, by
          have h2 := N3.out.1
          rw [rowsF_length] at h2
          rw [rowsF_next]; exact h2, N3.out.2.2.2 w1 w1.heap.size (by omega) (by omega) Hb1.out, Hwv.out.but n1 (by omega) (by omega) (by omega) Hcu.out (fun q h1 h2 => N3.out.2.2.1 q h1 h2)⟩
        case measure => simp [intOf]; omega
      · have hkl : k = l.length := by omega
        subst hkl
        have Hown := Lib.hid hown
        have Hrows := Lib.hid hrows
        have Hb := Lib.hid (B1.out.trans (hbel.mono s1))
        clear hown hrows hbel hwk
        go_wp2
        go_returns
        exact ⟨⟨some ⟨g, 0, none⟩, cap⟩, by show _ = Ending.returned (.tuple #[.slice _ (rowsF L.length l.length (ckK l)).length cap, _]); rw [rowsF_length]; rfl, Hb.out, Hb.out.size, ⟨(rowsC_own (own_vs Hown.out rfl) Hrows.out).keep (by omega) (Nat.le_refl _) fun _ _ _ => rfl⟩⟩
end Go.Proofs.Ytidibnmlceccnaa
