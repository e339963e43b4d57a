/-
  What the reference model's EventsOf comes to, and both contracts in the form that the law's walk takes.
-/
import Derived.Test.YtidibnmlceccnaaEvts
import Derived.Test.YtidibnmlceccnaaBegin
import Derived.Deep.AppendLies
import Derived.Test.YtidibnmlceccnaaRun
import Derived.Test.YtidibnmlceccnaaSCan
import Derived.Test.YtidibnmlceccnaaSpDo
import Derived.Deep.RegionHeld3
import Derived.Deep.RegionHeldLaw
import Derived.Deep.RegionLaw
import Derived.Deep.DeepCutAuto
import Derived.Test.YtidibnmlceccnaaOpenIs
import Derived.Test.YtidibnmlceccnaaEq
import Derived.Test.YtidibnmlceccnaaMarkP
namespace Go.Proofs.Ytidibnmlceccnaa
open Go.RowKit Pl
set_option maxHeartbeats 4000000
set_option maxRecDepth 100000
set_option linter.unusedVariables false

theorem Try.info81 : (Try.prog.info? 81).map (fun i => (i.zero, i.size, i.bytes)) = some (some (.agg #[.int .i64 0, .int .i64 0, .int .i64 0, .int .i64 0, .int .i64 0, .int .i64 0, .bool false]), 7, 56) := by kernel_rfl
theorem ev_new (w : World) (e : Evt) : ∀ j u, e.cells[j]? = some u → (w.alloc (.cells #[.int .i64 e.t, .int .i64 e.i, .int .i64 e.x.k, .int .i64 e.x.a, .int .i64 e.x.b, .int .i64 e.x.c, .bool e.x.s] 81)).cell? ((⟨w.heap.size, 0, none⟩ : Addr).add j) = some u :=
  World.news_of_block (heap_alloc_new w _)
theorem ev_one (e : Evt) : ∀ u ∈ e.cells, u.oneCell' = true := by
  intro u hu
  simp [Evt.cells] at hu
  rcases hu with rfl | rfl | rfl | rfl | rfl | rfl | rfl <;> rfl
theorem own_down {w : World} {base base' n : Nat} {t : TypeId} {s : Nat} {v : Value} {vs : List Value} (h : w.ownsRow base t s v n vs) (hb : base' ≤ base) : w.ownsRow base' t s v n vs := by
  obtain ⟨h0, h1⟩ := h
  refine ⟨h0, ?_⟩
  rcases h1 with h1 | ⟨g, cap, cur, e1, e2, rest⟩
  · exact Or.inl h1
  · exact Or.inr ⟨g, cap, cur, e1, by omega, rest⟩
def evOk : Option Evts → Bool
  | none => false
  | some _ => true
/-- A list of events in memory of the call's own; none. -/
def AnsEv (w : World) (q : Option Evts) (e : Ending) (w' : World) : Prop :=
  match q with
  | none => e = .returned (.tuple #[.slice none 0 0, .bool false]) ∧ Below w.heap.size w w'
  | some l => ∃ (A : Option Addr) (c : Nat), e = .returned (.tuple #[.slice A l.length c, .bool true]) ∧ Below w.heap.size w w' ∧ w'.ownsRow w.heap.size 81 7 (.slice A l.length c) l.length (evs l)
theorem iev_any (h : PgH) (L : Pg) (A : Option Addr) (c : Nat) (xs : List Int) (w : World) (B : Nat) (hP : PgR w B h L) (hV : Vs w B A (ints xs)) (hB : B ≤ w.heap.size) (SP : PgS L) (hm : xs.length ≤ 1048576) (hL : progB L = true) (q : Option Evts) (hq : Hid (runE L (keptF L zeroF L.length) xs = q)) :
    Calls Try.prog 19 #[PgV h L, .slice A xs.length c] w (AnsEv w q) := by
  obtain ⟨h31, h32⟩ := prog_len hL
  obtain ⟨W, hW⟩ : ∃ W, W = w.alloc (.cells #[.slice h.A L.length h.c] 32) := ⟨_, rfl⟩
  have bW : Below w.heap.size w W := by rw [hW]; go_grown
  have KW := Lib.hid (show Bk W w.heap.size 32 #[.slice h.A L.length h.c] by rw [hW]; exact Bk.new _ _ _)
  have RW := Lib.hid (hP.below bW hB)
  have VW := Lib.hid (hV.below bW hB)
  have BW := Lib.hid bW
  have hBW : B ≤ W.heap.size := Nat.le_trans hB bW.size
  have HW := Lib.hid hW
  have I0 := Lib.hid (inv_beg hL)
  have HL := Lib.hid hL
  obtain ⟨i0, hi, iz0, iz1, iz2⟩ := info_parts Try.info81
  clear hW bW hP hV
  go_enter Try.func19, Try.ntmps19
  go_wp2_with fail
  rw [← HW.out]
  refine (iprog_any h.A L h.c W B RW.out hBW (PgS_L SP).l true HL).mono ?_
  rintro e w1 ⟨rfl, hb1⟩
  have B1 := Lib.hid hb1
  have K1 := Lib.hid (KW.out.below hb1 KW.out.lt)
  have R1 := Lib.hid (RW.out.below hb1 hBW)
  have z1 := hb1.size
  clear hb1
  have cb : w1.cell? ⟨w.heap.size, 0, none⟩ = some (.slice h.A L.length h.c) := K1.out.cell 0
  have l1 := K1.out.lt
  go_wp2_with fail
  clear cb
  have bv : Below w1.heap.size w1 (w1.alloc (.cells #[] 81)) := (Below.refl _ _).alloc (Nat.le_refl _) _
  refine (begword_any h L _ B (R1.out.below bv (by omega)) (by simp; omega) hL).mono ?_
  rintro e w2 ⟨rfl, hb2⟩
  have own0 : w2.ownsRow w1.heap.size 81 7 (.slice (some ⟨w1.heap.size, 0, none⟩) 0 0) 0 (evs []) := (World.ownsRow_made (base := w1.heap.size) (e := 81) (size := 7) w1 #[] 0 (Nat.le_refl _) (by decide) (by simp)).kept (grown_of_below hb2 none) (by simp [Value.ownBlock])
  have B2 := Lib.hid (below_on bv hb2)
  have OW := Lib.hid own0
  clear hb2 bv own0
  go_wp2
  go_loopw [6, 7, 18] (fun ev x i wr => ∃ (k : Nat) (f : Nat → Nat) (g cap : Nat) (acc : Evts), k ≤ xs.length ∧ i = .int .i64 k ∧ x = .int .u64 (enc WS f : Nat) ∧ ev = .slice (some ⟨g, 0, none⟩) acc.length cap ∧ acc.length = k ∧ w1.heap.size ≤ g ∧ wr.ownsRow w1.heap.size 81 7 (.slice (some ⟨g, 0, none⟩) acc.length cap) acc.length (evs acc) ∧ Below w1.heap.size w1 wr ∧ Hid (Inv L f) ∧ Hid ((runE L f (xs.drop k)).map (acc ++ ·) = q)) (fun _ _ i _ => xs.length - (intOf i).toNat)
  case atStart => exact ⟨0, keptF L zeroF L.length, w1.heap.size, 0, [], Nat.zero_le _, rfl, rfl, rfl, rfl, Nat.le_refl _, OW.out, B2.out, I0, Lib.hid (by rw [← hq.out]; simp)⟩
  case round =>
    obtain ⟨k, f, g, cap, acc, hk, rfl, rfl, rfl, hacc, hgg, hown, hbel, hI, hrest⟩ := hrel
    have HO := Lib.hid hown
    have HB := Lib.hid hbel
    have HACC := Lib.hid hacc
    have hz := hbel.size
    clear hown hbel hacc
    by_cases hlt : k < xs.length
    · obtain ⟨b, off, th, rfl, hb, hx, hd, hx0⟩ := ((VW.out.below B1.out hBW).below HB.out (by omega)).int_ hlt
      have hbox : wr.cell? ⟨w.heap.size, 0, none⟩ = some (.slice h.A L.length h.c) := (K1.out.below HB.out K1.out.lt).cell 0
      have RW' := Lib.hid (R1.out.below HB.out (by omega))
      have hbw : b < wr.heap.size := by omega
      have hwr : w.heap.size < wr.heap.size := by omega
      have hi2 : (k : Int) < (xs.length : Int) := by omega
      have Hd := Lib.hid hd
      clear hd hx
      rcases Bool.eq_false_or_eq_true (goB L f th) with hg | hg
      · obtain ⟨t, rfl, ht, hc⟩ := goB_parts hg
        have HA := Lib.hid ((able_bits hI.out (t : Int)).trans hg)
        have HC := Lib.hid hc
        have Hn : Hid ((runE L (stepF L f t) (xs.drop (k + 1))).map ((acc ++ [evZ L f t]) ++ ·) = q) := Lib.hid (by
          have := hrest.out
          rw [Hd.out] at this
          exact runE_step hg this)
        clear hg hc
        go_wp2_with fail
        refine (able_any h L f (t : Int) wr hI.out.good.ok h31 h32 true HA).mono ?_
        rintro e w3 ⟨rfl, hb3⟩
        have hbox3 : w3.cell? ⟨w.heap.size, 0, none⟩ = some (.slice h.A L.length h.c) := (hb3.cell (p := ⟨w.heap.size, 0, none⟩) hwr).trans hbox
        have hz3 := hb3.size
        have R3 := Lib.hid (RW'.out.below hb3 (by omega))
        have H3 := Lib.hid (below_on HB.out hb3)
        have O3 := Lib.hid (HO.out.kept (grown_of_below hb3 none) (by simp [Value.ownBlock]))
        clear hb3 hbox hx0
        go_wp2_with fail
        clear hbox3
        obtain ⟨x, hx⟩ : ∃ x, smAt L t (f (3 + t)) = x := ⟨_, rfl⟩
        have hne := nextev_any h L f t w3 B R3.out (by omega) hL hI.out.good ht (can_more hI.out.good ht HC.out)
        unfold evV at hne
        rw [hx] at hne
        have hez : evZ L f t = ⟨(t : Int), ((f (3 + t) : Nat) : Int), x⟩ := by unfold evZ; rw [hx]
        rw [hez] at Hn
        clear hx hez
        refine hne.mono ?_
        clear hne
        rintro e w4 ⟨rfl, hb4⟩
        have hz4 := hb4.size
        have R4 := Lib.hid (R3.out.below hb4 (by omega))
        have H4 := Lib.hid (below_on H3.out hb4)
        have O4 := Lib.hid (O3.out.kept (grown_of_below hb4 none) (by simp [Value.ownBlock]))
        clear hb4
        go_wp2_with (at_builtin; refine wpList_append_own _ rfl (.tmp 27) (.tmp 32) 27 rfl w1.heap.size 81 i0 _ 7 56 Try.underlying27 hi iz0 iz1 iz2 rfl (by decide) _ acc.length (evs acc) rfl (O4.out.alloc _) ⟨_, 0, none⟩ 1 1 (Evt.cells ⟨(t : Int), ((f (3 + t) : Nat) : Int), x⟩) rfl rfl (ev_new _ ⟨(t : Int), ((f (3 + t) : Nat) : Int), x⟩) (ev_one _) (by have := HACC.out; unfold maxLen; omega) (by have := HACC.out; omega) (by simp; omega) ?_; intro v5 w5 own5 grow5 _; obtain ⟨g5, cap5, rfl, hg5, hl5⟩ := own5.form (by omega); have O5 := Lib.hid own5; have H5 := Lib.hid ((H4.out.alloc (by omega) _).grown grow5 (by simp; omega) (by intro q0 hq0; cases hq0; exact hgg)); have hbox5 : w5.cell? ⟨w.heap.size, 0, none⟩ = some (.slice h.A L.length h.c) := (K1.out.below H5.out K1.out.lt).cell 0; clear own5 grow5)
        have z5 := H5.out.size
        refine (stepped_any h L f t w5 B (R1.out.below H5.out (by omega)) (by omega) hL hI.out.good ht HC.out hI.out.chan).mono ?_
        rintro e w6 ⟨rfl, hb6⟩
        have H6 := Lib.hid (below_on H5.out hb6)
        have O6 := Lib.hid (O5.out.kept (grown_of_below hb6 none) (by simp [Value.ownBlock]))
        clear hb6 hbox5
        go_wp2
        go_roundw
        case rel => exact ⟨k + 1, stepF L f t, g5, cap5, acc ++ [⟨(t : Int), ((f (3 + t) : Nat) : Int), x⟩], by omega, by go_num, rfl, by simp, by simp [HACC.out], hg5, by rw [List.length_append, evs_snoc]; exact O6.out, H6.out, Lib.hid (inv_step hL hI.out ht HC.out), Hn⟩
        case measure => simp [intOf]; omega
      · have HA := Lib.hid ((able_bits hI.out th).trans hg)
        have hq0 : q = none := by
          have := hrest.out
          rw [Hd.out] at this
          unfold runE at this
          rw [if_neg (by rw [hg]; simp)] at this
          exact this.symm
        subst hq0
        clear hg
        go_wp2_with fail
        refine (able_any h L f th wr hI.out.good.ok h31 h32 false HA).mono ?_
        rintro e w2' ⟨rfl, hb2⟩
        have Hb2 := Lib.hid (below_on BW.out (below_on B1.out (below_on HB.out hb2)))
        clear hb2 hbox hx0
        go_wp2
        go_returns
        exact ⟨rfl, Hb2.out⟩
    · have hq0 : q = some acc := by
        have := hrest.out
        rw [List.drop_eq_nil_of_le (by omega)] at this
        unfold runE at this
        rw [← this]; simp
      subst hq0
      have hi2 : ¬ (k : Int) < (xs.length : Int) := by omega
      go_wp2
      go_returns
      exact ⟨_, _, rfl, below_on BW.out (below_on B1.out HB.out), own_down HO.out (by omega)⟩
/-- The events of an order of a program; none, if it is none, or that is no order. -/
def evO (L : Pg) (xs : List Int) : Option Evts := if progB L then runE L (keptF L zeroF L.length) xs else none
theorem ievents_any (h : PgH) (L : Pg) (A : Option Addr) (c : Nat) (xs : List Int) (w : World) (B : Nat) (hP : PgR w B h L) (hV : Vs w B A (ints xs)) (hB : B ≤ w.heap.size) (SP : PgS L) (hm : xs.length ≤ 1048576) :
    Calls Try.prog 19 #[PgV h L, .slice A xs.length c] w (AnsEv w (evO L xs)) := by
  rcases Bool.eq_false_or_eq_true (progB L) with hp | hp
  · have e : evO L xs = runE L (keptF L zeroF L.length) xs := by unfold evO; rw [hp]; rfl
    rw [e]
    exact iev_any h L A c xs w B hP hV hB SP hm hp _ (Lib.hid rfl)
  have e : evO L xs = none := by unfold evO; rw [hp]; rfl
  rw [e]
  obtain ⟨W, hW⟩ : ∃ W, W = w.alloc (.cells #[.slice h.A L.length h.c] 32) := ⟨_, rfl⟩
  have bW : Below w.heap.size w W := by rw [hW]; go_grown
  have RW := Lib.hid (hP.below bW hB)
  have BW := Lib.hid bW
  have hBW : B ≤ W.heap.size := Nat.le_trans hB bW.size
  have HW := Lib.hid hW
  have HL := Lib.hid hp
  clear hW bW hP hV hp e
  go_enter Try.func19, Try.ntmps19
  go_wp2_with fail
  rw [← HW.out]
  refine (iprog_any h.A L h.c W B RW.out hBW (PgS_L SP).l false HL).mono ?_
  rintro e w1 ⟨rfl, hb1⟩
  have B1 := Lib.hid (below_on BW.out hb1)
  clear hb1
  go_wp2
  go_returns
  exact ⟨rfl, B1.out⟩
end Go.Proofs.Ytidibnmlceccnaa
namespace Go.Proofs.Ytidibnmlceccnaa
open Go.RowKit Pl
set_option maxHeartbeats 1000000
set_option maxRecDepth 100000
set_option linter.unusedVariables false

theorem snext_sta (h : PgH) (L : Pg) (k : StaH) (f : Nat → Nat) (t : Nat) (w : World) (B : Nat) (hP : PgR w B h L) (hS : StaR w B k (staF L f)) (hB : B ≤ w.heap.size) (hL : progB L = true) (I : Inv L f) (ht : t < L.length) :
    Calls Try.prog 110 #[PgV h L, StaV k (staF L f), .int .i64 t] w fun e w' => ∃ x : Sm, e = .returned (.tuple #[x.val, .bool (canF L f t)]) ∧ (canF L f t = true → x = smAt L t (f (3 + t))) ∧ Below w.heap.size w w' := by
  have P := stB_parts (staF_stB hL I)
  have hc : canF L f t = nxZ L (staF L f) t := (can_pk hL I ht).symm.trans (can_nx P ht)
  have hg : (staF L f).f0.getD t 0 = ((f (3 + t) : Nat) : Int) := by
    have e : fL 0 = 0 := rfl
    rw [show (staF L f).f0.getD t 0 = (f (3 + t) : Int) + fL 0 from getD_some (fldI_at ht), e, Int.add_zero]
  rw [hc]
  unfold nxZ
  rw [hg, Int.toNat_natCast]
  by_cases hd : f (3 + t) < (L.getD t []).length
  · rw [decide_eq_true (by omega), Bool.true_and]
    refine (snext_yes h L k (staF L f) t w B hP hS hB P ht (f (3 + t)) hg hd _ (Lib.hid rfl)).mono ?_
    rintro e w' ⟨rfl, hb⟩
    exact ⟨_, rfl, fun _ => rfl, hb⟩
  · rw [decide_eq_false (by omega), Bool.false_and]
    refine (snext_no h L k (staF L f) t w B hP hS hB P ht (by rw [hg]; omega)).mono ?_
    rintro e w' ⟨rfl, hb⟩
    exact ⟨_, rfl, fun h => (by cases h), hb⟩
end Go.Proofs.Ytidibnmlceccnaa
namespace Go.Proofs.Ytidibnmlceccnaa
open Go.RowKit Pl Go.BigFrame
set_option maxHeartbeats 8000000
set_option maxRecDepth 100000
set_option linter.unusedVariables false

/-- The next statement lies in a box, and whether it can be done. -/
def GotNx (L : Pg) (f : Nat → Nat) (t : Nat) (w : World) (sa sb : Value) (wx : World) : Prop :=
  ∃ (b : Nat) (x : Sm), sa = .pointer (some ⟨b, 0, none⟩) ∧ sb = .bool (canF L f t) ∧ (canF L f t = true → x = smAt L t (f (3 + t))) ∧ Below w.heap.size w wx ∧ Bk wx b 79 #[.int .i64 x.k, .int .i64 x.a, .int .i64 x.b, .int .i64 x.c, .bool x.s] ∧ w.heap.size ≤ b ∧ b < wx.heap.size
theorem far3e {wr X w3 : World} {row : Option Nat} (hb : Below wr.heap.size wr X) (hg : X.grownBy w3 row) : ∀ q, q < wr.heap.size → some q ≠ row → w3.heap[q]? = wr.heap[q]? := fun q hq hne =>
  (hg.block q (Nat.lt_of_lt_of_le hq hb.size) hne).trans (hb.block q hq)
theorem below3e {W wr X w3 : World} {row : Option Nat} (h : Below W.heap.size W wr) (hb : Below wr.heap.size wr X) (hg : X.grownBy w3 row) (hne : ∀ q, q < W.heap.size → some q ≠ row) : Below W.heap.size W w3 :=
  have h0 := h.trans (hb.mono h.size)
  ⟨hg.os.trans h0.os, hg.tape.trans h0.tape, hg.output.trans h0.output, Nat.le_trans h0.size hg.size, fun q hq => (hg.block q (Nat.lt_of_lt_of_le hq h0.size) (hne q hq)).trans (h0.block q hq)⟩
theorem own_keep {w w' : World} {base g n cap s : Nat} {t : TypeId} {vs : List Value} (h : w.ownsRow base t s (.slice (some ⟨g, 0, none⟩) n cap) n vs) (hk : w'.heap[g]? = w.heap[g]?) : w'.ownsRow base t s (.slice (some ⟨g, 0, none⟩) n cap) n vs := by
  obtain ⟨h0, h1⟩ := h
  refine ⟨h0, ?_⟩
  rcases h1 with ⟨h1, h2⟩ | ⟨g', cap', cur, e1, e2, e3, rest⟩
  · cases h1
  · refine Or.inr ⟨g', cap', cur, e1, e2, ?_, rest⟩
    injection e1 with e4
    injection e4 with e4
    injection e4 with e5
    subst e5
    exact hk.trans e3
theorem gotNx_late {L : Pg} {f : Nat → Nat} {t : Nat} {w v9 : World} {x : Sm} (hb : Below w.heap.size w v9) (hx : canF L f t = true → x = smAt L t (f (3 + t))) :
    GotNx L f t w (.pointer (some ⟨v9.heap.size, 0, none⟩)) (.bool (canF L f t)) (v9.alloc (.cells #[.int .i64 x.k, .int .i64 x.a, .int .i64 x.b, .int .i64 x.c, .bool x.s] 79)) :=
  ⟨_, x, rfl, rfl, hx, hb.alloc hb.size _, Bk.new _ _ _, hb.size, by simp⟩
theorem gotNx_early {L : Pg} {f : Nat → Nat} {t b : Nat} {w v9 : World} {x : Sm} (hb : Below w.heap.size w v9) (k : Bk v9 b 79 #[.int .i64 0, .int .i64 0, .int .i64 0, .int .i64 0, .bool false]) (hwb : w.heap.size ≤ b) (hx : canF L f t = true → x = smAt L t (f (3 + t))) :
    GotNx L f t w (.pointer (some ⟨b, 0, none⟩)) (.bool (canF L f t)) (((((v9.setCell ⟨b, 0, none⟩ (.int .i64 x.k)).setCell ⟨b, 1, none⟩ (.int .i64 x.a)).setCell ⟨b, 2, none⟩ (.int .i64 x.b)).setCell ⟨b, 3, none⟩ (.int .i64 x.c)).setCell ⟨b, 4, none⟩ (.bool x.s)) := by
  have hbl := k.lt
  have kF : Bk (((((v9.setCell ⟨b, 0, none⟩ (.int .i64 x.k)).setCell ⟨b, 1, none⟩ (.int .i64 x.a)).setCell ⟨b, 2, none⟩ (.int .i64 x.b)).setCell ⟨b, 3, none⟩ (.int .i64 x.c)).setCell ⟨b, 4, none⟩ (.bool x.s)) b 79 #[.int .i64 x.k, .int .i64 x.a, .int .i64 x.b, .int .i64 x.c, .bool x.s] := by
    have a5 := ((((k.set 0 (.int .i64 x.k)).set 1 (.int .i64 x.a)).set 2 (.int .i64 x.b)).set 3 (.int .i64 x.c)).set 4 (.bool x.s)
    simpa using a5
  exact ⟨b, x, rfl, rfl, hx, (((((hb.setCell (p := ⟨b, 0, none⟩) (show w.heap.size ≤ b from hwb) _).setCell (p := ⟨b, 1, none⟩) (show w.heap.size ≤ b from hwb) _).setCell (p := ⟨b, 2, none⟩) (show w.heap.size ≤ b from hwb) _).setCell (p := ⟨b, 3, none⟩) (show w.heap.size ≤ b from hwb) _).setCell (p := ⟨b, 4, none⟩) (show w.heap.size ≤ b from hwb) _), kF, hwb, kF.lt⟩
theorem sev_any (h : PgH) (L : Pg) (A : Option Addr) (c : Nat) (xs : List Int) (w : World) (B : Nat) (hP : PgR w B h L) (hV : Vs w B A (ints xs)) (hB : B ≤ w.heap.size) (SP : PgS L) (hm : xs.length ≤ 1048576) (hL : progB L = true) (q : Option Evts) (hq : Hid (runE L (keptF L zeroF L.length) xs = q)) :
    Calls Try.prog 66 #[PgV h L, .slice A xs.length c] w (AnsEv w q) := by
  obtain ⟨h31, h32⟩ := prog_len hL
  obtain ⟨W, hW⟩ : ∃ W, W = w.alloc (.cells #[.slice h.A L.length h.c] 32) := ⟨_, rfl⟩
  have bW : Below w.heap.size w W := by rw [hW]; go_grown
  have KW := Lib.hid (show Bk W w.heap.size 32 #[.slice h.A L.length h.c] by rw [hW]; exact Bk.new _ _ _)
  have PW := Lib.hid (hP.below bW hB)
  have VW := Lib.hid (hV.below bW hB)
  have BW := Lib.hid bW
  have hBW : B ≤ W.heap.size := Nat.le_trans hB bW.size
  have HW := Lib.hid hW
  have I0 := Lib.hid (inv_beg hL)
  have HP := Lib.hid hL
  obtain ⟨i0, hi, iz0, iz1, iz2⟩ := info_parts Try.info81
  clear hW bW hP hV
  go_enter Try.func66, Try.ntmps66
  go_wp2_with fail
  rw [← HW.out]
  refine (sbegin0_any h L W h31 h32).mono ?_
  rintro e w2 ⟨hs, rfl, hb2, hz2, oi⟩
  rw [← staF_beg L h32] at oi ⊢
  have K2 := Lib.hid (KW.out.below hb2 KW.out.lt)
  have P2 := Lib.hid (PW.out.below hb2 hBW)
  have V2 := Lib.hid (VW.out.below hb2 hBW)
  have B2 := Lib.hid (below_on BW.out hb2)
  have OI := Lib.hid oi
  have lw2 := K2.out.lt
  clear oi hb2
  go_wp2
  obtain ⟨V, hV⟩ : ∃ V, V = (w2.alloc (.cells #[.slice hs.A0 (staF L (keptF L zeroF L.length)).f0.length hs.c0, .slice hs.A1 (staF L (keptF L zeroF L.length)).f1.length hs.c1, .slice hs.A2 (staF L (keptF L zeroF L.length)).f2.length hs.c2, .slice hs.A3 (staF L (keptF L zeroF L.length)).f3.length hs.c3, .slice hs.A4 (staF L (keptF L zeroF L.length)).f4.length hs.c4] 104)).alloc (.cells #[] 81) := ⟨_, rfl⟩
  rw [← hV]
  have bV : Below w2.heap.size w2 V := by rw [hV]; go_grown
  have kV : Bk V w2.heap.size 104 #[.slice hs.A0 (staF L (keptF L zeroF L.length)).f0.length hs.c0, .slice hs.A1 (staF L (keptF L zeroF L.length)).f1.length hs.c1, .slice hs.A2 (staF L (keptF L zeroF L.length)).f2.length hs.c2, .slice hs.A3 (staF L (keptF L zeroF L.length)).f3.length hs.c3, .slice hs.A4 (staF L (keptF L zeroF L.length)).f4.length hs.c4] := by rw [hV]; exact (Bk.new _ _ _).alloc _
  have zV : V.heap.size = w2.heap.size + 1 + 1 := by rw [hV]; simp
  have OIV := OI.out.below bV (Nat.le_refl _)
  have rV : V.ownsRow w2.heap.size 81 7 (.slice (some ⟨w2.heap.size + 1, 0, none⟩) 0 0) 0 (evs []) := by
    rw [hV]; have := World.ownsRow_made (base := w2.heap.size) (e := 81) (size := 7) (w2.alloc (.cells #[.slice hs.A0 (staF L (keptF L zeroF L.length)).f0.length hs.c0, .slice hs.A1 (staF L (keptF L zeroF L.length)).f1.length hs.c1, .slice hs.A2 (staF L (keptF L zeroF L.length)).f2.length hs.c2, .slice hs.A3 (staF L (keptF L zeroF L.length)).f3.length hs.c3, .slice hs.A4 (staF L (keptF L zeroF L.length)).f4.length hs.c4] 104)) #[] 0 (by simp) (by decide) (by simp)
    rw [World.size_alloc] at this; exact this
  clear hV
  go_loopw [7, 8] (fun ev i wr => ∃ (n : Nat) (f : Nat → Nat) (hk : StaH) (lo hi g cap : Nat) (acc : Evts), n ≤ xs.length ∧ i = .int .i64 n ∧ ev = .slice (some ⟨g, 0, none⟩) acc.length cap ∧ acc.length = n ∧ Below w2.heap.size w2 wr ∧ Bk wr w2.heap.size 104 #[.slice hk.A0 (staF L f).f0.length hk.c0, .slice hk.A1 (staF L f).f1.length hk.c1, .slice hk.A2 (staF L f).f2.length hk.c2, .slice hk.A3 (staF L f).f3.length hk.c3, .slice hk.A4 (staF L f).f4.length hk.c4] ∧ StaI wr lo hi hk (staF L f) ∧ W.heap.size ≤ lo ∧ hi ≤ wr.heap.size ∧ (hi ≤ w2.heap.size ∨ w2.heap.size < lo) ∧ w2.heap.size < g ∧ (g < lo ∨ hi ≤ g) ∧ wr.ownsRow w2.heap.size 81 7 (.slice (some ⟨g, 0, none⟩) acc.length cap) acc.length (evs acc) ∧ Hid (Inv L f) ∧ Hid ((runE L f (xs.drop n)).map (acc ++ ·) = q)) (fun _ i _ => xs.length - (intOf i).toNat)
  case atStart => exact ⟨0, keptF L zeroF L.length, hs, W.heap.size, w2.heap.size, w2.heap.size + 1, 0, [], Nat.zero_le _, rfl, rfl, rfl, bV, kV, OIV, Nat.le_refl _, by omega, Or.inl (Nat.le_refl _), by omega, Or.inr (by omega), rV, I0, Lib.hid (by rw [← hq.out]; simp)⟩
  case round =>
    obtain ⟨n, f, hk, lo, hi', g, cap, acc, hn, rfl, rfl, hacc, hbel, hkS, hoi, hlo, hhi, hap, hg0, hg1, hown, hI, hrest⟩ := hrel
    have HACC := Lib.hid hacc
    have HB := Lib.hid hbel
    have KS := Lib.hid hkS
    have OS := Lib.hid hoi
    have HO := Lib.hid hown
    have hzr := hbel.size
    have KP := Lib.hid (K2.out.below hbel K2.out.lt)
    have PR := Lib.hid (P2.out.below hbel (by omega))
    have VR := Lib.hid (V2.out.below hbel (by omega))
    have l0 := KS.out.lt
    have l1 := KP.out.lt
    clear hacc hbel hkS hoi hown bV kV zV OIV rV OI
    by_cases hlt : n < xs.length
    · obtain ⟨b, off, th, rfl, hb, hx, hd, hx0⟩ := VR.out.int_ hlt
      have hbr : b < wr.heap.size := by omega
      have hi2 : (n : Int) < (xs.length : Int) := by omega
      have Hd := Lib.hid hd
      have HX0 := Lib.hid hx0
      clear hd hx
      have allS : ∀ w', Below wr.heap.size wr w' → (Below wr.heap.size wr w' ∧ w'.cell? ⟨w.heap.size, 0, none⟩ = some (.slice h.A L.length h.c) ∧ w'.cell? ⟨b, off + n, none⟩ = some (.int .i64 th)) := fun w' hb' => ⟨hb', (KP.out.below hb' KP.out.lt).cell 0, (hb'.cell (p := ⟨b, off + n, none⟩) hbr).trans HX0.out⟩
      have AllS := Lib.hid allS
      clear allS
      have c_p : wr.cell? ⟨w.heap.size, 0, none⟩ = some (.slice h.A L.length h.c) := KP.out.cell 0
      have hws : IntKind.i64.wrap ((L.length : Int) - 1) = (L.length : Int) - 1 := wrap64_small (by omega) (by omega)
      rcases Bool.eq_false_or_eq_true (inB th 0 ((L.length : Int) - 1)) with hr | hr
      rotate_left
      · have HRn := Lib.hid hr
        have hq0 : q = none := by
          have := hrest.out
          rw [Hd.out] at this
          unfold runE at this
          rw [if_neg (by unfold goB; rw [hr]; simp)] at this
          exact this.symm
        subst hq0
        clear hr
        go_upto_region 6 with (fail)
        go_region_held3 (fun w' => Below wr.heap.size wr w' ∧ w'.cell? ⟨w.heap.size, 0, none⟩ = some (.slice h.A L.length h.c) ∧ w'.cell? ⟨b, off + n, none⟩ = some (.int .i64 th)) (first | (go_split_ands; exact AllS.out _ (by go_grown)) | (exact AllS.out _ (by go_grown))) (first | (go_at_call 109; refine (l1In_b _ _ _ _ _ HRn).mono ?_; rintro e w' ⟨rfl, rfl⟩))
        go_wp2
        go_returns
        exact ⟨rfl, below_on B2.out (HB.out.drew)⟩
      · have HRn := Lib.hid hr
        obtain ⟨t, rfl⟩ := Int.eq_ofNat_of_zero_le (show 0 ≤ th by simp [inB] at hr; omega)
        have ht : t < L.length := by simp [inB] at hr; omega
        have hgc : goB L f (t : Int) = canF L f t := by unfold goB; rw [hr, Int.toNat_natCast, Bool.true_and]
        have HGC := Lib.hid hgc
        clear hr hgc
        go_upto_region 6 with (fail)
        go_region_held3 (fun w' => Below wr.heap.size wr w' ∧ w'.cell? ⟨w.heap.size, 0, none⟩ = some (.slice h.A L.length h.c) ∧ w'.cell? ⟨b, off + n, none⟩ = some (.int .i64 (t : Int))) (first | (go_split_ands; exact AllS.out _ (by go_grown)) | (exact AllS.out _ (by go_grown))) (first | (go_at_call 109; refine (l1In_b _ _ _ _ _ HRn).mono ?_; rintro e w' ⟨rfl, rfl⟩))
        obtain ⟨y, hy⟩ : ∃ y, y = wr.drew := ⟨_, rfl⟩
        rw [← hy]
        have by6 : Below wr.heap.size wr y := by rw [hy]; exact (Below.refl _ _).drew
        have zya : y.heap.size ≤ wr.heap.size := by rw [hy]; exact Nat.le_refl _
        have zyb : wr.heap.size ≤ y.heap.size := by rw [hy]; exact Nat.le_refl _
        clear hy AllS c_p hws
        try clear hHeld
        have OSy := Lib.hid (OS.out.below by6 hhi)
        have KSy := Lib.hid (KS.out.below by6 l0)
        have KPy := Lib.hid (KP.out.below by6 l1)
        have PRy := Lib.hid (PR.out.below by6 (by omega))
        have HOy := Lib.hid (HO.out.kept (grown_of_below by6 none) (by simp [Value.ownBlock]))
        have HBy := Lib.hid (below_on HB.out by6)
        have BY6 := Lib.hid by6
        have l0y := KSy.out.lt
        have l1y := KPy.out.lt
        have hbry : b < y.heap.size := by omega
        have hx0y : y.cell? ⟨b, off + n, none⟩ = some (.int .i64 (t : Int)) := (by6.cell (p := ⟨b, off + n, none⟩) hbr).trans HX0.out
        have HXy := Lib.hid hx0y
        have allS8 : ∀ w', Below y.heap.size y w' → (Below y.heap.size y w' ∧ w'.cell? ⟨w.heap.size, 0, none⟩ = some (.slice h.A L.length h.c) ∧ w'.cell? ⟨w2.heap.size, 0, none⟩ = some (.slice hk.A0 (staF L f).f0.length hk.c0) ∧ w'.cell? ⟨w2.heap.size, 1, none⟩ = some (.slice hk.A1 (staF L f).f1.length hk.c1) ∧ w'.cell? ⟨w2.heap.size, 2, none⟩ = some (.slice hk.A2 (staF L f).f2.length hk.c2) ∧ w'.cell? ⟨w2.heap.size, 3, none⟩ = some (.slice hk.A3 (staF L f).f3.length hk.c3) ∧ w'.cell? ⟨w2.heap.size, 4, none⟩ = some (.slice hk.A4 (staF L f).f4.length hk.c4) ∧ w'.cell? ⟨b, off + n, none⟩ = some (.int .i64 (t : Int))) := fun w' hb' => ⟨hb', (KPy.out.below hb' l1y).cell 0, (KSy.out.below hb' l0y).cell 0, (KSy.out.below hb' l0y).cell 1, (KSy.out.below hb' l0y).cell 2, (KSy.out.below hb' l0y).cell 3, (KSy.out.below hb' l0y).cell 4, (hb'.cell (p := ⟨b, off + n, none⟩) hbry).trans HXy.out⟩
        have AllS8 := Lib.hid allS8
        clear allS8 by6
        have c_p : y.cell? ⟨w.heap.size, 0, none⟩ = some (.slice h.A L.length h.c) := KPy.out.cell 0
        have c_s0 : y.cell? ⟨w2.heap.size, 0, none⟩ = some (.slice hk.A0 (staF L f).f0.length hk.c0) := KSy.out.cell 0
        have c_s1 : y.cell? ⟨w2.heap.size, 1, none⟩ = some (.slice hk.A1 (staF L f).f1.length hk.c1) := KSy.out.cell 1
        have c_s2 : y.cell? ⟨w2.heap.size, 2, none⟩ = some (.slice hk.A2 (staF L f).f2.length hk.c2) := KSy.out.cell 2
        have c_s3 : y.cell? ⟨w2.heap.size, 3, none⟩ = some (.slice hk.A3 (staF L f).f3.length hk.c3) := KSy.out.cell 3
        have c_s4 : y.cell? ⟨w2.heap.size, 4, none⟩ = some (.slice hk.A4 (staF L f).f4.length hk.c4) := KSy.out.cell 4
        go_upto_region 8 with (fail)
        go_cut [9, 10] (fun sa sb wx => GotNx L f t y sa sb wx)
        case first =>
          go_region_held3 (fun w' => Below y.heap.size y w' ∧ w'.cell? ⟨w.heap.size, 0, none⟩ = some (.slice h.A L.length h.c) ∧ w'.cell? ⟨w2.heap.size, 0, none⟩ = some (.slice hk.A0 (staF L f).f0.length hk.c0) ∧ w'.cell? ⟨w2.heap.size, 1, none⟩ = some (.slice hk.A1 (staF L f).f1.length hk.c1) ∧ w'.cell? ⟨w2.heap.size, 2, none⟩ = some (.slice hk.A2 (staF L f).f2.length hk.c2) ∧ w'.cell? ⟨w2.heap.size, 3, none⟩ = some (.slice hk.A3 (staF L f).f3.length hk.c3) ∧ w'.cell? ⟨w2.heap.size, 4, none⟩ = some (.slice hk.A4 (staF L f).f4.length hk.c4) ∧ w'.cell? ⟨b, off + n, none⟩ = some (.int .i64 (t : Int))) (first | (go_split_ands; exact AllS8.out _ (by go_grown)) | (exact AllS8.out _ (by go_grown))) (first | (go_at_call 110; go_split_ands; refine (snext_sta h L hk f t _ y.heap.size (PRy.out.up (show Below y.heap.size y _ from by go_grown) (by omega) (by omega)) (OSy.out.rd.up (show Below y.heap.size y _ from by go_grown) (by omega) (by omega)) (show Below y.heap.size y _ from by go_grown).size HP.out hI.out ht).mono ?_; rintro e vs ⟨x, rfl, hxe, hvs⟩; obtain ⟨hccs, hffs⟩ := bcell hvs; have hBvs : Below y.heap.size y vs := below_on (by go_grown) hvs; have hzvs := hvs.size; (try simp at hzvs); have hyvs := hBvs.size; (try (have hsvs : y.heap.size < vs.heap.size := (by omega))); have kvs := Lib.hid hvs; have HXE := Lib.hid hxe; clear hvs hxe))
          all_goals go_wp2_with fail
          all_goals go_meet
          · exact gotNx_late hBvs HXE.out
          · exact gotNx_early hBvs ((bk_drew (Bk.new y #[.int .i64 0, .int .i64 0, .int .i64 0, .int .i64 0, .bool false] 79)).below kvs.out (by show _ < (World.alloc _ _).heap.size; simp)) (Nat.le_refl _) HXE.out
        clear AllS8 c_p c_s0 c_s1 c_s2 c_s3 c_s4 hx0y
        obtain ⟨bx, x, rfl, rfl, hxe, hbz, kx, hx1, hx2⟩ := hcut
        obtain ⟨z, rfl⟩ : ∃ V, V = wc := ⟨_, rfl⟩
        have hzz := hbz.size
        have KX := Lib.hid kx
        have HXE := Lib.hid hxe
        have OSz := Lib.hid (OSy.out.below hbz (by omega))
        have KSz := Lib.hid (KSy.out.below hbz l0y)
        have KPz := Lib.hid (KPy.out.below hbz l1y)
        have PRz := Lib.hid (PRy.out.below hbz (by omega))
        have HOz := Lib.hid (HOy.out.kept (grown_of_below hbz none) (by simp [Value.ownBlock]))
        have HBz := Lib.hid (below_on HBy.out hbz)
        have hx0z : z.cell? ⟨b, off + n, none⟩ = some (.int .i64 (t : Int)) := (hbz.cell (p := ⟨b, off + n, none⟩) hbry).trans HXy.out
        have HXz := Lib.hid hx0z
        clear hx0z hbz kx hxe
        obtain ⟨g', hg'⟩ : ∃ g', canF L f t = g' := ⟨_, rfl⟩
        have HG := Lib.hid hg'
        rw [hg']
        clear hg'
        cases g' with
        | false =>
          have hq0 : q = none := by
            have := hrest.out
            rw [Hd.out] at this
            unfold runE at this
            rw [if_neg (by rw [HGC.out, HG.out]; simp)] at this
            exact this.symm
          subst hq0
          go_wp2
          go_returns
          exact ⟨rfl, below_on B2.out HBz.out⟩
        | true =>
          obtain rfl := HXE.out HG.out
          have hlen : 0 < (ints (staF L f).f0).length := by rw [ints_length, (sta_len L f).1]; omega
          obtain ⟨b2, off2, hA2, hb20, hb21, hcs⟩ := OSz.out.i0 hlen
          have hat : (ints (staF L f).f0)[t]? = some (.int .i64 ((f (3 + t) : Nat) : Int)) := by
            have e1 : (staF L f).f0[t]? = some (((f (3 + t) : Nat) : Int) + fL 0) := fldI_at ht
            have e : fL 0 = 0 := rfl
            rw [e, Int.add_zero] at e1
            simp [ints, e1]
          have hc2 := hcs t _ hat
          have e1 := KSz.out.cell 0
          simp only [List.getElem?_toArray, List.getElem?_cons_zero] at e1
          rw [hA2] at e1
          have HA2 := Lib.hid hA2
          have hti2 : (t : Int) < ((staF L f).f0.length : Int) := by rw [(sta_len L f).1]; omega
          have hgw := (HO.out.lt g rfl).2
          have lx := KX.out.lt
          have hb2z : b2 < z.heap.size := by omega
          have l0z := KSz.out.lt
          have hbrz : b < z.heap.size := by omega
          obtain ⟨xx, hxx⟩ : ∃ xx, smAt L t (f (3 + t)) = xx := ⟨_, rfl⟩
          have hez : evZ L f t = ⟨(t : Int), ((f (3 + t) : Nat) : Int), xx⟩ := by unfold evZ; rw [hxx]
          have Hn : Hid ((runE L (stepF L f t) (xs.drop (n + 1))).map ((acc ++ [⟨(t : Int), ((f (3 + t) : Nat) : Int), xx⟩]) ++ ·) = q) := Lib.hid (by
            have := hrest.out
            rw [Hd.out] at this
            rw [← hez]
            exact runE_step (HGC.out.trans HG.out) this)
          rw [hxx] at KX
          clear hcs hat hez hxx hA2 hlen
          have E1 := Lib.hid e1
          have HC2 := Lib.hid hc2
          clear e1 hc2
          have allS11 : ∀ w', Below z.heap.size z w' → (w'.cell? ⟨b, off + n, none⟩ = some (.int .i64 (t : Int)) ∧ w'.cell? ⟨w2.heap.size, 0, none⟩ = some (.slice (some ⟨b2, off2, none⟩) (staF L f).f0.length hk.c0) ∧ w'.cell? ⟨b2, off2 + t, none⟩ = some (.int .i64 ((f (3 + t) : Nat) : Int)) ∧ w'.cell? ⟨bx, 0, none⟩ = some (.int .i64 xx.k) ∧ w'.cell? ⟨bx, 1, none⟩ = some (.int .i64 xx.a) ∧ w'.cell? ⟨bx, 2, none⟩ = some (.int .i64 xx.b) ∧ w'.cell? ⟨bx, 3, none⟩ = some (.int .i64 xx.c) ∧ w'.cell? ⟨bx, 4, none⟩ = some (.bool xx.s)) := fun w' hb' => ⟨(hb'.cell (p := ⟨b, off + n, none⟩) (by show b < z.heap.size; exact hbrz)).trans HXz.out, (hb'.cell (p := ⟨w2.heap.size, 0, none⟩) (by show w2.heap.size < z.heap.size; exact l0z)).trans E1.out, (hb'.cell (p := ⟨b2, off2 + t, none⟩) (by show b2 < z.heap.size; exact hb2z)).trans HC2.out, (hb'.cell (p := ⟨bx, 0, none⟩) (by show bx < z.heap.size; exact lx)).trans (KX.out.cell 0), (hb'.cell (p := ⟨bx, 1, none⟩) (by show bx < z.heap.size; exact lx)).trans (KX.out.cell 1), (hb'.cell (p := ⟨bx, 2, none⟩) (by show bx < z.heap.size; exact lx)).trans (KX.out.cell 2), (hb'.cell (p := ⟨bx, 3, none⟩) (by show bx < z.heap.size; exact lx)).trans (KX.out.cell 3), (hb'.cell (p := ⟨bx, 4, none⟩) (by show bx < z.heap.size; exact lx)).trans (KX.out.cell 4)⟩
          have AllS11 := Lib.hid allS11
          clear allS11
          go_upto_region 11 with (fail)
          go_region_held_law (fun w' => w'.cell? ⟨b, off + n, none⟩ = some (.int .i64 (t : Int)) ∧ w'.cell? ⟨w2.heap.size, 0, none⟩ = some (.slice (some ⟨b2, off2, none⟩) (staF L f).f0.length hk.c0) ∧ w'.cell? ⟨b2, off2 + t, none⟩ = some (.int .i64 ((f (3 + t) : Nat) : Int)) ∧ w'.cell? ⟨bx, 0, none⟩ = some (.int .i64 xx.k) ∧ w'.cell? ⟨bx, 1, none⟩ = some (.int .i64 xx.a) ∧ w'.cell? ⟨bx, 2, none⟩ = some (.int .i64 xx.b) ∧ w'.cell? ⟨bx, 3, none⟩ = some (.int .i64 xx.c) ∧ w'.cell? ⟨bx, 4, none⟩ = some (.bool xx.s)) (first | (with_reducible exact Fin11.out) | (go_split_ands; refine AllS11.out _ ?_; go_grown; done) | (refine AllS11.out _ ?_; go_grown; done)) ((refine step_append_lies _ rfl (.tmp 42) (.tmp 57) 27 rfl w2.heap.size 81 i0 _ 7 56 Try.underlying27 hi iz0 iz1 iz2 rfl (by decide) (.slice (some ⟨g, 0, none⟩) acc.length cap) acc.length (evs acc) rfl (HOz.out.alloc _) ⟨_, 0, none⟩ 1 1 (Evt.cells ⟨(t : Int), ((f (3 + t) : Nat) : Int), xx⟩) rfl rfl (ev_new _ ⟨(t : Int), ((f (3 + t) : Nat) : Int), xx⟩) (ev_one _) (by omega) (by have := HACC.out; unfold maxLen; omega) (by have := HACC.out; omega) (by simp; omega) _ rfl ?_; intro g3 cap3 w3 hown3 hgrow3 hat3 hlt3; have hblk : ∀ q0, q0 < z.heap.size → q0 ≠ g → w3.heap[q0]? = z.heap[q0]? := (by intro q0 hq0 hne; refine far3e ?_ hgrow3 q0 hq0 (by simp [Value.ownBlock]; exact hne); go_grown); have hbw : Below w2.heap.size w2 w3 := (by refine below3e HBz.out ?_ hgrow3 (fun q0 hq0 => by simp [Value.ownBlock]; omega); go_grown); have hz3 := hgrow3.size; (try simp at hz3); have hg3 : g3 = g ∨ z.heap.size ≤ g3 := (hat3.elim (fun e => Or.inl (by simp [Value.ownBlock] at e; exact e.symm)) (fun e => Or.inr (by rw [e]; simp))); have fin11 : w3.cell? ⟨b, off + n, none⟩ = some (.int .i64 (t : Int)) ∧ w3.cell? ⟨w2.heap.size, 0, none⟩ = some (.slice (some ⟨b2, off2, none⟩) (staF L f).f0.length hk.c0) ∧ w3.cell? ⟨b2, off2 + t, none⟩ = some (.int .i64 ((f (3 + t) : Nat) : Int)) ∧ w3.cell? ⟨bx, 0, none⟩ = some (.int .i64 xx.k) ∧ w3.cell? ⟨bx, 1, none⟩ = some (.int .i64 xx.a) ∧ w3.cell? ⟨bx, 2, none⟩ = some (.int .i64 xx.b) ∧ w3.cell? ⟨bx, 3, none⟩ = some (.int .i64 xx.c) ∧ w3.cell? ⟨bx, 4, none⟩ = some (.bool xx.s) := ⟨(World.cell?_of_block (a := ⟨b, off + n, none⟩) (hblk (b) hbrz (by omega))).trans HXz.out, (World.cell?_of_block (a := ⟨w2.heap.size, 0, none⟩) (hblk (w2.heap.size) l0z (by omega))).trans E1.out, (World.cell?_of_block (a := ⟨b2, off2 + t, none⟩) (hblk (b2) hb2z (by omega))).trans HC2.out, (World.cell?_of_block (a := ⟨bx, 0, none⟩) (hblk (bx) lx (by omega))).trans (KX.out.cell 0), (World.cell?_of_block (a := ⟨bx, 1, none⟩) (hblk (bx) lx (by omega))).trans (KX.out.cell 1), (World.cell?_of_block (a := ⟨bx, 2, none⟩) (hblk (bx) lx (by omega))).trans (KX.out.cell 2), (World.cell?_of_block (a := ⟨bx, 3, none⟩) (hblk (bx) lx (by omega))).trans (KX.out.cell 3), (World.cell?_of_block (a := ⟨bx, 4, none⟩) (hblk (bx) lx (by omega))).trans (KX.out.cell 4)⟩; have Fin11 := Lib.hid fin11; have HBk := Lib.hid hblk; have HB3 := Lib.hid hbw; have HO3 := Lib.hid hown3; clear fin11 hblk hbw hgrow3 hat3 hown3))
          try clear hHeld
          clear AllS11
          have hx03 : w3.cell? ⟨b, off + n, none⟩ = some (.int .i64 (t : Int)) := Fin11.out.1
          clear Fin11
          have KP3 := Lib.hid (show Bk w3 w.heap.size 32 #[.slice h.A L.length h.c] from (HBk.out _ KPz.out.lt (by omega)).trans KPz.out)
          have KS3 := Lib.hid (show Bk w3 w2.heap.size 104 #[.slice hk.A0 (staF L f).f0.length hk.c0, .slice hk.A1 (staF L f).f1.length hk.c1, .slice hk.A2 (staF L f).f2.length hk.c2, .slice hk.A3 (staF L f).f3.length hk.c3, .slice hk.A4 (staF L f).f4.length hk.c4] from (HBk.out _ KSz.out.lt (by omega)).trans KSz.out)
          have OS3 := Lib.hid (OSz.out.keep (Nat.le_refl _) (Nat.le_refl _) fun q0 h1 h2 => HBk.out q0 (by omega) (by omega))
          have PR3 := Lib.hid (P2.out.below HB3.out (by omega))
          have z3 := HB3.out.size
          have lp3 := KP3.out.lt
          have ls3 := KS3.out.lt
          have hbr3 : b < w3.heap.size := by omega
          have c_p : w3.cell? ⟨w.heap.size, 0, none⟩ = some (.slice h.A L.length h.c) := KP3.out.cell 0
          have c_s0 : w3.cell? ⟨w2.heap.size, 0, none⟩ = some (.slice hk.A0 (staF L f).f0.length hk.c0) := KS3.out.cell 0
          have c_s1 : w3.cell? ⟨w2.heap.size, 1, none⟩ = some (.slice hk.A1 (staF L f).f1.length hk.c1) := KS3.out.cell 1
          have c_s2 : w3.cell? ⟨w2.heap.size, 2, none⟩ = some (.slice hk.A2 (staF L f).f2.length hk.c2) := KS3.out.cell 2
          have c_s3 : w3.cell? ⟨w2.heap.size, 3, none⟩ = some (.slice hk.A3 (staF L f).f3.length hk.c3) := KS3.out.cell 3
          have c_s4 : w3.cell? ⟨w2.heap.size, 4, none⟩ = some (.slice hk.A4 (staF L f).f4.length hk.c4) := KS3.out.cell 4
          go_upto_region 12 with (fail)
          have hdo := fun (V' : World) (hb' : Below w3.heap.size w3 V') => sdo_any h hk L f t V' w3.heap.size (PR3.out.up hb' (by omega) (by omega)) (OS3.out.rd.up hb' (by omega) (by omega)) hb'.size HP.out ht hI.out.good HG.out hI.out.chan
          unfold StaV at hdo
          rw [HA2.out] at hdo
          have Hdo := Lib.hid hdo
          clear hdo
          go_region_with (go_at_call 111; refine (Hdo.out _ (show Below w3.heap.size w3 _ from by go_grown)).mono ?_; rintro e v ⟨hu, rfl, hv, hzv, ov⟩; have Ov := Lib.hid ov; have hBv : Below w3.heap.size w3 v := below_on (by go_grown) hv; have KSv := Lib.hid (KS3.out.below hBv ls3); have HBv := Lib.hid hBv; have hzv3 := hBv.size; have cv0 : v.cell? ⟨w2.heap.size, 0, none⟩ = some (.slice hk.A0 (staF L f).f0.length hk.c0) := KSv.out.cell 0; have fv0 : v.frozen? ⟨w2.heap.size, 0, none⟩ = false := KSv.out.free 0; have cv1 : v.cell? ⟨w2.heap.size, 1, none⟩ = some (.slice hk.A1 (staF L f).f1.length hk.c1) := KSv.out.cell 1; have fv1 : v.frozen? ⟨w2.heap.size, 1, none⟩ = false := KSv.out.free 1; have cv2 : v.cell? ⟨w2.heap.size, 2, none⟩ = some (.slice hk.A2 (staF L f).f2.length hk.c2) := KSv.out.cell 2; have fv2 : v.frozen? ⟨w2.heap.size, 2, none⟩ = false := KSv.out.free 2; have cv3 : v.cell? ⟨w2.heap.size, 3, none⟩ = some (.slice hk.A3 (staF L f).f3.length hk.c3) := KSv.out.cell 3; have fv3 : v.frozen? ⟨w2.heap.size, 3, none⟩ = false := KSv.out.free 3; have cv4 : v.cell? ⟨w2.heap.size, 4, none⟩ = some (.slice hk.A4 (staF L f).f4.length hk.c4) := KSv.out.cell 4; have fv4 : v.frozen? ⟨w2.heap.size, 4, none⟩ = false := KSv.out.free 4; clear hv ov hBv)
          all_goals
            try clear hHeld
            clear c_p c_s0 c_s1 c_s2 c_s3 c_s4 hx03 cv0 fv0 cv1 fv1 cv2 fv2 cv3 fv3 cv4 fv4
            have kF : Bk (((((v.setCell ⟨w2.heap.size, 0, none⟩ (.slice hu.A0 (staF L (stepF L f t)).f0.length hu.c0)).setCell ⟨w2.heap.size, 1, none⟩ (.slice hu.A1 (staF L (stepF L f t)).f1.length hu.c1)).setCell ⟨w2.heap.size, 2, none⟩ (.slice hu.A2 (staF L (stepF L f t)).f2.length hu.c2)).setCell ⟨w2.heap.size, 3, none⟩ (.slice hu.A3 (staF L (stepF L f t)).f3.length hu.c3)).setCell ⟨w2.heap.size, 4, none⟩ (.slice hu.A4 (staF L (stepF L f t)).f4.length hu.c4)) (w2.heap.size) 104 #[.slice hu.A0 (staF L (stepF L f t)).f0.length hu.c0, .slice hu.A1 (staF L (stepF L f t)).f1.length hu.c1, .slice hu.A2 (staF L (stepF L f t)).f2.length hu.c2, .slice hu.A3 (staF L (stepF L f t)).f3.length hu.c3, .slice hu.A4 (staF L (stepF L f t)).f4.length hu.c4] := by
              have a0 := KSv.out
              have a1 := a0.set 0 (.slice hu.A0 (staF L (stepF L f t)).f0.length hu.c0)
              have a2 := a1.set 1 (.slice hu.A1 (staF L (stepF L f t)).f1.length hu.c1)
              have a3 := a2.set 2 (.slice hu.A2 (staF L (stepF L f t)).f2.length hu.c2)
              have a4 := a3.set 3 (.slice hu.A3 (staF L (stepF L f t)).f3.length hu.c3)
              have a5 := a4.set 4 (.slice hu.A4 (staF L (stepF L f t)).f4.length hu.c4)
              simpa using a5
            have bF : Below w2.heap.size w2 (((((v.setCell ⟨w2.heap.size, 0, none⟩ (.slice hu.A0 (staF L (stepF L f t)).f0.length hu.c0)).setCell ⟨w2.heap.size, 1, none⟩ (.slice hu.A1 (staF L (stepF L f t)).f1.length hu.c1)).setCell ⟨w2.heap.size, 2, none⟩ (.slice hu.A2 (staF L (stepF L f t)).f2.length hu.c2)).setCell ⟨w2.heap.size, 3, none⟩ (.slice hu.A3 (staF L (stepF L f t)).f3.length hu.c3)).setCell ⟨w2.heap.size, 4, none⟩ (.slice hu.A4 (staF L (stepF L f t)).f4.length hu.c4)) := ((((((below_on HB3.out HBv.out).setCell (p := ⟨w2.heap.size, 0, none⟩) (show w2.heap.size ≤ w2.heap.size by omega) _).setCell (p := ⟨w2.heap.size, 1, none⟩) (show w2.heap.size ≤ w2.heap.size by omega) _).setCell (p := ⟨w2.heap.size, 2, none⟩) (show w2.heap.size ≤ w2.heap.size by omega) _).setCell (p := ⟨w2.heap.size, 3, none⟩) (show w2.heap.size ≤ w2.heap.size by omega) _).setCell (p := ⟨w2.heap.size, 4, none⟩) (show w2.heap.size ≤ w2.heap.size by omega) _)
            have nF : ∀ q, w2.heap.size < q → (((((v.setCell ⟨w2.heap.size, 0, none⟩ (.slice hu.A0 (staF L (stepF L f t)).f0.length hu.c0)).setCell ⟨w2.heap.size, 1, none⟩ (.slice hu.A1 (staF L (stepF L f t)).f1.length hu.c1)).setCell ⟨w2.heap.size, 2, none⟩ (.slice hu.A2 (staF L (stepF L f t)).f2.length hu.c2)).setCell ⟨w2.heap.size, 3, none⟩ (.slice hu.A3 (staF L (stepF L f t)).f3.length hu.c3)).setCell ⟨w2.heap.size, 4, none⟩ (.slice hu.A4 (staF L (stepF L f t)).f4.length hu.c4)).heap[q]? = v.heap[q]? := fun q hq => (Below.heap_setCell _ _ _ q (by show q ≠ w2.heap.size; omega)).trans ((Below.heap_setCell _ _ _ q (by show q ≠ w2.heap.size; omega)).trans ((Below.heap_setCell _ _ _ q (by show q ≠ w2.heap.size; omega)).trans ((Below.heap_setCell _ _ _ q (by show q ≠ w2.heap.size; omega)).trans (Below.heap_setCell _ _ _ q (by show q ≠ w2.heap.size; omega)))))
            have zF : v.heap.size ≤ (((((v.setCell ⟨w2.heap.size, 0, none⟩ (.slice hu.A0 (staF L (stepF L f t)).f0.length hu.c0)).setCell ⟨w2.heap.size, 1, none⟩ (.slice hu.A1 (staF L (stepF L f t)).f1.length hu.c1)).setCell ⟨w2.heap.size, 2, none⟩ (.slice hu.A2 (staF L (stepF L f t)).f2.length hu.c2)).setCell ⟨w2.heap.size, 3, none⟩ (.slice hu.A3 (staF L (stepF L f t)).f3.length hu.c3)).setCell ⟨w2.heap.size, 4, none⟩ (.slice hu.A4 (staF L (stepF L f t)).f4.length hu.c4)).heap.size := by simp
            have HF := Lib.hid kF
            have BF := Lib.hid bF
            have NF := Lib.hid nF
            obtain ⟨F, hF⟩ : ∃ F, F = (((((v.setCell ⟨w2.heap.size, 0, none⟩ (.slice hu.A0 (staF L (stepF L f t)).f0.length hu.c0)).setCell ⟨w2.heap.size, 1, none⟩ (.slice hu.A1 (staF L (stepF L f t)).f1.length hu.c1)).setCell ⟨w2.heap.size, 2, none⟩ (.slice hu.A2 (staF L (stepF L f t)).f2.length hu.c2)).setCell ⟨w2.heap.size, 3, none⟩ (.slice hu.A3 (staF L (stepF L f t)).f3.length hu.c3)).setCell ⟨w2.heap.size, 4, none⟩ (.slice hu.A4 (staF L (stepF L f t)).f4.length hu.c4)) := ⟨_, rfl⟩
            rw [← hF] at HF BF NF zF
            rw [← hF]
            clear kF bF nF hF
            have c0 := HF.out.cell 0
            have c1 := HF.out.cell 1
            have c2 := HF.out.cell 2
            have c3 := HF.out.cell 3
            have c4 := HF.out.cell 4
            simp only [List.getElem?_toArray, List.getElem?_cons_zero, List.getElem?_cons_succ] at c0 c1 c2 c3 c4
            clear c0 c1 c2 c3 c4
            have OX := Lib.hid (own_keep (HO3.out.kept (grown_of_below HBv.out none) (by simp [Value.ownBlock])) (NF.out g3 (by omega)))
            go_wp2
            go_roundw
            case rel => exact ⟨n + 1, stepF L f t, hu, w3.heap.size, v.heap.size, g3, cap3, acc ++ [⟨(t : Int), ((f (3 + t) : Nat) : Int), xx⟩], by omega, by go_num, by simp, by simp [HACC.out], BF.out, HF.out, Ov.out.in_.keep (Nat.le_refl _) (Nat.le_refl _) (fun q0 (h1 : w3.heap.size ≤ q0) h2 => NF.out q0 (by omega)), by omega, by omega, Or.inr (by omega), by omega, Or.inl hlt3, by rw [List.length_append, evs_snoc]; exact OX.out, Lib.hid (inv_step HP.out hI.out ht HG.out), Hn⟩
            case measure => simp [intOf]; omega
    · have hq0 : q = some acc := by
        have := hrest.out
        rw [List.drop_eq_nil_of_le (by omega)] at this
        unfold runE at this
        rw [← this]; simp
      subst hq0
      have hi2 : ¬ (n : Int) < (xs.length : Int) := by omega
      go_wp2
      go_returns
      exact ⟨_, _, rfl, below_on B2.out HB.out, own_down HO.out (by omega)⟩
end Go.Proofs.Ytidibnmlceccnaa
namespace Go.Proofs.Ytidibnmlceccnaa
open Go.RowKit Pl Go.BigFrame
set_option maxHeartbeats 4000000
set_option maxRecDepth 100000
set_option linter.unusedVariables false

structure EvsH where
  A : Option Addr
  c : Nat
abbrev EvsV (h : EvsH) (l : Evts) : Value := .slice h.A l.length h.c
structure EvsR (w : World) (B : Nat) (h : EvsH) (l : Evts) : Prop where
  v : Vs w B h.A (evs l)
structure EvsL (l : Evts) (m : Nat) : Prop where
  l0 : l.length ≤ m
abbrev EvsS (l : Evts) : Prop := EvsL l 1048576
theorem EvsS_L {l : Evts} (s : EvsS l) : EvsL l maxLen := ⟨Nat.le_trans s.l0 (by unfold maxLen; omega)⟩
structure EvsO (w : World) (lo hi : Nat) (h : EvsH) (l : Evts) : Prop where
  o0 : OwnVs w lo hi 81 h.A (evs l)
theorem EvsR.below {w w' : World} {B B' : Nat} {h : EvsH} {o : Evts} (r : EvsR w B h o) (hb : Below B' w w') (hB : B ≤ B') : EvsR w' B h o := ⟨r.v.below hb hB⟩
theorem EvsR.up {w w' : World} {B B' B'' : Nat} {h : EvsH} {o : Evts} (r : EvsR w B h o) (hb : Below B' w w') (hB : B ≤ B') (hB2 : B ≤ B'') : EvsR w' B'' h o := ⟨r.v.up hb hB hB2⟩
theorem EvsO.rd {w : World} {lo hi : Nat} {h : EvsH} {o : Evts} (r : EvsO w lo hi h o) : EvsR w hi h o := ⟨r.o0.vs⟩
theorem EvsO.below {w w' : World} {lo hi B : Nat} {h : EvsH} {o : Evts} (r : EvsO w lo hi h o) (hb : Below B w w') (hB : hi ≤ B) : EvsO w' lo hi h o := ⟨r.o0.below hb hB⟩
theorem EvsO.keep {w w' : World} {lo hi lo' hi' : Nat} {h : EvsH} {o : Evts} (r : EvsO w lo hi h o) (hl : lo' ≤ lo) (hh : hi ≤ hi') (hk : ∀ i, lo ≤ i → i < hi → w'.heap[i]? = w.heap[i]?) : EvsO w' lo' hi' h o := ⟨r.o0.keep hl hh hk⟩

theorem evs_at : ∀ {l : Evts} {k : Nat} {e : Evt}, l[k]? = some e → ∀ (i : Nat) (v : Value), e.cells[i]? = some v → (evs l)[k * 7 + i]? = some v := by
  intro l
  induction l with
  | nil => intro k e h; simp at h
  | cons a r ih =>
    intro k e h i v hv
    have ea : evs (a :: r) = a.cells ++ evs r := by simp [evs]
    have la : a.cells.length = 7 := rfl
    have hi : i < 7 := (List.getElem?_eq_some_iff.1 hv).1
    rw [ea]
    cases k with
    | zero =>
      simp only [List.getElem?_cons_zero, Option.some.injEq] at h
      subst h
      rw [List.getElem?_append_left (by omega), Nat.zero_mul, Nat.zero_add]
      exact hv
    | succ k =>
      rw [List.getElem?_append_right (by omega), la, show (k + 1) * 7 + i - 7 = k * 7 + i by omega]
      exact ih (by simpa using h) i v hv
/-- An event lies at the seven cells from o on. -/
def EvAt (w : World) (b o : Nat) (e : Evt) : Prop :=
  w.cell? ⟨b, o, none⟩ = some (.int .i64 e.t) ∧ w.cell? ⟨b, o + 1, none⟩ = some (.int .i64 e.i) ∧ w.cell? ⟨b, o + 2, none⟩ = some (.int .i64 e.x.k) ∧ w.cell? ⟨b, o + 3, none⟩ = some (.int .i64 e.x.a) ∧ w.cell? ⟨b, o + 4, none⟩ = some (.int .i64 e.x.b) ∧ w.cell? ⟨b, o + 5, none⟩ = some (.int .i64 e.x.c) ∧ w.cell? ⟨b, o + 6, none⟩ = some (.bool e.x.s)
theorem Vs.ev_ {w : World} {B : Nat} {A : Option Addr} {l : Evts} (h : Vs w B A (evs l)) {k : Nat} (hk : k < l.length) :
    ∃ b off e, A = some ⟨b, off, none⟩ ∧ b < B ∧ l[k]? = some e ∧ l.drop k = e :: l.drop (k + 1) ∧ EvAt w b (off + k * 7) e := by
  obtain ⟨b, off, hA, hb, hx⟩ := h (by rw [evs_length]; omega)
  obtain ⟨e, h1, h2⟩ := drop_at hk
  have q := fun i v hv => hx (k * 7 + i) v (evs_at h1 i v hv)
  exact ⟨b, off, e, hA, hb, h1, h2, q 0 _ rfl, q 1 _ rfl, q 2 _ rfl, q 3 _ rfl, q 4 _ rfl, q 5 _ rfl, q 6 _ rfl⟩

/-! ### equality -/
abbrev Evt.val (e : Evt) : Value := Ev e.t e.i e.x.k e.x.a e.x.b e.x.c e.x.s
def Evt.eqb (x y : Evt) : Bool := decide (x = y)
theorem Evt.eqb_of (x y : Evt) : x.eqb y = (x.t == y.t && (x.i == y.i && x.x.eqb y.x)) := by
  cases x; cases y
  simp [Evt.eqb, Sm.eqb, Bool.decide_and]
  rfl
theorem eqEvent_any (x y : Evt) (w : World) : Calls Try.prog 73 #[x.val, y.val] w fun e w' => e = .returned (.bool (x.eqb y)) ∧ Below w.heap.size w w' := by
  rw [Evt.eqb_of]
  rcases Bool.eq_false_or_eq_true (x.x.eqb y.x) with he | he
  all_goals
    rw [he]
    have Hq := Lib.hid (fun w1 => ret_bool he (eqStmt_any x.x y.x w1))
    clear he
    go_enter Try.func73, Try.ntmps73
    go_wp2_with (go_at_call 120; refine (Hq.out _).mono ?_; rintro e w1 ⟨rfl, hb⟩; have hB : Below w.heap.size w w1 := below_step (by go_grown) hb; clear hb)
    all_goals (go_ret; refine ⟨?_, by first | assumption | go_grown⟩; simp only [bne_iff_ne, ne_eq, bne_eq_false_iff_eq] at *; simp [*])

theorem eqEvs_any (k1 k2 : EvsH) (o1 o2 : Evts) (w : World) (B : Nat) (r1 : EvsR w B k1 o1) (r2 : EvsR w B k2 o2) (hB : B ≤ w.heap.size) (L1 : EvsL o1 maxLen) (L2 : EvsL o2 maxLen) (r : Bool) (hr : Hid (decide (o1 = o2) = r)) :
    Calls Try.prog 20 #[EvsV k1 o1, EvsV k2 o2] w fun e w' => e = .returned (.bool r) ∧ Below w.heap.size w w' := by
  obtain ⟨A1, c1⟩ := k1
  obtain ⟨A2, c2⟩ := k2
  obtain ⟨hm1⟩ := L1
  obtain ⟨hm2⟩ := L2
  obtain ⟨h1⟩ := r1
  obtain ⟨h2⟩ := r2
  unfold maxLen at hm1 hm2
  have h1 : Vs w B A1 (evs o1) := h1
  have h2 : Vs w B A2 (evs o2) := h2
  show Calls Try.prog 20 #[.slice A1 o1.length c1, .slice A2 o2.length c2] w _
  by_cases hne : o1.length = o2.length
  · have heq : ((o1.length : Int) != (o2.length : Int)) = false := by simp [hne]
    have hle : o1.length ≤ o2.length := by omega
    have hge : o2.length ≤ o1.length := by omega
    clear hne
    go_enter Try.func20, Try.ntmps20
    go_wp2
    go_loopw [5] (fun i wr => ∃ k : Nat, k ≤ o1.length ∧ i = .int .i64 k ∧ Below w.heap.size w wr ∧ Hid (decide (o1.drop k = o2.drop k) = r)) (fun i _ => o1.length - (intOf i).toNat)
    case atStart => exact ⟨0, Nat.zero_le _, rfl, Below.refl _ _, by simpa using hr⟩
    case round =>
      obtain ⟨k, hk, rfl, hbel, hrest⟩ := hrel
      clear hr heq
      by_cases hlt : k < o1.length
      · have R1 := h1.below hbel hB
        have R2 := h2.below hbel hB
        obtain ⟨b1, off1, x, rfl, hb1, -, hd1, hx0, hx1, hx2, hx3, hx4, hx5, hx6⟩ := R1.ev_ hlt
        obtain ⟨b2, off2, y, rfl, hb2, -, hd2, hy0, hy1, hy2, hy3, hy4, hy5, hy6⟩ := R2.ev_ (show k < o2.length by omega)
        have hz := hbel.size
        have hi1 : (k : Int) < (o1.length : Int) := by omega
        have hi2 : (k : Int) < (o2.length : Int) := by omega
        have Hd1 := Lib.hid hd1
        have Hd2 := Lib.hid hd2
        have hS := fr_none wr
        have gx0 := Ws.same (bs := []) (by omega) hx0
        have gx1 := Ws.same (bs := []) (by omega) hx1
        have gx2 := Ws.same (bs := []) (by omega) hx2
        have gx3 := Ws.same (bs := []) (by omega) hx3
        have gx4 := Ws.same (bs := []) (by omega) hx4
        have gx5 := Ws.same (bs := []) (by omega) hx5
        have gx6 := Ws.same (bs := []) (by omega) hx6
        have gy0 := Ws.same (bs := []) (by omega) hy0
        have gy1 := Ws.same (bs := []) (by omega) hy1
        have gy2 := Ws.same (bs := []) (by omega) hy2
        have gy3 := Ws.same (bs := []) (by omega) hy3
        have gy4 := Ws.same (bs := []) (by omega) hy4
        have gy5 := Ws.same (bs := []) (by omega) hy5
        have gy6 := Ws.same (bs := []) (by omega) hy6
        haveI hne := Nonempty.intro (Ws.mk _ hS)
        have HS := Lib.hid hS
        clear hS hd1 hd2 hx0 hx1 hx2 hx3 hx4 hx5 hx6 hy0 hy1 hy2 hy3 hy4 hy5 hy6 R1 R2 h1 h2
        rcases Bool.eq_false_or_eq_true (x.eqb y) with he | he
        all_goals
          have He := Lib.hid he
          clear he
          go_wp2_with fail
          refine region_in (by kernel_rfl) HS.out.drew ?_
          repeat (go_big_quiet_step ((go_at_call 73; exact call_in (ret_bool He.out (eqEvent_any x y _)))))
          refine wpQuiet_nil ?_
          rintro w2 ⟨⟨_, hw2⟩, rfl⟩
          have hB2 : Below w.heap.size w w2 := below_on hbel hw2.below
          clear gx0 gx1 gx2 gx3 gx4 gx5 gx6 gy0 gy1 gy2 gy3 gy4 gy5 gy6
          go_wp2
        · go_roundw
          case rel => exact ⟨k + 1, by omega, by go_num, hB2, by
            have hxy : x = y := of_decide_eq_true He.out
            have := hrest.out
            rw [Hd1.out, Hd2.out, hxy] at this
            exact Lib.hid (by rw [← this]; simp)⟩
          case measure => simp [intOf]; omega
        · go_ret
          refine ⟨?_, hB2⟩
          have hxy : x ≠ y := of_decide_eq_false He.out
          have := hrest.out
          rw [Hd1.out, Hd2.out] at this
          rw [← this]
          simp [hxy]
      · have hlast : Hid (r = true) := Lib.hid (by
          have := hrest.out
          rw [List.drop_eq_nil_of_le (by omega), List.drop_eq_nil_of_le (by omega)] at this
          rw [← this]; rfl)
        go_wp2
        go_ret
        exact ⟨by rw [hlast.out]; rfl, hbel⟩
  · have hlast : Hid (r = false) := Lib.hid (by rw [← hr.out]; exact decide_eq_false (fun e => hne (by rw [e])))
    have heq : ((o1.length : Int) != (o2.length : Int)) = true := by simp; omega
    clear hr
    go_enter Try.func20, Try.ntmps20
    go_wp2
    go_ret
    exact ⟨by rw [hlast.out]; rfl, Below.refl _ _⟩

/-! ### marks -/
def num7 (q : Int) : Evt := ⟨q, q + 1, ⟨q + 1 + 1, q + 1 + 1 + 1, q + 1 + 1 + 1 + 1, q + 1 + 1 + 1 + 1 + 1, (q + 1 + 1 + 1 + 1 + 1 + 1) % 3 == 0⟩⟩
def numsE (K : Int) (n : Nat) : Evts := (List.range n).map fun j : Nat => num7 (K + 7 * (j : Int))
@[simp] theorem numsE_length (K : Int) (n : Nat) : (numsE K n).length = n := by simp [numsE]
theorem numsE_at (K : Int) {n k : Nat} (h : k < n) : (numsE K n)[k]? = some (num7 (K + 7 * (k : Int))) := by simp [numsE, h]
def allEvs (l : Evts) : Int := 7 * (l.length : Int)
theorem mark7 {w wr : World} {g n k : Nat} {K : Int} (h : MarkV w wr g 81 (evs (numsE K n)) (k * 7)) (hk : k < n) {e : Evt} (he : e = num7 (K + 7 * (k : Int))) :
    MarkV w (((((((wr.setCell ⟨g, k * 7, none⟩ (.int .i64 e.t)).setCell ⟨g, k * 7 + 1, none⟩ (.int .i64 e.i)).setCell ⟨g, k * 7 + 2, none⟩ (.int .i64 e.x.k)).setCell ⟨g, k * 7 + 3, none⟩ (.int .i64 e.x.a)).setCell ⟨g, k * 7 + 4, none⟩ (.int .i64 e.x.b)).setCell ⟨g, k * 7 + 5, none⟩ (.int .i64 e.x.c)).setCell ⟨g, k * 7 + 6, none⟩ (.bool e.x.s)) g 81 (evs (numsE K n)) ((k + 1) * 7) := by
  have q := fun i v hv => evs_at (l := numsE K n) (k := k) (e := e) (by rw [he]; exact numsE_at K hk) i v hv
  have h0 := h.next (q 0 (.int .i64 e.t) rfl)
  have h1 := h0.next (q 1 (.int .i64 e.i) rfl)
  have h2 := h1.next (q 2 (.int .i64 e.x.k) rfl)
  have h3 := h2.next (q 3 (.int .i64 e.x.a) rfl)
  have h4 := h3.next (q 4 (.int .i64 e.x.b) rfl)
  have h5 := h4.next (q 5 (.int .i64 e.x.c) rfl)
  have h6 := h5.next (q 6 (.bool e.x.s) rfl)
  rw [show (k + 1) * 7 = k * 7 + 6 + 1 by omega]
  exact h6
theorem markEvs_any (h : EvsH) (o : Evts) (K : Int) (w : World) (lo hi : Nat) (hO : EvsO w lo hi h o) (hhi : hi ≤ w.heap.size) (hL : EvsL o 1048576) (hK : 0 ≤ K) (hK2 : K ≤ 100000000) :
    Calls Try.prog 25 #[EvsV h o, .int .i64 K] w fun e w' => e = .returned (.int .i64 (K + allEvs o)) ∧ Only lo hi w w' ∧ EvsO w' lo hi h (numsE K o.length) := by
  obtain ⟨hl⟩ := hL
  unfold allEvs
  by_cases hn : 0 < o.length
  · obtain ⟨g, cs, hA, h0, h1, hb, hx⟩ := hO.o0 (by rw [evs_length]; omega)
    have hsz : o.length * 7 ≤ cs.size := by
      obtain ⟨v, hv⟩ : ∃ v, (evs o)[o.length * 7 - 1]? = some v := ⟨_, List.getElem?_eq_getElem (by rw [evs_length]; omega)⟩
      have := (Array.getElem?_eq_some_iff.1 (hx _ v hv)).1
      omega
    have start : Hid (MarkV w w g 81 (evs (numsE K o.length)) 0) := Lib.hid ⟨Only.refl _ _ _, cs, hb, by rw [evs_length, numsE_length]; exact hsz, fun j v hj => absurd hj (by omega)⟩
    clear hb hx hsz hO
    unfold EvsV
    rw [hA]
    go_enter Try.func25, Try.ntmps25
    go_wp2
    go_loopw [1, 5] (fun q i wr => ∃ k : Nat, k ≤ o.length ∧ i = .int .i64 k ∧ q = .int .i64 (K + 7 * (k : Int)) ∧ MarkV w wr g 81 (evs (numsE K o.length)) (k * 7)) (fun _ i _ => o.length - (intOf i).toNat)
    case atStart => exact ⟨0, Nat.zero_le _, rfl, by simp, start.out⟩
    case round =>
      obtain ⟨k, hk, rfl, rfl, hmk⟩ := hrel
      clear start
      by_cases hlt : k < o.length
      · obtain ⟨-, cu, hb, hs, -⟩ := id hmk
        rw [evs_length, numsE_length] at hs
        obtain ⟨v0, e0⟩ := hb.some_ (i := k * 7) (by omega)
        obtain ⟨v1, e1⟩ := hb.some_ (i := k * 7 + 1) (by omega)
        obtain ⟨v2, e2⟩ := hb.some_ (i := k * 7 + 2) (by omega)
        obtain ⟨v3, e3⟩ := hb.some_ (i := k * 7 + 3) (by omega)
        obtain ⟨v4, e4⟩ := hb.some_ (i := k * 7 + 4) (by omega)
        obtain ⟨v5, e5⟩ := hb.some_ (i := k * 7 + 5) (by omega)
        obtain ⟨v6, e6⟩ := hb.some_ (i := k * 7 + 6) (by omega)
        have q0 := hb.free (k * 7)
        have q1 := hb.free (k * 7 + 1)
        have q2 := hb.free (k * 7 + 2)
        have q3 := hb.free (k * 7 + 3)
        have q4 := hb.free (k * 7 + 4)
        have q5 := hb.free (k * 7 + 5)
        have q6 := hb.free (k * 7 + 6)
        have Next := Lib.hid (mark7 hmk hlt rfl)
        clear hb hs hmk
        go_wp2
        go_roundw
        case rel => exact ⟨k + 1, by omega, by go_num, by go_num, Next.out⟩
        case measure => simp [intOf]; omega
      · have hkl : k = o.length := by omega
        subst hkl
        go_wp2
        go_ret
        refine ⟨rfl, hmk.1.mono h0 h1, ⟨?_⟩⟩
        have hd := MarkV.done (t := 81) (vs := evs (numsE K o.length)) (w := w) (g := g) (by rw [evs_length, numsE_length]; exact hmk)
        rw [hA]
        exact hd.more h0 h1
  · have e : o = [] := List.eq_nil_of_length_eq_zero (by omega)
    subst e
    unfold EvsV
    go_enter Try.func25, Try.ntmps25
    go_wp2
    refine wp_loop_rounds 1 ?_
    rw [rounds_succ]
    go_wp2
    go_ret
    exact ⟨by simp, Only.refl _ _ _, ⟨OwnVs.nil _ _ _ _ _⟩⟩
theorem heldEvs_any (h : EvsH) (o : Evts) (K : Int) (w : World) (B : Nat) (hR : EvsR w B h (numsE K o.length)) (hB : B ≤ w.heap.size) (hL : EvsL o 1048576) (hK : 0 ≤ K) (hK2 : K ≤ 100000000) :
    Calls Try.prog 26 #[EvsV h o, .int .i64 K] w fun e w' => e = .returned (.int .i64 (K + allEvs o)) ∧ Below w.heap.size w w' := by
  obtain ⟨hl⟩ := hL
  obtain ⟨hr⟩ := hR
  obtain ⟨A, c⟩ := h
  have hr : Vs w B A (evs (numsE K o.length)) := hr
  unfold allEvs
  show Calls Try.prog 26 #[.slice A o.length c, .int .i64 K] w _
  go_enter Try.func26, Try.ntmps26
  go_wp2
  go_loop [1, 5] (fun q i => ∃ k : Nat, k ≤ o.length ∧ i = .int .i64 k ∧ q = .int .i64 (K + 7 * (k : Int))) (fun _ i => o.length - (intOf i).toNat)
  case atStart => exact ⟨0, Nat.zero_le _, rfl, by simp⟩
  case round =>
    obtain ⟨k, hk, rfl, rfl⟩ := hrel
    by_cases hlt : k < o.length
    · obtain ⟨b, off, x, rfl, hb, hx, -, hx0, hx1, hx2, hx3, hx4, hx5, hx6⟩ := hr.ev_ (k := k) (by rw [numsE_length]; exact hlt)
      obtain rfl : num7 (K + 7 * (k : Int)) = x := by
        rw [numsE_at K hlt] at hx
        injection hx
      unfold num7 at hx0 hx1 hx2 hx3 hx4 hx5 hx6
      clear hr hx
      go_wp2
      go_round
      case rel => exact ⟨k + 1, by omega, by go_num, by go_num⟩
      case measure => simp [intOf]; omega
    · have hkl : k = o.length := by omega
      subst hkl
      go_wp2
      go_ret
      exact ⟨rfl, Below.refl _ _⟩
end Go.Proofs.Ytidibnmlceccnaa
namespace Go.Proofs.Ytidibnmlceccnaa
open Go.RowKit Pl
set_option maxHeartbeats 4000000
set_option maxRecDepth 100000
set_option linter.unusedVariables false

def evL : Option Evts → Evts
  | none => []
  | some l => l
/-- A list of events, and whether there is one. -/
def AnsEvs (w : World) (l : Evts) (r : Bool) (e : Ending) (w' : World) : Prop :=
  ∃ k : EvsH, e = .returned (.tuple #[EvsV k l, .bool r]) ∧ Below w.heap.size w w' ∧ w.heap.size ≤ w'.heap.size ∧ EvsO w' w.heap.size w'.heap.size k l
theorem AnsEv.to {w : World} {q : Option Evts} {e : Ending} {w' : World} (h : AnsEv w q e w') : AnsEvs w (evL q) (evOk q) e w' := by
  cases q with
  | none =>
    obtain ⟨rfl, hb⟩ := h
    exact ⟨⟨none, 0⟩, rfl, hb, hb.size, ⟨OwnVs.nil _ _ _ _ _⟩⟩
  | some l =>
    obtain ⟨A, c, rfl, hb, ho⟩ := h
    refine ⟨⟨A, c⟩, rfl, hb, hb.size, ⟨fun hn => ?_⟩⟩
    rcases ho.2 with ⟨_, h0⟩ | ⟨g, cap, cur, hv', hbb, hh, _, _, _, htake⟩
    · have e0 : l.length = 0 := by have := ho.1; omega
      rw [show evL (some l) = l from rfl, evs_length] at hn
      omega
    · injection hv' with hA
      subst hA
      have hg : g < w'.heap.size := Bk.lt (t := 81) (cs := cur) hh
      refine ⟨g, cur, rfl, hbb, hg, hh, fun j u hj => ?_⟩
      have hj' : (evs l)[j]? = some u := hj
      rw [← htake, List.getElem?_take] at hj'
      split at hj'
      · simpa using hj'
      · cases hj'
def evE (L : Pg) (xs : List Int) : Evts := evL (evO L xs)
def evR (L : Pg) (xs : List Int) : Bool := evOk (evO L xs)
theorem runE_le {L : Pg} : ∀ {xs : List Int} {f : Nat → Nat}, (evL (runE L f xs)).length ≤ xs.length := by
  intro xs
  induction xs with
  | nil => intro f; unfold runE; simp [evL]
  | cons t r ih =>
    intro f
    unfold runE
    split
    · have := ih (f := stepF L f t.toNat)
      cases hq : runE L (stepF L f t.toNat) r with
      | none => simp [evL]
      | some l => rw [hq] at this; simpa [evL] using this
    · simp [evL]
theorem evE_small {L : Pg} {xs : List Int} (_ : PgS L) (h : IsS xs) : EvsS (evE L xs) := by
  unfold evE evO
  split
  · exact ⟨Nat.le_trans runE_le h.l0⟩
  · exact ⟨by simp [evL]⟩
theorem ievs_any (h : PgH) (L : Pg) (k : IsH) (xs : List Int) (w : World) (B : Nat) (hP : PgR w B h L) (hV : IsR w B k xs) (hB : B ≤ w.heap.size) (SP : PgS L) (LS : IsS xs) :
    Calls Try.prog 19 #[PgV h L, IsV k xs] w (AnsEvs w (evE L xs) (evR L xs)) :=
  (ievents_any h L k.A k.c xs w B hP hV.v hB SP LS.l0).mono fun _ _ h => h.to
theorem sevents_any (h : PgH) (L : Pg) (A : Option Addr) (c : Nat) (xs : List Int) (w : World) (B : Nat) (hP : PgR w B h L) (hV : Vs w B A (ints xs)) (hB : B ≤ w.heap.size) (SP : PgS L) (hm : xs.length ≤ 1048576) :
    Calls Try.prog 16 #[PgV h L, .slice A xs.length c] w (AnsEv w (evO L xs)) := by
  obtain ⟨W, hW⟩ : ∃ W, W = w.alloc (.cells #[.slice h.A L.length h.c] 32) := ⟨_, rfl⟩
  have bW : Below w.heap.size w W := by rw [hW]; go_grown
  have KW := Lib.hid (show Bk W w.heap.size 32 #[.slice h.A L.length h.c] by rw [hW]; exact Bk.new _ _ _)
  have RW := Lib.hid (hP.below bW hB)
  have VW := Lib.hid (hV.below bW hB)
  have BW := Lib.hid bW
  have hBW : B ≤ W.heap.size := Nat.le_trans hB bW.size
  have HW := Lib.hid hW
  clear hW bW hP hV
  rcases Bool.eq_false_or_eq_true (progB L) with hp | hp
  · have e : evO L xs = runE L (keptF L zeroF L.length) xs := by unfold evO; rw [hp]; rfl
    rw [e]
    obtain ⟨q, hq⟩ : ∃ q, runE L (keptF L zeroF L.length) xs = q := ⟨_, rfl⟩
    rw [hq]
    have HQ := Lib.hid hq
    have HL := Lib.hid hp
    clear hp e hq
    go_enter Try.func16, Try.ntmps16
    go_wp2_with fail
    rw [← HW.out]
    refine (sprog_any h.A L h.c W B RW.out hBW SP.l (Lib.hid SP.e) true HL).mono ?_
    rintro e w1 ⟨rfl, hb1⟩
    have B1 := Lib.hid (below_on BW.out hb1)
    have R1 := Lib.hid (RW.out.below hb1 hBW)
    have V1 := Lib.hid (VW.out.below hb1 hBW)
    have hB1 : B ≤ w1.heap.size := Nat.le_trans hBW hb1.size
    have cP := (KW.out.below hb1 KW.out.lt).cell 0
    have lP := (KW.out.below hb1 KW.out.lt).lt
    clear hb1
    go_wp2_with fail
    clear cP lP
    refine (sev_any h L A c xs w1 B R1.out V1.out hB1 SP hm HL.out q HQ).mono ?_
    clear HQ
    rintro e w2 ha
    cases q with
    | none =>
      obtain ⟨rfl, hb2⟩ := ha
      have B2 := Lib.hid (below_on B1.out hb2)
      clear hb2
      go_wp2
      go_returns
      exact ⟨rfl, B2.out⟩
    | some l =>
      obtain ⟨A2, c2, rfl, hb2, ho⟩ := ha
      have B2 := Lib.hid (below_on B1.out hb2)
      have hlo : w.heap.size ≤ w1.heap.size := B1.out.size
      have HO := Lib.hid (own_down ho hlo)
      clear hb2 ho
      go_wp2
      go_returns
      exact ⟨_, _, rfl, B2.out, HO.out⟩
  · have e : evO L xs = none := by unfold evO; rw [hp]; rfl
    rw [e]
    have HL := Lib.hid hp
    clear hp e
    go_enter Try.func16, Try.ntmps16
    go_wp2_with fail
    rw [← HW.out]
    refine (sprog_any h.A L h.c W B RW.out hBW SP.l (Lib.hid SP.e) false HL).mono ?_
    rintro e w1 ⟨rfl, hb1⟩
    have B1 := Lib.hid (below_on BW.out hb1)
    clear hb1
    go_wp2
    go_returns
    exact ⟨rfl, B1.out⟩
theorem sevs_any (h : PgH) (L : Pg) (k : IsH) (xs : List Int) (w : World) (B : Nat) (hP : PgR w B h L) (hV : IsR w B k xs) (hB : B ≤ w.heap.size) (SP : PgS L) (LS : IsS xs) :
    Calls Try.prog 16 #[PgV h L, IsV k xs] w (AnsEvs w (evE L xs) (evR L xs)) :=
  (sevents_any h L k.A k.c xs w B hP hV.v hB SP LS.l0).mono fun _ _ h => h.to
end Go.Proofs.Ytidibnmlceccnaa
