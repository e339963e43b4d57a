/-
  What the program's Do comes to.
-/
import Derived.Test.YtiljakbjbiinkaaGone
import Derived.Deep.DeepCutAuto
import Derived.Deep.RegionHeld3
import Derived.Test.YtiljakbjbiinkaaICan
namespace Go.Proofs.Ytiljakbjbiinkaa
open Go.RowKit Pl Go.BigFrame
set_option maxHeartbeats 4000000
set_option maxRecDepth 100000
set_option linter.unusedVariables false

/-- A statement lies in a box of its own. -/
def GotX (w : World) (x : Sm) (s7 : Value) (wx : World) : Prop :=
  ∃ g, s7 = .pointer (some ⟨g, 0, none⟩) ∧ Below w.heap.size w wx ∧ w.heap.size ≤ g ∧ g < wx.heap.size ∧ Bk wx g 132 #[.int .i64 x.k, .int .i64 x.a, .int .i64 x.b, .int .i64 x.c, .bool x.s]
theorem bkx_drew {w : World} {g : Nat} {t : TypeId} {cs : Array Value} (h : Bk w g t cs) : Bk w.drew g t cs := h
theorem gotX_late {w v : World} {x : Sm} (h : Below w.heap.size w v) :
    GotX w x (.pointer (some ⟨v.heap.size, 0, none⟩)) (v.alloc (.cells #[.int .i64 x.k, .int .i64 x.a, .int .i64 x.b, .int .i64 x.c, .bool x.s] 132)) :=
  ⟨_, rfl, h.alloc h.size _, h.size, by simp, Bk.new _ _ _⟩
theorem gotX_early {w v : World} {x : Sm} {b : Nat} {a0 a1 a2 a3 a4 : Value} (h : Below w.heap.size w v) (hb : Bk v b 132 #[a0, a1, a2, a3, a4]) (hwb : w.heap.size ≤ b) :
    GotX w x (.pointer (some ⟨b, 0, none⟩)) (((((v.setCell ⟨b, 0, none⟩ (.int .i64 x.k)).setCell ⟨b, 1, none⟩ (.int .i64 x.a)).setCell ⟨b, 2, none⟩ (.int .i64 x.b)).setCell ⟨b, 3, none⟩ (.int .i64 x.c)).setCell ⟨b, 4, none⟩ (.bool x.s)) := by
  have h5 := ((((hb.set 0 (.int .i64 x.k)).set 1 (.int .i64 x.a)).set 2 (.int .i64 x.b)).set 3 (.int .i64 x.c)).set 4 (.bool x.s)
  exact ⟨b, rfl, ((((h.setCell hwb _).setCell hwb _).setCell hwb _).setCell hwb _).setCell hwb _, hwb, h5.lt, by simpa using h5⟩
theorem stepped_any (h : PgH) (L : Pg) (f : Nat → Nat) (t : Nat) (w : World) (B : Nat) (hP : PgR w B h L) (hB : B ≤ w.heap.size) (hL : progB L = true) (hf : Good L f) (ht : t < L.length) (hc : canF L f t = true) (h4 : ∀ n, n < 2 → f (20 + n) ≤ 4) :
    Calls Try.prog 186 #[PgV h L, .int .u64 (enc WS f : Nat), .int .i64 t] w fun e w' => e = .returned (.int .u64 (enc WS (stepF L f t) : Nat)) ∧ Below w.heap.size w w' := by
  obtain ⟨h31, h32⟩ := prog_len hL
  obtain ⟨A, c0⟩ := h
  obtain ⟨pb, po, xs, Ai, ci, hA0, hpb, hxs, hc1, hro, hmi, hsu⟩ := pg_at hP ht
  simp only at hA0
  subst hA0
  have ht3 : t < 3 := by omega
  obtain ⟨m, hm⟩ : ∃ m, f (3 + t) = m := ⟨_, rfl⟩
  have hd : L.getD t [] = xs := getD_some hxs
  have hc' := hc
  unfold canF at hc'
  rw [hm, hd] at hc'
  have hle := hf.at_ t xs hxs
  have hml : m < xs.length := by
    have : m ≠ xs.length := by intro e; subst e; simp at hc'
    omega
  obtain ⟨hx6, hxok⟩ := prog_thr hL hxs
  obtain ⟨ab, ao, x, hAi, hab, hxm, -, hsm⟩ := hsu.at_ hml
  subst hAi
  have hok := hxok m x hxm
  have hsx : smAt L t m = x := by unfold smAt; rw [hd]; exact getD_some hxm
  have h9 : x.k = 9 → ∀ n : Nat, x.b = (n : Int) → 1 ≤ f (20 + n) ∧ f (20 + n) ≤ 4 := by
    intro hk n hn
    obtain ⟨n', hn', hb'⟩ := ok_get hok hk
    have : n = n' := by omega
    subst this
    refine ⟨?_, h4 n hn'⟩
    rw [hsx] at hc'
    have hw : waitF f t x = (f (20 + n) == 0) := by unfold waitF; rw [hk, hn]; simp
    rw [hw] at hc'
    have h0 : f (20 + n) ≠ 0 := by intro e; rw [e] at hc'; simp at hc'
    omega
  have H9 := Lib.hid h9
  obtain ⟨W, hW⟩ : ∃ W, W = w.alloc (.cells #[.slice (some ⟨pb, po, none⟩) L.length c0] 30) := ⟨_, rfl⟩
  have bW : Below w.heap.size w W := by rw [hW]; go_grown
  have kW : Bk W w.heap.size 30 #[.slice (some ⟨pb, po, none⟩) L.length c0] := by rw [hW]; exact Bk.new _ _ _
  have hpw : pb < W.heap.size := by have := bW.size; omega
  have haw : ab < W.heap.size := by have := bW.size; omega
  have hcW : W.cell? ⟨pb, po + t, none⟩ = some (.slice (some ⟨ab, ao, none⟩) xs.length ci) := (bW.cell (p := ⟨pb, po + t, none⟩) (by show pb < w.heap.size; omega)).trans hc1
  have hsW : SmAt W ab (ao + m * 5) x := hsm.keep (fun o => bW.cell (p := ⟨ab, o, none⟩) (by show ab < w.heap.size; omega))
  obtain ⟨d0, d1, d2, d3, d4⟩ := hsW
  have hti : (t : Int) < (L.length : Int) := by omega
  have hmi2 : (m : Int) < (xs.length : Int) := by omega
  have HE : Hid ((f (3 + t) : Int) + fL 0 = (m : Int)) := Lib.hid (by rw [hm]; simp [fL])
  have EN := Lib.hid (fun W' => entF fld0 hf.ok t (show t < 3 by omega) W' _ HE)
  have BW := Lib.hid bW
  have allS : ∀ w', Below W.heap.size W w' → (Below W.heap.size W w' ∧ w'.cell? ⟨w.heap.size, 0, none⟩ = some (.slice (some ⟨pb, po, none⟩) L.length c0) ∧ w'.cell? ⟨pb, po + t, none⟩ = some (.slice (some ⟨ab, ao, none⟩) xs.length ci) ∧ w'.cell? ⟨ab, ao + m * 5, none⟩ = some (.int .i64 x.k) ∧ w'.cell? ⟨ab, ao + m * 5 + 1, none⟩ = some (.int .i64 x.a) ∧ w'.cell? ⟨ab, ao + m * 5 + 2, none⟩ = some (.int .i64 x.b) ∧ w'.cell? ⟨ab, ao + m * 5 + 3, none⟩ = some (.int .i64 x.c) ∧ w'.cell? ⟨ab, ao + m * 5 + 4, none⟩ = some (.bool x.s)) := fun w' hb =>
    ⟨hb, box_at (kW.below hb kW.lt), (hb.cell (p := ⟨pb, po + t, none⟩) hpw).trans hcW, (hb.cell (p := ⟨ab, ao + m * 5, none⟩) haw).trans d0, (hb.cell (p := ⟨ab, ao + m * 5 + 1, none⟩) haw).trans d1, (hb.cell (p := ⟨ab, ao + m * 5 + 2, none⟩) haw).trans d2, (hb.cell (p := ⟨ab, ao + m * 5 + 3, none⟩) haw).trans d3, (hb.cell (p := ⟨ab, ao + m * 5 + 4, none⟩) haw).trans d4⟩
  have AllS := Lib.hid allS
  have HW := Lib.hid hW
  have HP := Lib.hid (hP.below bW hB)
  have KW := Lib.hid kW
  have cF := box_at kW
  have lF := kW.lt
  have HF := Lib.hid hf
  have HX := Lib.hid hxs
  have Hm := Lib.hid hm
  have Hsx := Lib.hid hsx
  have Hc := Lib.hid hc
  have zW := bW.size
  clear h9 allS hW bW kW hP hc1 hsu hsm hf hxs hm hsx hc hc' hxok hd hxm
  unfold maxLen at hmi
  go_enter Try.func186, Try.ntmps186
  go_wp2_with fail
  rw [← HW.out]
  go_cut [7] (fun s7 wx => GotX W x s7 wx)
  case first =>
    go_region_held3 (fun w' => Below W.heap.size W w' ∧ w'.cell? ⟨w.heap.size, 0, none⟩ = some (.slice (some ⟨pb, po, none⟩) L.length c0) ∧ w'.cell? ⟨pb, po + t, none⟩ = some (.slice (some ⟨ab, ao, none⟩) xs.length ci) ∧ w'.cell? ⟨ab, ao + m * 5, none⟩ = some (.int .i64 x.k) ∧ w'.cell? ⟨ab, ao + m * 5 + 1, none⟩ = some (.int .i64 x.a) ∧ w'.cell? ⟨ab, ao + m * 5 + 2, none⟩ = some (.int .i64 x.b) ∧ w'.cell? ⟨ab, ao + m * 5 + 3, none⟩ = some (.int .i64 x.c) ∧ w'.cell? ⟨ab, ao + m * 5 + 4, none⟩ = some (.bool x.s)) (first | (go_split_ands; exact AllS.out _ (by go_grown)) | (exact AllS.out _ (by go_grown))) (first | (go_at_call 152; go_split_ands; refine (EN.out _).mono ?_; rintro e v1 ⟨rfl, hv1⟩; obtain ⟨hcc1, hff1⟩ := bcell hv1; have hBv1 : Below W.heap.size W v1 := below_on (by go_grown) hv1; have hz1v := hv1.size; (try simp at hz1v); have hy1 := hBv1.size; have k11 := Lib.hid hv1; clear hv1))
    all_goals go_wp2_with fail
    all_goals go_meet
    all_goals first | exact gotX_late hBv1 | exact gotX_early hBv1 ((bkx_drew (Bk.new W #[.int .i64 0, .int .i64 0, .int .i64 0, .int .i64 0, .bool false] 132)).below k11.out (by show _ < (World.alloc _ _).heap.size; simp)) (Nat.le_refl _) | exact gotX_early (hBv1.alloc hy1 _) (Bk.new _ _ _) hy1 | skip
  case rest =>
    clear AllS cF lF d0 d1 d2 d3 d4
    obtain ⟨g, rfl, hb, hg1, hg2, hk⟩ := hcut
    obtain ⟨V, rfl⟩ : ∃ V, V = wc := ⟨_, rfl⟩
    have zV := hb.size
    have cP := box_at (KW.out.below hb KW.out.lt)
    obtain ⟨x0, x1, x2, x3, x4⟩ : V.cell? ⟨g, 0, none⟩ = some (.int .i64 x.k) ∧ V.cell? ⟨g, 1, none⟩ = some (.int .i64 x.a) ∧ V.cell? ⟨g, 2, none⟩ = some (.int .i64 x.b) ∧ V.cell? ⟨g, 3, none⟩ = some (.int .i64 x.c) ∧ V.cell? ⟨g, 4, none⟩ = some (.bool x.s) := ⟨hk.cell 0, hk.cell 1, hk.cell 2, hk.cell 3, hk.cell 4⟩
    have lP : w.heap.size < V.heap.size := by omega
    have BV := Lib.hid (below_on BW.out hb)
    have HPV := Lib.hid (HP.out.below hb (by omega))
    have KV := Lib.hid (KW.out.below hb KW.out.lt)
    have XV := Lib.hid hk
    have hlt3 : f (3 + t) < (L.getD t []).length := by rw [Hm.out, getD_some HX.out]; exact hml
    have hok1 : okF WS (affF f t x) := affF_ok HF.out.ok ht3 hok H9.out
    have hg1 : Good L (affF f t x) := ⟨hok1, fun u ys hu => by
      have hu3 : u < 3 := by have := (List.getElem?_eq_some_iff.1 hu).1; omega
      rw [affF_lo (by omega)]; exact HF.out.at_ u ys hu⟩
    have hlt4 : affF f t x (3 + t) < (L.getD t []).length := by rw [affF_lo (by omega)]; exact hlt3
    have hfin : Hid (goF L (affF f t x) t x = stepF L f t) := Lib.hid (by have := goF_aff (L := L) (f := f) (t := t) ht3; rw [Hm.out, Hsx.out] at this; exact this)
    have G1 := Lib.hid hg1
    have LT := Lib.hid hlt4
    clear hb hk hlt3 hlt4 hok1 hg1 hcW
    have lp := KV.out.lt
    have lx := XV.out.lt
    have gp : ∀ y : Ws (Fr V []), y.val.cell? ⟨w.heap.size, 0, none⟩ = some (.slice (some ⟨pb, po, none⟩) L.length c0) := Ws.same (bs := []) lp cP
    have gx0 : ∀ y : Ws (Fr V []), y.val.cell? ⟨g, 0, none⟩ = some (.int .i64 x.k) := Ws.same (bs := []) lx x0
    have gx1 : ∀ y : Ws (Fr V []), y.val.cell? ⟨g, 1, none⟩ = some (.int .i64 x.a) := Ws.same (bs := []) lx x1
    have gx2 : ∀ y : Ws (Fr V []), y.val.cell? ⟨g, 2, none⟩ = some (.int .i64 x.b) := Ws.same (bs := []) lx x2
    have gx3 : ∀ y : Ws (Fr V []), y.val.cell? ⟨g, 3, none⟩ = some (.int .i64 x.c) := Ws.same (bs := []) lx x3
    have gx4 : ∀ y : Ws (Fr V []), y.val.cell? ⟨g, 4, none⟩ = some (.bool x.s) := Ws.same (bs := []) lx x4
    have hBU : B ≤ V.heap.size := by omega
    have Gp := Lib.hid (fun y : Ws (Fr V []) => HPV.out.below y.ok.below hBU)
    have Gz := Lib.hid (fun y : Ws (Fr V []) => Nat.le_trans hBU y.ok.below.size)
    have HS := Lib.hid (fr_none V)
    haveI hne := Nonempty.intro (Ws.mk _ (fr_none V))
    clear cP x0 x1 x2 x3 x4
    go_wp2_with fail
    refine region_in (by kernel_rfl) HS.out.drew ?_
    repeat (go_big_quiet_step (first | (go_at_call 192; exact call_in (affected_any f t x _ HF.out.ok ht3 hok H9.out)) | (go_at_call 191; exact call_in (goneon_any ⟨some ⟨pb, po, none⟩, c0⟩ L (affF f t x) t x _ B (Gp.out _) (Gz.out _) hL G1.out ht LT.out hok _ hfin))))
    refine wpQuiet_nil ?_
    rintro _ ⟨⟨w5, hw5⟩, rfl⟩
    have hB5 := below_on BV.out hw5.below
    clear gp gx0 gx1 gx2 gx3 gx4
    go_wp2
    go_ret
    exact ⟨rfl, hB5⟩
end Go.Proofs.Ytiljakbjbiinkaa
namespace Go.Proofs.Ytiljakbjbiinkaa
open Go.RowKit Pl
set_option maxHeartbeats 4000000
set_option maxRecDepth 100000
set_option linter.unusedVariables false

/-- The state behind the next statement of a thread. -/
def doB (L : Pg) (s : Sta) (th : Int) : Sta := if canB L s th then staF L (stepF L (wdF L s) th.toNat) else StaE
theorem stepF_good {L : Pg} {f : Nat → Nat} {t : Nat} (hL : progB L = true) (hf : Good L f) (ht : t < L.length) (hc : canF L f t = true) (h4 : ∀ n, n < 2 → f (20 + n) ≤ 4) : Good L (stepF L f t) := by
  obtain ⟨h31, h32⟩ := prog_len hL
  obtain ⟨xs, hxs⟩ : ∃ xs, L[t]? = some xs := ⟨L[t], List.getElem?_eq_getElem ht⟩
  have hd : L.getD t [] = xs := getD_some hxs
  have hle := hf.at_ t xs hxs
  unfold canF at hc
  rw [hd] at hc
  have hml : f (3 + t) < xs.length := by
    have : f (3 + t) ≠ xs.length := by intro e; rw [e] at hc; simp at hc
    omega
  obtain ⟨hx6, hxok⟩ := prog_thr hL hxs
  have hsx : smAt L t (f (3 + t)) = xs[f (3 + t)] := by unfold smAt; rw [hd]; simp [List.getD, hml]
  have hok : (smAt L t (f (3 + t))).okb = true := by rw [hsx]; exact hxok _ _ (List.getElem?_eq_getElem hml)
  have hn : nextF L f t (smAt L t (f (3 + t))) ≤ xs.length := by have := nextF_le (L := L) (f := f) (t := t) (x := smAt L t (f (3 + t))) (by rw [hd]; exact hml); rwa [hd] at this
  unfold stepF
  refine keptF_good ?_ h32
  generalize hx : smAt L t (f (3 + t)) = x at *
  generalize nextF L f t x = nx at *
  have hok1 : okF WS (upd f (3 + t) nx) := okF_upd fld0 hf.ok (i := t) (show t < 3 by omega) (show nx < 8 by omega)
  refine ⟨affF_ok hok1 (by omega) hok fun hk n hn' => ?_, fun u ys hu => ?_⟩
  · obtain ⟨n', hn2, hb'⟩ := ok_get hok hk
    have : n = n' := by omega
    subst this
    have e : (upd f (3 + t) nx) (20 + n) = f (20 + n) := by unfold upd; rw [if_neg (by omega)]
    rw [e]
    refine ⟨?_, h4 n hn2⟩
    have hw : waitF f t x = (f (20 + n) == 0) := by unfold waitF; rw [hk, hn']; simp
    rw [hw] at hc
    have h0 : f (20 + n) ≠ 0 := by intro e; rw [e] at hc; simp at hc
    omega
  · have hu3 : u < 3 := by have := (List.getElem?_eq_some_iff.1 hu).1; omega
    rw [affF_lo (by omega)]
    unfold upd
    by_cases e : 3 + u = 3 + t
    · rw [if_pos e]
      have e' : u = t := by omega
      subst e'
      rw [hxs] at hu; injection hu with hu; subst hu; exact hn
    · rw [if_neg e]; exact hf.at_ u ys hu

end Go.Proofs.Ytiljakbjbiinkaa
