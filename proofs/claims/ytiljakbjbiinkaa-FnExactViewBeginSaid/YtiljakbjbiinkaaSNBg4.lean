/-
  What the reference model's ViewBegin comes to.
-/
import Derived.Test.YtiljakbjbiinkaaSNBn
import Derived.Test.YtiljakbjbiinkaaQSel
import Derived.Test.YtiljakbjbiinkaaRowT
import Derived.Deep.DeepCutAuto
import Derived.Deep.AppendLies
namespace Go.Proofs.Ytiljakbjbiinkaa
open Go.RowKit Pl Go.BigFrame
set_option maxHeartbeats 8000000
set_option maxRecDepth 100000
set_option linter.unusedVariables false

theorem vw9_row : RowT 45 10 := ⟨by kernel_rfl, _, Try.underlying45, rfl⟩
theorem bk_drew9 {w : World} {b : Nat} {t : TypeId} {cs : Array Value} (h : Bk w b t cs) : Bk w.drew b t cs := h
theorem size_drew9 (w : World) : w.drew.heap.size = w.heap.size := rfl
theorem s9beg_any (h : PgH) (L : Pg) (w : World) (h31 : 1 ≤ L.length) (h32 : L.length ≤ 3) :
    Calls Try.prog 61 #[PgV h L] w fun e w' => ∃ k, e = .returned (VwdV k (viewBegS L)) ∧ Below w.heap.size w w' ∧ w.heap.size ≤ w'.heap.size ∧ VwdI w' w.heap.size w'.heap.size k (viewBegS L) := by
  obtain ⟨i1, hi1, jz0, jz1, jz2⟩ := info_parts Try.info110
  obtain ⟨W, hW⟩ : ∃ W, W = (w.alloc (.cells #[.slice h.A L.length h.c] 30)).alloc (.cells #[.slice none 0 0, .slice none 0 0, .slice none 0 0, .slice none 0 0, .slice none 0 0, .slice none 0 0, .slice none 0 0, .slice none 0 0, .slice none 0 0, .slice none 0 0] 45) := ⟨_, rfl⟩
  have bW : Below w.heap.size w W := by rw [hW]; go_grown
  have sW : W.heap.size = w.heap.size + 1 + 1 := by rw [hW]; simp
  have k0 : Bk W w.heap.size 30 #[.slice h.A L.length h.c] := by rw [hW]; exact (Bk.new w _ _).alloc _
  have k1 : Bk W (w.heap.size + 1) 45 #[.slice none 0 0, .slice none 0 0, .slice none 0 0, .slice none 0 0, .slice none 0 0, .slice none 0 0, .slice none 0 0, .slice none 0 0, .slice none 0 0, .slice none 0 0] := by
    rw [hW]; have := Bk.new (w.alloc (.cells #[.slice h.A L.length h.c] 30)) #[.slice none 0 0, .slice none 0 0, .slice none 0 0, .slice none 0 0, .slice none 0 0, .slice none 0 0, .slice none 0 0, .slice none 0 0, .slice none 0 0, .slice none 0 0] 45
    rwa [World.size_alloc] at this
  have K0 := Lib.hid k0
  have K1 := Lib.hid k1
  have BW := Lib.hid bW
  have sWa := Nat.le_of_eq sW
  have sWb := Nat.le_of_eq sW.symm
  have HW := Lib.hid hW
  have l0 := k0.lt
  have allS : ∀ w', Below W.heap.size W w' → (Below W.heap.size W w' ∧ w'.cell? ⟨w.heap.size, 0, none⟩ = some (.slice h.A L.length h.c)) := fun w' hb => ⟨hb, (k0.below hb l0).cell 0⟩
  have AllS := Lib.hid allS
  have cb : W.cell? ⟨w.heap.size, 0, none⟩ = some (.slice h.A L.length h.c) := k0.cell 0
  clear hW bW sW k0 k1 allS
  have tok1 : True := trivial
  have tok2 : True := trivial
  have tok3 : True := trivial
  go_enter Try.func61, Try.ntmps61
  go_wp2_with (rw [← HW.out])
  go_cut [3] (fun sa wx => Got9 W L sa wx)
  case first =>
    go_region_held3 (fun w' => Below W.heap.size W w' ∧ w'.cell? ⟨w.heap.size, 0, none⟩ = some (.slice h.A L.length h.c)) (first | (go_split_ands; exact AllS.out _ (by go_grown)) | (exact AllS.out _ (by go_grown))) (first | (go_at_call 55; go_split_ands; refine (sbegin0_any h L _ h31 h32).mono ?_; rintro e v0 ⟨k, rfl, hv, hz, iS⟩; obtain ⟨hcc0, hff0⟩ := bcell hv; have hB0 : Below W.heap.size W v0 := below_on (by go_grown) hv; have zs0 := hv.size; (try simp at zs0); (try (have hsw0 : W.heap.size < v0.heap.size := (by omega))); have kv0 := Lib.hid hv; have I0 := Lib.hid iS; clear hz iS; clear hv) | (go_at_call 129; clear tok1; go_split_ands; refine (s9zeros_any L.length _ h32 _ rfl).mono ?_; rintro e v1 ⟨kv, rfl, hv, hz, iS⟩; obtain ⟨hcc1, hff1⟩ := bcell hv; have hB1 : Below W.heap.size W v1 := below_on (by go_grown) hv; have zs1 := hv.size; (try simp at zs1); (try (have hsw1 : W.heap.size < v1.heap.size := (by omega))); (try (have hsv0_1 : v0.heap.size < v1.heap.size := (by omega))); have kv1 := Lib.hid hv; have hk0_1 : Below v0.heap.size v0 v1 := below_on (by go_grown) hv; have I1 := Lib.hid iS; clear hz iS; clear hv) | (go_at_call 129; clear tok2; go_split_ands; refine (s9zeros_any 2 _ (by decide) _ rfl).mono ?_; rintro e v2 ⟨kl, rfl, hv, hz, iS⟩; obtain ⟨hcc2, hff2⟩ := bcell hv; have hB2 : Below W.heap.size W v2 := below_on (by go_grown) hv; have zs2 := hv.size; (try simp at zs2); (try (have hsw2 : W.heap.size < v2.heap.size := (by omega))); (try (have hsv0_2 : v0.heap.size < v2.heap.size := (by omega))); (try (have hsv1_2 : v1.heap.size < v2.heap.size := (by omega))); have kv2 := Lib.hid hv; have hk0_2 : Below v0.heap.size v0 v2 := below_on (by go_grown) hv; have hk1_2 : Below v1.heap.size v1 v2 := below_on (by go_grown) hv; have I2 := Lib.hid iS; clear hz iS; clear hv) | (go_at_call 129; clear tok3; go_split_ands; refine (s9zeros_any 2 _ (by decide) _ rfl).mono ?_; rintro e v3 ⟨kk, rfl, hv, hz, iS⟩; obtain ⟨hcc3, hff3⟩ := bcell hv; have hB3 : Below W.heap.size W v3 := below_on (by go_grown) hv; have zs3 := hv.size; (try simp at zs3); (try (have hsw3 : W.heap.size < v3.heap.size := (by omega))); (try (have hsv0_3 : v0.heap.size < v3.heap.size := (by omega))); (try (have hsv1_3 : v1.heap.size < v3.heap.size := (by omega))); (try (have hsv2_3 : v2.heap.size < v3.heap.size := (by omega))); have kv3 := Lib.hid hv; have hk0_3 : Below v0.heap.size v0 v3 := below_on (by go_grown) hv; have hk1_3 : Below v1.heap.size v1 v3 := below_on (by go_grown) hv; have hk2_3 : Below v2.heap.size v2 v3 := below_on (by go_grown) hv; have I3 := Lib.hid iS; clear hz iS; clear hv) | (go_at_call 119; go_split_ands; refine (fill_any 0 3 3 rfl _ (by decide)).mono ?_; rintro e v4 ⟨gf, cf, rfl, hc1, hc2, hgf, hv, iS⟩; obtain ⟨hcc4, hff4⟩ := bcell hv; have hB4 : Below W.heap.size W v4 := below_on (by go_grown) hv; have zs4 := hv.size; (try simp at zs4); (try (have hsw4 : W.heap.size < v4.heap.size := (by omega))); (try (have hsv0_4 : v0.heap.size < v4.heap.size := (by omega))); (try (have hsv1_4 : v1.heap.size < v4.heap.size := (by omega))); (try (have hsv2_4 : v2.heap.size < v4.heap.size := (by omega))); (try (have hsv3_4 : v3.heap.size < v4.heap.size := (by omega))); have kv4 := Lib.hid hv; have hk0_4 : Below v0.heap.size v0 v4 := below_on (by go_grown) hv; have hk1_4 : Below v1.heap.size v1 v4 := below_on (by go_grown) hv; have hk2_4 : Below v2.heap.size v2 v4 := below_on (by go_grown) hv; have hk3_4 : Below v3.heap.size v3 v4 := below_on (by go_grown) hv; have I4 := Lib.hid iS.in_; clear iS hc1 hc2 hgf; clear hv))
    all_goals go_wp2_with fail
    all_goals go_meet
    all_goals
      have e0 := hB0.size
      have e1 := hk0_1.size
      have e2 := hk1_2.size
      have e3 := hk2_3.size
      have e4 := hk3_4.size
      simp only [size_drew9, World.size_alloc] at I0 I1 I2 I3 I4
      have pt : Parts W v4 L k kv kl kk (some ⟨gf, 0, none⟩) _ _ _ _ _ _ _ _ _ _ := ⟨I0.out.below hk0_4 (Nat.le_refl _), I1.out.below hk1_4 (Nat.le_refl _), I2.out.below hk2_4 (Nat.le_refl _), I3.out.below hk3_4 (Nat.le_refl _), I4.out, by omega⟩
    · exact pt.late hB4
    · exact pt.early hB4 (by omega) ((Bk.new v3 #[.slice none 0 0, .slice none 0 0, .slice none 0 0, .slice none 0 0, .slice none 0 0, .slice none 0 0, .slice none 0 0, .slice none 0 0, .slice none 0 0, .slice none 0 0] 45).below kv4.out (by simp)) (by omega)
    · exact pt.early hB4 (by omega) (((Bk.new v2 #[.slice none 0 0, .slice none 0 0, .slice none 0 0, .slice none 0 0, .slice none 0 0, .slice none 0 0, .slice none 0 0, .slice none 0 0, .slice none 0 0, .slice none 0 0] 45).below kv3.out (by simp)).below kv4.out (by omega)) (by omega)
    · exact pt.early hB4 (by omega) ((((Bk.new v1 #[.slice none 0 0, .slice none 0 0, .slice none 0 0, .slice none 0 0, .slice none 0 0, .slice none 0 0, .slice none 0 0, .slice none 0 0, .slice none 0 0, .slice none 0 0] 45).below kv2.out (by simp)).below kv3.out (by omega)).below kv4.out (by omega)) (by omega)
    · exact pt.early hB4 (by omega) (((((Bk.new v0 #[.slice none 0 0, .slice none 0 0, .slice none 0 0, .slice none 0 0, .slice none 0 0, .slice none 0 0, .slice none 0 0, .slice none 0 0, .slice none 0 0, .slice none 0 0] 45).below kv1.out (by simp)).below kv2.out (by omega)).below kv3.out (by omega)).below kv4.out (by omega)) (by omega)
    · exact pt.early hB4 (Nat.le_refl _) ((((((bk_drew9 (Bk.new W #[.slice none 0 0, .slice none 0 0, .slice none 0 0, .slice none 0 0, .slice none 0 0, .slice none 0 0, .slice none 0 0, .slice none 0 0, .slice none 0 0, .slice none 0 0] 45)).below kv0.out (by show _ < (World.alloc _ _).heap.size; simp)).below kv1.out (by omega)).below kv2.out (by omega)).below kv3.out (by omega)).below kv4.out (by omega)) (by omega)
  clear tok1 tok2 tok3 AllS
  obtain ⟨b, k, kv, kl, kk, Af, cf, rfl, hBy, hby, hky, p0, p1, p2, p3, p4⟩ := hcut.g
  clear hcut
  obtain ⟨y, rfl⟩ : ∃ V, V = wc := ⟨_, rfl⟩
  have lb := hky.lt
  have zy := hBy.size
  have P0 := Lib.hid p0
  have P1 := Lib.hid p1
  have P2 := Lib.hid p2
  have P3 := Lib.hid p3
  have P4 := Lib.hid p4
  have BY := Lib.hid hBy
  have start : Hid (N9 W.heap.size y y b 0 (begN L k kv kl kk Af cf) none 0 [] (fun _ => 0) (fun _ => 0) (fun _ => 0)) := Lib.hid ⟨Below.refl _ _, fun _ _ _ => rfl, hky, World.ownsRow_nil .., fun i hi => absurd hi (by omega), fun i hi => absurd hi (by omega)⟩
  have K1y := Lib.hid (K1.out.below hBy (by have := K1.out.lt; omega))
  clear p0 p1 p2 p3 p4 hBy hky
  go_wp2_with fail
  go_loopw [4] (fun i wr => ∃ (m : Nat) (A : Option Addr) (c : Nat) (hs : List Value) (Dn Dv Cv : Nat → Nat), m ≤ 3 ∧ i = .int .i64 m ∧ N9 W.heap.size y wr b m (begN L k kv kl kk Af cf) A c hs Dn Dv Cv) (fun i _ => 3 - (intOf i).toNat)
  case atStart => exact ⟨0, _, _, _, _, _, _, Nat.zero_le _, rfl, start.out⟩
  case round =>
    obtain ⟨m, A, c, hs, Dn, Dv, Cv, hm, rfl, h9⟩ := hrel
    clear start
    have hz := h9.bel.size
    have lbr := h9.box.lt
    by_cases hlt : m < 3
    · have c5 : wr.cell? ⟨b, 5, none⟩ = some (.slice A m c) := h9.box.cell 5
      have hmi : (m : Int) < 3 := by omega
      have S0 : ∀ z : Ws (Fr wr []), z.val.cell? ⟨b, 5, none⟩ = some (.slice A m c) := Ws.same (bs := []) (by omega) c5
      haveI hne := Nonempty.intro (Ws.mk wr.drew ((fr_none wr).drew))
      have H9 := Lib.hid h9
      clear h9 c5
      go_wp2_with fail
      refine region_sel (C := In (Fr wr [])) 6 [true, true, false, false, false, false, false, false, false] (by kernel_rfl) (In.mk (fr_none wr).drew) ?_
      simp only [selR, selI]
      repeat (go_big_quiet_step (fail))
      refine wpQuiet_nil ?_
      clear S0
      refine seqM_step (by rfl) ?_
      intro R hR
      go_wp2_with fail
      refine (fill_any 0 3 3 rfl _ (by decide)).mono ?_
      rintro e w1 ⟨g1, c1, rfl, hc1, hc2, hg1, hb', iS⟩
      have hb1 : Below wr.heap.size wr w1 := below_on ((Below.refl wr.heap.size wr).drew) hb'
      have B1 := Lib.hid hb1
      have OV := Lib.hid (show OwnVs w1 wr.heap.size w1.heap.size 3 (some ⟨g1, 0, none⟩) (ints [0, 0, 0]) from iS)
      have z1 := hb1.size
      have OW := Lib.hid (H9.out.own.kept (grown_of_below hb1 none) (by cases hv : (Value.slice A m c).ownBlock <;> simp))
      clear hb' hb1 iS hc1 hc2 hg1
      go_wp2
      refine hR _ _ (fun _ => In.mk ⟨B1.out, fun b cs hm => absurd hm (by simp)⟩) ?_
      refine seqM_step (by rfl) ?_
      intro R hR
      go_wp2
      refine hR _ _ (fun _ => In.mk ⟨B1.out, fun b cs hm => absurd hm (by simp)⟩) ?_
      refine seqM_step (by rfl) ?_
      intro R hR
      go_wp2
      refine hR _ _ (fun _ => In.mk ⟨B1.out.alloc z1 _, fun b cs hm => absurd hm (by simp)⟩) ?_
      refine seqM_step (by rfl) ?_
      intro R hR
      go_wp2
      refine hR _ _ (fun _ => In.mk ⟨(B1.out.alloc z1 _).alloc (by simp; omega) _, fun b cs hm => absurd hm (by simp)⟩) ?_
      refine seqM_step (by rfl) ?_
      intro R hR
      simp only [List.getElem_toArray, List.getElem_cons_succ, List.getElem_cons_zero]
      go_wp2_with (at_builtin; refine wpList_append_own _ rfl (.tmp 20) (.tmp 24) 42 rfl y.heap.size 110 i1 _ 1 24 Try.underlying42 hi1 jz0 jz1 jz2 rfl (by decide) _ m hs rfl ((OW.out.alloc _).alloc _) ⟨_, 0, none⟩ 1 1 [.slice (some ⟨w1.heap.size, 0, none⟩) 1 1] rfl rfl (by have := cell1_new (w1.alloc (.cells #[.int .i64 0, .slice (some ⟨g1, 0, none⟩) 3 c1, .bool false] 112)) (.slice (some ⟨w1.heap.size, 0, none⟩) 1 1) 110; simpa using this) (by intro u hu; simp at hu; subst hu; rfl) (by unfold maxLen; omega) (by omega) (by simp; omega) ?_; intro v' w4 own4 grow4 _; obtain ⟨g4, cap4, rfl, hg4, hlt4⟩ := own4.form (by omega); have NX := Lib.hid (H9.out.next (c1 := c1) lb (by omega) B1.out OV.out own4 grow4 (begN_set _ _ _ _ _ _ _ _ _ _ _ _ _)); have K4 := Lib.hid (H9.out.box4 B1.out grow4); clear own4 grow4)
      refine hR _ _ (fun h => absurd h (by omega)) ?_
      have x5 : w4.cell? ⟨b, 5, none⟩ = some (.slice A m c) := K4.out.cell 5
      have f5 := K4.out.free 5
      refine seqM_step (by rfl) ?_
      intro R hR
      go_wp2
      refine hR _ _ (fun h => absurd h (by omega)) ?_
      refine seqM_step (by rfl) ?_
      intro R hR
      go_wp2
      refine hR _ _ (fun h => absurd h (by omega)) ?_
      refine seqM_nil ?_
      go_wp2
      go_roundw
      case rel => exact ⟨m + 1, _, _, _, _, _, _, by omega, by go_num, NX.out⟩
      case measure => simp [intOf]; omega
    · have hm3 : m = 3 := by omega
      subst hm3
      have KB := Lib.hid h9.box
      have rg := Lib.hid h9.box.range
      have ND := Lib.hid h9.done
      have BZ := Lib.hid (BY.out.trans h9.bel)
      have hne1 : w.heap.size + 1 ≠ b := by omega
      have K1r := Lib.hid (show Bk wr (w.heap.size + 1) 45 _ from (h9.on _ (by omega) hne1).trans K1y.out)
      have far := Lib.hid h9.on
      clear h9
      go_wp2_with (first | (refine ld_r vw9_row rfl _ rfl b 0 rfl (begN L k kv kl kk Af cf A 3 c) rg.out rfl ?_) | (refine st_r vw9_row rfl _ _ rfl (w.heap.size + 1) rfl 45 _ (begN L k kv kl kk Af cf A 3 c) rfl K1r.out rfl rfl (begN_one _ _ _ _ _ _ _ _ _ _) ?_; intro V5 s5))
      refine bodyPost_ret (v := .agg (begN L k kv kl kk Af cf A 3 c)) (res_r vw9_row rfl rfl s5.bk rfl) rfl ?_
      have z5 := s5.size
      obtain ⟨l0', h0', a0, b0, c0', q0⟩ := P0.out
      obtain ⟨l1', h1', a1, b1, c1', q1⟩ := P1.out
      obtain ⟨l2', h2', a2, b2, c2', q2⟩ := P2.out
      obtain ⟨l3', h3', a3, b3, c3', q3⟩ := P3.out
      obtain ⟨l4', h4', a4, b4, c4', q4⟩ := P4.out
      have hk : ∀ i, i < y.heap.size → i ≠ b → i ≠ w.heap.size + 1 → V5.heap[i]? = y.heap[i]? := fun i h1 h2 h3 => (s5.far i h3).trans (far.out i h1 h2)
      have hN := ND.out.keep (w' := V5) (lo' := w.heap.size) (hi' := V5.heap.size) (by omega) (by omega) fun i h1 h2 => s5.far i (by omega)
      have r0 := q0.keep (w' := V5) (lo' := w.heap.size) (hi' := V5.heap.size) (by omega) (by omega) fun i h1 h2 => hk i (by omega) (by omega) (by omega)
      have r1 := q1.keep (w' := V5) (lo' := w.heap.size) (hi' := V5.heap.size) (by omega) (by omega) fun i h1 h2 => hk i (by omega) (by omega) (by omega)
      have r2 := q2.keep (w' := V5) (lo' := w.heap.size) (hi' := V5.heap.size) (by omega) (by omega) fun i h1 h2 => hk i (by omega) (by omega) (by omega)
      have r3 := q3.keep (w' := V5) (lo' := w.heap.size) (hi' := V5.heap.size) (by omega) (by omega) fun i h1 h2 => hk i (by omega) (by omega) (by omega)
      have r4 := q4.keep (w' := V5) (lo' := w.heap.size) (hi' := V5.heap.size) (by omega) (by omega) fun i h1 h2 => hk i (by omega) (by omega) (by omega)
      refine ⟨⟨k, ⟨A, c⟩, kv, kl, kk, ⟨Af, cf⟩⟩, ?_, (BW.out.trans (BZ.out.mono (by omega))).trans (s5.bel _ (by omega)), by omega, ⟨r0, hN, r1, r2, r3, r4⟩⟩
      unfold begN
      simp [VwdV, viewBegS]
end Go.Proofs.Ytiljakbjbiinkaa
namespace Go.Proofs.Ytiljakbjbiinkaa
open Go.RowKit Pl Go.BigFrame
set_option maxHeartbeats 4000000
set_option maxRecDepth 100000
set_option linter.unusedVariables false

def vw9C (k : VwdH) (o : Vwd) : Array Value := #[.slice k.h.A0 o.st.f0.length k.h.c0, .slice k.h.A1 o.st.f1.length k.h.c1, .slice k.h.A2 o.st.f2.length k.h.c2, .slice k.h.A3 o.st.f3.length k.h.c3, .slice k.h.A4 o.st.f4.length k.h.c4, .slice k.n.A o.n.length k.n.c, .slice k.v.A o.v.length k.v.c, .slice k.l.A o.l.length k.l.c, .slice k.k.A o.k.length k.k.c, .slice k.f.A o.f.length k.f.c]
theorem vw9C_one (k : VwdH) (o : Vwd) : (vw9C k o).all (·.oneCell') = true := by simp [vw9C, Value.oneCell']
theorem svbeg_any (h : PgH) (L : Pg) (w : World) (B : Nat) (hR : PgR w B h L) (hB : B ≤ w.heap.size) (SP : PgS L) :
    Calls Try.prog 23 #[PgV h L] w (AnsIVwd w (viewBegE L) (progB L)) := by
  have LP := PgS_L SP
  have hl := LP.l
  obtain ⟨Z, hZ⟩ : ∃ Z : Array Value, Z = #[.slice none 0 0, .slice none 0 0, .slice none 0 0, .slice none 0 0, .slice none 0 0, .slice none 0 0, .slice none 0 0, .slice none 0 0, .slice none 0 0, .slice none 0 0] := ⟨_, rfl⟩
  obtain ⟨W, hW⟩ : ∃ W, W = (w.alloc (.cells #[.slice h.A L.length h.c] 30)).alloc (.cells #[.slice none 0 0, .slice none 0 0, .slice none 0 0, .slice none 0 0, .slice none 0 0, .slice none 0 0, .slice none 0 0, .slice none 0 0, .slice none 0 0, .slice none 0 0] 45) := ⟨_, rfl⟩
  have bW : Below w.heap.size w W := by rw [hW]; go_grown
  have sW : W.heap.size = w.heap.size + 1 + 1 := by rw [hW]; simp
  have k0 : Bk W w.heap.size 30 #[.slice h.A L.length h.c] := by rw [hW]; exact (Bk.new w _ _).alloc _
  have k1 : Bk W (w.heap.size + 1) 45 Z := by
    rw [hW, hZ]; have := Bk.new (w.alloc (.cells #[.slice h.A L.length h.c] 30)) #[.slice none 0 0, .slice none 0 0, .slice none 0 0, .slice none 0 0, .slice none 0 0, .slice none 0 0, .slice none 0 0, .slice none 0 0, .slice none 0 0, .slice none 0 0] 45
    rwa [World.size_alloc] at this
  have sZ : Z.size = 10 := by rw [hZ]; rfl
  have oZ : Z.all (·.oneCell') = true := by rw [hZ]; simp [Value.oneCell']
  have eZ : (.agg Z : Value) = VwdV VwdN VwdE := by rw [hZ]; rfl
  have P0 := Lib.hid (hR.below bW hB)
  have K0 := Lib.hid k0
  have K1 := Lib.hid k1
  have BW := Lib.hid bW
  have sWa := Nat.le_of_eq sW
  have sWb := Nat.le_of_eq sW.symm
  have HW := Lib.hid hW
  have HZ := Lib.hid hZ
  have EZ := Lib.hid eZ
  clear k0 k1 bW sW hW hR hZ eZ
  rcases Bool.eq_false_or_eq_true (progB L) with hp | hp
  rotate_left
  · have hE : viewBegE L = VwdE := by unfold viewBegE; rw [hp]; rfl
    rw [hE, hp]
    have HP := Lib.hid hp
    clear hE hp
    go_enter Try.func23, Try.ntmps23
    go_wp2_with fail
    rw [← HW.out]
    refine (sprog_any h.A L h.c W B P0.out (by omega) SP.l (Lib.hid SP.e) false HP).mono ?_
    rintro e w1 ⟨rfl, hb1⟩
    have B1 := Lib.hid (below_on BW.out hb1)
    have z1 := hb1.size
    have K11 := Lib.hid (K1.out.below hb1 K1.out.lt)
    clear hb1
    go_wp2_with (refine st_r vw9_row rfl _ _ rfl (w.heap.size + 1) rfl 45 _ Z (by rw [HZ.out]; rfl) K11.out sZ sZ oZ ?_; intro V5 s5)
    refine bodyPost_ret (v := .tuple #[.agg Z, .bool false]) (res_r2 vw9_row rfl rfl rfl s5.bk sZ) rfl ?_
    have z5 := s5.size
    exact ⟨VwdN, by rw [EZ.out], B1.out.trans (s5.bel _ (by omega)), by omega, VwdI.none_ _ _ _ _⟩
  have hE : viewBegE L = viewBegS L := by unfold viewBegE; rw [hp]; rfl
  rw [hE, hp]
  obtain ⟨h31, h32⟩ := prog_len hp
  have HP := Lib.hid hp
  have HL := Lib.hid hp
  clear hE hp
  go_enter Try.func23, Try.ntmps23
  go_wp2_with fail
  rw [← HW.out]
  refine (sprog_any h.A L h.c W B P0.out (by omega) SP.l (Lib.hid SP.e) true HP).mono ?_
  rintro e w1 ⟨rfl, hb1⟩
  have B1 := Lib.hid (below_on BW.out hb1)
  have z1 := hb1.size
  have K01 := Lib.hid (K0.out.below hb1 K0.out.lt)
  have K11 := Lib.hid (K1.out.below hb1 K1.out.lt)
  clear hb1
  have cb : w1.cell? ⟨w.heap.size, 0, none⟩ = some (.slice h.A L.length h.c) := K01.out.cell 0
  have l1 := K11.out.lt
  go_wp2_with fail
  refine (s9beg_any h L w1 h31 h32).mono ?_
  rintro e w2 ⟨hv, rfl, hb2, hl2, iv⟩
  have B2 := Lib.hid (below_on B1.out hb2)
  have Iv := Lib.hid iv
  have K12 := Lib.hid (K11.out.below hb2 l1)
  clear hb2 iv cb
  go_wp2_with (refine st_r vw9_row rfl _ _ rfl (w.heap.size + 1) rfl 45 _ (vw9C hv (viewBegS L)) rfl K12.out sZ rfl (vw9C_one _ _) ?_; intro V5 s5)
  refine bodyPost_ret (v := .tuple #[.agg (vw9C hv (viewBegS L)), .bool true]) (res_r2 vw9_row rfl rfl rfl s5.bk rfl) rfl ?_
  have z5 := s5.size
  exact ⟨hv, rfl, B2.out.trans (s5.bel _ (by omega)), by omega, Iv.out.keep (by omega) (by omega) fun q h1 h2 => s5.far q (by omega)⟩
end Go.Proofs.Ytiljakbjbiinkaa
