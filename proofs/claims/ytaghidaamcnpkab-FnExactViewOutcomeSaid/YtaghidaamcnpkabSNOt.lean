/-
  What the reference model's ViewOutcome comes to.
-/
import Derived.Test.YtaghidaamcnpkabNOut
import Derived.Test.YtaghidaamcnpkabSNOk
import Derived.Test.YtaghidaamcnpkabSOut0
import Derived.Test.YtaghidaamcnpkabFldW
import Derived.Test.YtaghidaamcnpkabQTail
import Derived.Deep.QuietTactic
namespace Go.Proofs.Ytaghidaamcnpkab
open Go.RowKit Pl Go.BigFrame
set_option maxHeartbeats 8000000
set_option maxRecDepth 100000
set_option linter.unusedVariables false

theorem oc_put {w : World} {lo hi : Nat} {k : OcH} {L : Pg} {f : Nat → Nat} (h32 : L.length ≤ 3) (h : OcO w lo hi k (ocF L f)) {i : Nat} (hi' : i < 3) (v : Nat) :
    ∃ g, k.A1 = some ⟨g, 0, none⟩ ∧ lo ≤ g ∧ g < hi ∧ g < w.heap.size ∧ w.cell? ⟨g, i, none⟩ = some (.int .i64 ((f (15 + i) : Int) + fL 2)) ∧ w.frozen? ⟨g, i, none⟩ = false ∧ OcO (w.setCell ⟨g, i, none⟩ (.int .i64 (v : Int))) lo hi k (ocF L (upd f (15 + i) v)) := by
  obtain ⟨g, y, hA, h0, hg, hgw, hy, hc, hf, ho⟩ := own_put h.o1 (i := i) (by show i < (fldI f 15 (fL 2) 3).length; rw [fldI_length]; exact hi') (v : Int)
  have hy' : y = (f (15 + i) : Int) + fL 2 := by
    have : (fldI f 15 (fL 2) 3)[i]? = some y := hy
    rw [fldI_at hi'] at this; injection this with this; exact this.symm
  subst hy'
  have ed : (List.range L.length).map (doneB L (upd f (15 + i) v)) = (List.range L.length).map (doneB L f) := by
    refine List.map_congr_left fun t ht => ?_
    have := List.mem_range.1 ht
    unfold doneB
    rw [show upd f (15 + i) v (3 + t) = f (3 + t) from by unfold upd; rw [if_neg (by omega)]]
  have e : ocF L (upd f (15 + i) v) = ⟨(ocF L f).f0, (ocF L f).f1.set i (v : Int), (ocF L f).f2⟩ := by
    unfold ocF
    rw [fldI_apart (by omega), fldI_put hi', ed]
    simp [fL]
  rw [e]
  have n1 : 0 < (ocF L f).f1.length := by show 0 < (fldI f 15 (fL 2) 3).length; rw [fldI_length]; omega
  have n1' : (ocF L f).f1.set i (v : Int) = (ocF L f).f1.set i (v : Int) := rfl
  refine ⟨g, hA, h0, hg, hgw, hc, hf, own_apart h.o0 (fun hn => by rw [← hA]; exact h.d01 (by rw [ints_length] at hn; exact hn) n1), ho, own_apart h.o2 (fun hn => by rw [← hA]; exact fun e => h.d12 n1 (by simpa [bools] using hn) e.symm), fun a b => h.d01 a n1, h.d02, fun a b => h.d12 n1 b⟩
theorem last_note {r : Nts} (h : 1 ≤ r.length) {x : Nt} (hx : r[r.length - 1]? = some x) : (r.map ntF)[r.length - 1]? = some (ntF x) := by rw [List.getElem?_map, hx]; rfl
theorem ntF_one (x : Nt) : ntF x 1 = x.v.toNat := by unfold ntF swF upd; simp
theorem snout_any (h : PgH) (L : Pg) (k : VwdH) (o : Vwd) (w : World) (B : Nat) (hP : PgR w B h L) (hS : VwdR w B k o) (hB : B ≤ w.heap.size) (H : VwP L o) :
    Calls Try.prog 61 #[PgV h L, VwdV k o] w (SOutO w (ocF L (lwF (sgF L o) 3))) := by
  obtain ⟨W, hW⟩ : ∃ W, W = ((w.alloc (.cells #[.slice h.A L.length h.c] 32)).alloc (.cells #[.slice k.h.A0 o.st.f0.length k.h.c0, .slice k.h.A1 o.st.f1.length k.h.c1, .slice k.h.A2 o.st.f2.length k.h.c2, .slice k.h.A3 o.st.f3.length k.h.c3, .slice k.h.A4 o.st.f4.length k.h.c4, .slice k.n.A o.n.length k.n.c, .slice k.v.A o.v.length k.v.c, .slice k.l.A o.l.length k.l.c, .slice k.k.A o.k.length k.k.c, .slice k.f.A o.f.length k.f.c] 53)).alloc (.cells #[.slice none 0 0, .slice none 0 0, .slice none 0 0] 60) := ⟨_, rfl⟩
  have bW : Below w.heap.size w W := by rw [hW]; go_grown
  have sW : W.heap.size = w.heap.size + 1 + 1 + 1 := by rw [hW]; simp
  have k0 : Bk W w.heap.size 32 #[.slice h.A L.length h.c] := by rw [hW]; exact ((Bk.new w _ _).alloc _).alloc _
  have k1 : Bk W (w.heap.size + 1) 53 #[.slice k.h.A0 o.st.f0.length k.h.c0, .slice k.h.A1 o.st.f1.length k.h.c1, .slice k.h.A2 o.st.f2.length k.h.c2, .slice k.h.A3 o.st.f3.length k.h.c3, .slice k.h.A4 o.st.f4.length k.h.c4, .slice k.n.A o.n.length k.n.c, .slice k.v.A o.v.length k.v.c, .slice k.l.A o.l.length k.l.c, .slice k.k.A o.k.length k.k.c, .slice k.f.A o.f.length k.f.c] := by
    rw [hW]; have := (Bk.new (w.alloc (.cells #[.slice h.A L.length h.c] 32)) #[.slice k.h.A0 o.st.f0.length k.h.c0, .slice k.h.A1 o.st.f1.length k.h.c1, .slice k.h.A2 o.st.f2.length k.h.c2, .slice k.h.A3 o.st.f3.length k.h.c3, .slice k.h.A4 o.st.f4.length k.h.c4, .slice k.n.A o.n.length k.n.c, .slice k.v.A o.v.length k.v.c, .slice k.l.A o.l.length k.l.c, .slice k.k.A o.k.length k.k.c, .slice k.f.A o.f.length k.f.c] 53).alloc (.cells #[.slice none 0 0, .slice none 0 0, .slice none 0 0] 60)
    rwa [World.size_alloc] at this
  have k2 : Bk W (w.heap.size + 1 + 1) 60 #[.slice none 0 0, .slice none 0 0, .slice none 0 0] := by
    rw [hW]; have := Bk.new ((w.alloc (.cells #[.slice h.A L.length h.c] 32)).alloc (.cells #[.slice k.h.A0 o.st.f0.length k.h.c0, .slice k.h.A1 o.st.f1.length k.h.c1, .slice k.h.A2 o.st.f2.length k.h.c2, .slice k.h.A3 o.st.f3.length k.h.c3, .slice k.h.A4 o.st.f4.length k.h.c4, .slice k.n.A o.n.length k.n.c, .slice k.v.A o.v.length k.v.c, .slice k.l.A o.l.length k.l.c, .slice k.k.A o.k.length k.k.c, .slice k.f.A o.f.length k.f.c] 53)) #[.slice none 0 0, .slice none 0 0, .slice none 0 0] 60
    rwa [World.size_alloc, World.size_alloc] at this
  have P0 := Lib.hid (hP.below bW hB)
  have Q0 := Lib.hid (hS.below bW hB)
  have K0 := Lib.hid k0
  have K1 := Lib.hid k1
  have K2 := Lib.hid k2
  have BW := Lib.hid bW
  have sWa := Nat.le_of_eq sW
  have sWb := Nat.le_of_eq sW.symm
  have HW := Lib.hid hW
  have HH := Lib.hid H
  have P := H.st
  have p31 := P.n1
  have h32 := P.n3
  have HN3 := Lib.hid H.ns.n3
  have HP := Lib.hid P
  clear k0 k1 k2 bW sW hW hP hS H P
  have c_p : W.cell? ⟨w.heap.size, 0, none⟩ = some (.slice h.A L.length h.c) := K0.out.cell 0
  have c_s0 : W.cell? ⟨w.heap.size + 1, 0, none⟩ = some (.slice k.h.A0 o.st.f0.length k.h.c0) := K1.out.cell 0
  have c_s1 : W.cell? ⟨w.heap.size + 1, 1, none⟩ = some (.slice k.h.A1 o.st.f1.length k.h.c1) := K1.out.cell 1
  have c_s2 : W.cell? ⟨w.heap.size + 1, 2, none⟩ = some (.slice k.h.A2 o.st.f2.length k.h.c2) := K1.out.cell 2
  have c_s3 : W.cell? ⟨w.heap.size + 1, 3, none⟩ = some (.slice k.h.A3 o.st.f3.length k.h.c3) := K1.out.cell 3
  have c_s4 : W.cell? ⟨w.heap.size + 1, 4, none⟩ = some (.slice k.h.A4 o.st.f4.length k.h.c4) := K1.out.cell 4
  have l0 := K0.out.lt
  have l1 := K1.out.lt
  go_enter Try.func61, Try.ntmps61
  go_wp2_with fail
  rw [← HW.out]
  clear c_p c_s0 c_s1 c_s2 c_s3 c_s4 l0 l1
  have Q0' := Q0
  have K1' := K1
  have K2' := K2
  have a0 := sout1_any h L k.h (wdF L o.st) W B P0.out (by rw [staF_wd HP.out]; exact Q0.out.s) (by omega) p31 h32
  rw [staF_wd HP.out] at a0
  refine a0.mono ?_
  clear a0
  rintro e w1 ⟨hu, rfl, hb1, hz1, ov⟩
  have B1 := Lib.hid (below_on BW.out hb1)
  have Q1 := Lib.hid (Q0.out.below hb1 (by omega))
  have K11 := Lib.hid (K1.out.below hb1 K1.out.lt)
  have K21 := Lib.hid (K2.out.below hb1 K2.out.lt)
  have e0 : lwF (sgF L o) 0 = wdF L o.st := by funext q; unfold lwF; rw [if_neg (by omega)]; rfl
  rw [← e0] at ov ⊢
  have OV := Lib.hid ov
  have HB1 := Lib.hid hb1
  clear hb1 ov e0 K0 K1 K2 Q0 P0
  have hf0 : (ocF L (lwF (sgF L o) 0)).f0.length = L.length * 3 := by show (fldI _ 6 _ (L.length * 3)).length = _; rw [fldI_length]
  have hf1 : (ocF L (lwF (sgF L o) 0)).f1.length = 3 := by show (fldI _ 15 _ 3).length = _; rw [fldI_length]
  have hf2 : (ocF L (lwF (sgF L o) 0)).f2.length = L.length := by show ((List.range L.length).map _).length = _; simp
  have HL0 := Lib.hid hf0
  have HL1 := Lib.hid hf1
  have HL2 := Lib.hid hf2
  rw [show OcV hu (ocF L (lwF (sgF L o) 0)) = .agg #[.slice hu.A0 (L.length * 3) hu.c0, .slice hu.A1 3 hu.c1, .slice hu.A2 L.length hu.c2] from by unfold OcV; rw [hf0, hf1, hf2]]
  clear hf0 hf1 hf2
  go_wp2_with fail
  obtain ⟨V, hV⟩ : ∃ V, V = w1.alloc (.cells #[.slice hu.A0 (L.length * 3) hu.c0, .slice hu.A1 3 hu.c1, .slice hu.A2 L.length hu.c2] 60) := ⟨_, rfl⟩
  rw [← hV]
  have bV : Below w1.heap.size w1 V := by rw [hV]; exact (Below.refl _ _).alloc (Nat.le_refl _) _
  have kV : Bk V w1.heap.size 60 #[.slice hu.A0 (L.length * 3) hu.c0, .slice hu.A1 3 hu.c1, .slice hu.A2 L.length hu.c2] := by rw [hV]; exact Bk.new _ _ _
  have zV := bV.size
  have zX := kV.lt
  have B2 := Lib.hid (HB1.out.trans (bV.mono hz1))
  have Q2 := Lib.hid (Q1.out.below bV (by omega))
  have K12 := Lib.hid (K11.out.below bV (by omega))
  have K22 := Lib.hid (K21.out.below bV (by omega))
  have O2 := Lib.hid (OV.out.below bV (Nat.le_refl _))
  have KV := Lib.hid kV
  clear hV bV kV Q1 K11 K21 OV HB1
  go_loopw [6] (fun iv wr => ∃ n : Nat, n ≤ 3 ∧ iv = .int .i64 n ∧ Below W.heap.size W wr ∧ V.heap.size ≤ wr.heap.size ∧ Bk wr w1.heap.size 60 #[.slice hu.A0 (L.length * 3) hu.c0, .slice hu.A1 3 hu.c1, .slice hu.A2 L.length hu.c2] ∧ OcO wr W.heap.size w1.heap.size hu (ocF L (lwF (sgF L o) n))) (fun iv _ => 3 - (intOf iv).toNat)
  case atStart => exact ⟨0, by omega, rfl, B2.out, Nat.le_refl _, KV.out, O2.out⟩
  case round =>
    obtain ⟨n, hn, rfl, hbel, hzr, hkx, hoc⟩ := hrel
    have hz := hbel.size
    have Q3 := Lib.hid (Q0'.out.below hbel (by omega))
    have K13 := Lib.hid (K1'.out.below hbel K1'.out.lt)
    have K23 := Lib.hid (K2'.out.below hbel K2'.out.lt)
    have B3 := Lib.hid hbel
    have KX := Lib.hid hkx
    have OC := Lib.hid hoc
    clear hbel hkx hoc O2 KV
    by_cases hlt : n < 3
    · have hni : (n : Int) < 3 := by omega
      obtain ⟨bb, off, r, kN, hA, hbb, hr, -, hc, hrow⟩ := Q3.out.n.at_ (i := n) (by rw [HN3.out]; exact hlt)
      have hrl : 1 ≤ r.length ∧ r.length ≤ 16 := HH.out.np.l r (List.mem_of_getElem? hr)
      obtain ⟨b2, off2, x, kx, hA2, hbb2, hx, -, hnt, -⟩ := hrow.at_ (i := r.length - 1) (by omega)
      obtain ⟨hv0, -, -⟩ := hnt
      have hxv : 0 ≤ x.v ∧ x.v ≤ 3 := by
        have := HH.out.np.e r (List.mem_of_getElem? hr) x (List.mem_of_getElem? hx)
        exact ⟨this.1, this.2.1⟩
      obtain ⟨v, hv⟩ : ∃ v : Nat, x.v = (v : Int) := ⟨x.v.toNat, by omega⟩
      rw [hv] at hv0
      have hlw : lwF (sgF L o) (n + 1) = upd (lwF (sgF L o) n) (15 + n) v := by
        have e1 : (sgF L o).S n = r.map ntF := by show (o.n.getD n []).map ntF = _; rw [List.getD, hr]; rfl
        have := lwF_next (sgF L o) (p := n) (n := r.length) (g := ntF x) (by rw [e1, List.length_map]) (by rw [e1]; exact last_note hrl.1 hx) hrl.1
        rw [this, ntF_one, hv, Int.toNat_natCast]
      obtain ⟨g, hg1, hlo, hhi, hgw, -, -, -⟩ := oc_put h32 OC.out hlt v
      have HLW := Lib.hid hlw
      have HG1 := Lib.hid hg1
      have hon : (n : Int) < (o.n.length : Int) := by rw [HN3.out]; omega
      obtain ⟨m, hm⟩ : ∃ m, r.length = m + 1 := ⟨r.length - 1, by omega⟩
      rw [hm] at hc
      rw [hm, Nat.add_sub_cancel] at hv0
      have ei : IntKind.i64.wrap (((m + 1 : Nat) : Int) - 1) = (m : Int) := by rw [wrap64_small (by omega) (by omega)]; omega
      have mi : (m : Int) < ((m + 1 : Nat) : Int) := by omega
      have hbbw : bb < wr.heap.size := by omega
      have hbb2w : b2 < wr.heap.size := by omega
      have hgx : g ≠ w1.heap.size := by omega
      have KXg := Lib.hid (show Bk wr w1.heap.size 60 #[.slice hu.A0 (L.length * 3) hu.c0, .slice (some ⟨g, 0, none⟩) 3 hu.c1, .slice hu.A2 L.length hu.c2] by rw [← hg1]; exact KX.out)
      have hcn : wr.cell? ⟨w.heap.size + 1, 5, none⟩ = some (.slice (some ⟨bb, off, none⟩) o.n.length k.n.c) := by rw [← hA]; exact K13.out.cell 5
      rw [hA2] at hc
      clear hA hA2 hr hrow hx hlw hv hxv hg1
      go_upto_region 5 with (fail)
      have g0 : ∀ y : Ws (Fr wr []), y.val.cell? ⟨w1.heap.size, 1, none⟩ = some (.slice (some ⟨g, 0, none⟩) 3 hu.c1) := Ws.same (bs := []) KXg.out.lt (KXg.out.cell 1)
      have g1 : ∀ y : Ws (Fr wr []), y.val.cell? ⟨w.heap.size + 1, 5, none⟩ = some (.slice (some ⟨bb, off, none⟩) o.n.length k.n.c) := Ws.same (bs := []) K13.out.lt hcn
      have g2 : ∀ y : Ws (Fr wr []), y.val.cell? ⟨bb, off + n, none⟩ = some (.slice (some ⟨b2, off2, none⟩) (m + 1) kN.c) := Ws.same (bs := []) hbbw hc
      have g3 : ∀ y : Ws (Fr wr []), y.val.cell? ⟨b2, off2 + m * 3, none⟩ = some (.int .i64 (v : Int)) := Ws.same (bs := []) hbb2w hv0
      have HS := Lib.hid (fr_none wr)
      haveI hne := Nonempty.intro (Ws.mk _ (fr_none wr))
      refine region_tail (C := In (Fr wr [])) 18 (by kernel_rfl) (In.mk HS.out.drew) ?_
      simp only [List.take_succ_cons, List.take_zero, List.drop_succ_cons, List.drop_zero]
      repeat (go_big_quiet_step (fail))
      refine wpQuiet_nil ?_
      rintro _ ⟨y5, rfl⟩
      have b5 := y5.ok.below
      obtain ⟨w5, hw5⟩ : ∃ w5, w5 = y5.val := ⟨_, rfl⟩
      rw [← hw5] at b5 ⊢
      have B5 := Lib.hid (B3.out.trans (b5.mono hz))
      have K15 := Lib.hid (K13.out.below b5 K13.out.lt)
      have KX5 := Lib.hid (KX.out.below b5 KX.out.lt)
      have OC5 := OC.out.below b5 (by omega)
      have z5 := b5.size
      clear g0 g1 g2 g3 hw5 b5
      obtain ⟨g', hg', hlo', hhi', hgw', hcc', hfr', hput'⟩ := oc_put h32 OC5 hlt v
      have hgg : g' = g := by
        have e := hg'.symm.trans HG1.out
        injection e with e
        injection e with e
      subst hgg
      rw [← HLW.out] at hput'
      have HP5 := Lib.hid hput'
      clear hput' OC5 hg'
      go_wp2_with fail
      obtain ⟨V6, hV6⟩ : ∃ V, V = w5.setCell ⟨g', n, none⟩ (.int .i64 (v : Int)) := ⟨_, rfl⟩
      have KX6 := Lib.hid (show Bk V6 w1.heap.size 60 #[.slice hu.A0 (L.length * 3) hu.c0, .slice hu.A1 3 hu.c1, .slice hu.A2 L.length hu.c2] by rw [hV6]; exact KX5.out.far (p := ⟨g', n, none⟩) (by show w1.heap.size ≠ g'; omega) _)
      have B6 := Lib.hid (show Below W.heap.size W V6 by rw [hV6]; exact B5.out.setCell (p := ⟨g', n, none⟩) (show W.heap.size ≤ g' from hlo') _)
      have O6 := Lib.hid (show OcO V6 W.heap.size w1.heap.size hu (ocF L (lwF (sgF L o) (n + 1))) by rw [hV6]; exact HP5.out)
      have z6 : V.heap.size ≤ V6.heap.size := by rw [hV6]; simp; omega
      rw [← hV6]
      clear hV6 hcc' hfr'
      go_roundw
      case rel => exact ⟨n + 1, by omega, by go_num, B6.out, z6, KX6.out, O6.out⟩
      case measure => simp [intOf]; omega
    · have hn3 : n = 3 := by omega
      subst hn3
      have hni : ¬ ((3 : Nat) : Int) < 3 := by decide
      have KXr := KX.out
      have c0 : wr.cell? ⟨w1.heap.size, 0, none⟩ = some (.slice hu.A0 (L.length * 3) hu.c0) := KXr.cell 0
      have c1 : wr.cell? ⟨w1.heap.size, 1, none⟩ = some (.slice hu.A1 3 hu.c1) := KXr.cell 1
      have c2 : wr.cell? ⟨w1.heap.size, 2, none⟩ = some (.slice hu.A2 L.length hu.c2) := KXr.cell 2
      have lx := KXr.lt
      clear KXr

      have cr0 : wr.cell? ⟨w.heap.size + 1 + 1, 0, none⟩ = some (.slice none 0 0) := K23.out.cell 0
      have fr0 : wr.frozen? ⟨w.heap.size + 1 + 1, 0, none⟩ = false := K23.out.free 0
      have cr1 : wr.cell? ⟨w.heap.size + 1 + 1, 1, none⟩ = some (.slice none 0 0) := K23.out.cell 1
      have fr1 : wr.frozen? ⟨w.heap.size + 1 + 1, 1, none⟩ = false := K23.out.free 1
      have cr2 : wr.cell? ⟨w.heap.size + 1 + 1, 2, none⟩ = some (.slice none 0 0) := K23.out.cell 2
      have fr2 : wr.frozen? ⟨w.heap.size + 1 + 1, 2, none⟩ = false := K23.out.free 2
      go_wp2
      clear cr0 fr0 cr1 fr1 cr2 fr2
      clear c0 c1 c2
      have kF : Bk (((wr.setCell ⟨w.heap.size + 1 + 1, 0, none⟩ (.slice hu.A0 (L.length * 3) hu.c0)).setCell ⟨w.heap.size + 1 + 1, 1, none⟩ (.slice hu.A1 3 hu.c1)).setCell ⟨w.heap.size + 1 + 1, 2, none⟩ (.slice hu.A2 L.length hu.c2)) (w.heap.size + 1 + 1) 60 #[.slice hu.A0 (L.length * 3) hu.c0, .slice hu.A1 3 hu.c1, .slice hu.A2 L.length hu.c2] := by
        have a0 := K23.out
        have a1 := a0.set 0 (.slice hu.A0 (L.length * 3) hu.c0)
        have a2 := a1.set 1 (.slice hu.A1 3 hu.c1)
        have a3 := a2.set 2 (.slice hu.A2 L.length hu.c2)
        simpa using a3
      have bF : Below w.heap.size w (((wr.setCell ⟨w.heap.size + 1 + 1, 0, none⟩ (.slice hu.A0 (L.length * 3) hu.c0)).setCell ⟨w.heap.size + 1 + 1, 1, none⟩ (.slice hu.A1 3 hu.c1)).setCell ⟨w.heap.size + 1 + 1, 2, none⟩ (.slice hu.A2 L.length hu.c2)) := ((((below_on BW.out B3.out).setCell (p := ⟨w.heap.size + 1 + 1, 0, none⟩) (show w.heap.size ≤ w.heap.size + 1 + 1 by omega) _).setCell (p := ⟨w.heap.size + 1 + 1, 1, none⟩) (show w.heap.size ≤ w.heap.size + 1 + 1 by omega) _).setCell (p := ⟨w.heap.size + 1 + 1, 2, none⟩) (show w.heap.size ≤ w.heap.size + 1 + 1 by omega) _)
      have nF : ∀ q, w.heap.size + 1 + 1 < q → (((wr.setCell ⟨w.heap.size + 1 + 1, 0, none⟩ (.slice hu.A0 (L.length * 3) hu.c0)).setCell ⟨w.heap.size + 1 + 1, 1, none⟩ (.slice hu.A1 3 hu.c1)).setCell ⟨w.heap.size + 1 + 1, 2, none⟩ (.slice hu.A2 L.length hu.c2)).heap[q]? = wr.heap[q]? := fun q hq => (Below.heap_setCell _ _ _ q (by show q ≠ w.heap.size + 1 + 1; omega)).trans ((Below.heap_setCell _ _ _ q (by show q ≠ w.heap.size + 1 + 1; omega)).trans (Below.heap_setCell _ _ _ q (by show q ≠ w.heap.size + 1 + 1; omega)))
      have zF : wr.heap.size ≤ (((wr.setCell ⟨w.heap.size + 1 + 1, 0, none⟩ (.slice hu.A0 (L.length * 3) hu.c0)).setCell ⟨w.heap.size + 1 + 1, 1, none⟩ (.slice hu.A1 3 hu.c1)).setCell ⟨w.heap.size + 1 + 1, 2, none⟩ (.slice hu.A2 L.length hu.c2)).heap.size := by simp
      have HF := Lib.hid kF
      have BF := Lib.hid bF
      have NF := Lib.hid nF
      obtain ⟨F, hF⟩ : ∃ F, F = (((wr.setCell ⟨w.heap.size + 1 + 1, 0, none⟩ (.slice hu.A0 (L.length * 3) hu.c0)).setCell ⟨w.heap.size + 1 + 1, 1, none⟩ (.slice hu.A1 3 hu.c1)).setCell ⟨w.heap.size + 1 + 1, 2, none⟩ (.slice hu.A2 L.length hu.c2)) := ⟨_, rfl⟩
      rw [← hF] at HF BF NF zF
      rw [← hF]
      clear kF bF nF hF
      have c0 := HF.out.cell 0
      have c1 := HF.out.cell 1
      have c2 := HF.out.cell 2
      simp only [List.getElem?_toArray, List.getElem?_cons_zero, List.getElem?_cons_succ] at c0 c1 c2
      refine bodyPost_ret (v := .agg #[.slice hu.A0 (L.length * 3) hu.c0, .slice hu.A1 3 hu.c1, .slice hu.A2 L.length hu.c2]) (by simp [results, Try.results61, c0, c1, c2, go_sem]) rfl ?_
      refine ⟨hu, ?_, BF.out, by omega, OC.out.keep (by omega) (by omega) fun q h1 h2 => NF.out q (by omega)⟩
      have e0 : (ocF L (lwF (sgF L o) 3)).f0.length = L.length * 3 := by show (fldI _ 6 _ (L.length * 3)).length = _; rw [fldI_length]
      have e1 : (ocF L (lwF (sgF L o) 3)).f1.length = 3 := by show (fldI _ 15 _ 3).length = _; rw [fldI_length]
      have e2 : (ocF L (lwF (sgF L o) 3)).f2.length = L.length := by show ((List.range L.length).map _).length = _; simp
      unfold OcV
      rw [e0, e1, e2]
theorem svwout_any (h : PgH) (L : Pg) (k : VwdH) (o : Vwd) (w : World) (B : Nat) (hP : PgR w B h L) (hS : VwdR w B k o) (hB : B ≤ w.heap.size) (SP : PgS L) (LS : VwdS o) :
    Calls Try.prog 25 #[PgV h L, VwdV k o] w (AnsIOc w (vwoE L o) (vwB L o)) := by
  obtain ⟨W, hW⟩ : ∃ W, W = ((w.alloc (.cells #[.slice h.A L.length h.c] 32)).alloc (.cells #[.slice k.h.A0 o.st.f0.length k.h.c0, .slice k.h.A1 o.st.f1.length k.h.c1, .slice k.h.A2 o.st.f2.length k.h.c2, .slice k.h.A3 o.st.f3.length k.h.c3, .slice k.h.A4 o.st.f4.length k.h.c4, .slice k.n.A o.n.length k.n.c, .slice k.v.A o.v.length k.v.c, .slice k.l.A o.l.length k.l.c, .slice k.k.A o.k.length k.k.c, .slice k.f.A o.f.length k.f.c] 53)).alloc (.cells #[.slice none 0 0, .slice none 0 0, .slice none 0 0] 60) := ⟨_, rfl⟩
  have bW : Below w.heap.size w W := by rw [hW]; go_grown
  have sW : W.heap.size = w.heap.size + 1 + 1 + 1 := by rw [hW]; simp
  have k0 : Bk W w.heap.size 32 #[.slice h.A L.length h.c] := by rw [hW]; exact ((Bk.new w _ _).alloc _).alloc _
  have k1 : Bk W (w.heap.size + 1) 53 #[.slice k.h.A0 o.st.f0.length k.h.c0, .slice k.h.A1 o.st.f1.length k.h.c1, .slice k.h.A2 o.st.f2.length k.h.c2, .slice k.h.A3 o.st.f3.length k.h.c3, .slice k.h.A4 o.st.f4.length k.h.c4, .slice k.n.A o.n.length k.n.c, .slice k.v.A o.v.length k.v.c, .slice k.l.A o.l.length k.l.c, .slice k.k.A o.k.length k.k.c, .slice k.f.A o.f.length k.f.c] := by
    rw [hW]; have := (Bk.new (w.alloc (.cells #[.slice h.A L.length h.c] 32)) #[.slice k.h.A0 o.st.f0.length k.h.c0, .slice k.h.A1 o.st.f1.length k.h.c1, .slice k.h.A2 o.st.f2.length k.h.c2, .slice k.h.A3 o.st.f3.length k.h.c3, .slice k.h.A4 o.st.f4.length k.h.c4, .slice k.n.A o.n.length k.n.c, .slice k.v.A o.v.length k.v.c, .slice k.l.A o.l.length k.l.c, .slice k.k.A o.k.length k.k.c, .slice k.f.A o.f.length k.f.c] 53).alloc (.cells #[.slice none 0 0, .slice none 0 0, .slice none 0 0] 60)
    rwa [World.size_alloc] at this
  have k2 : Bk W (w.heap.size + 1 + 1) 60 #[.slice none 0 0, .slice none 0 0, .slice none 0 0] := by
    rw [hW]; have := Bk.new ((w.alloc (.cells #[.slice h.A L.length h.c] 32)).alloc (.cells #[.slice k.h.A0 o.st.f0.length k.h.c0, .slice k.h.A1 o.st.f1.length k.h.c1, .slice k.h.A2 o.st.f2.length k.h.c2, .slice k.h.A3 o.st.f3.length k.h.c3, .slice k.h.A4 o.st.f4.length k.h.c4, .slice k.n.A o.n.length k.n.c, .slice k.v.A o.v.length k.v.c, .slice k.l.A o.l.length k.l.c, .slice k.k.A o.k.length k.k.c, .slice k.f.A o.f.length k.f.c] 53)) #[.slice none 0 0, .slice none 0 0, .slice none 0 0] 60
    rwa [World.size_alloc, World.size_alloc] at this
  have P0 := Lib.hid (hP.below bW hB)
  have Q0 := Lib.hid (hS.below bW hB)
  have K0 := Lib.hid k0
  have K1 := Lib.hid k1
  have K2 := Lib.hid k2
  have BW := Lib.hid bW
  have sWa := Nat.le_of_eq sW
  have sWb := Nat.le_of_eq sW.symm
  have HW := Lib.hid hW
  clear k0 k1 k2 bW sW hW hP hS
  rcases Bool.eq_false_or_eq_true (vwB L o) with hc | hc
  rotate_left
  · have hE : vwoE L o = OcE := by unfold vwoE; rw [hc]; rfl
    rw [hE, hc]
    have HC := Lib.hid hc
    clear hE hc
    go_enter Try.func25, Try.ntmps25
    go_wp2_with fail
    rw [← HW.out]
    refine (sviewok_any h L k o W B P0.out Q0.out (by omega) SP LS false HC).mono ?_
    rintro e w1 ⟨rfl, hb1⟩
    have B1 := Lib.hid (below_on BW.out hb1)
    have z1 := hb1.size
    have K01 := Lib.hid (K0.out.below hb1 K0.out.lt)
    have K11 := Lib.hid (K1.out.below hb1 K1.out.lt)
    have K21 := Lib.hid (K2.out.below hb1 K2.out.lt)
    have P1 := Lib.hid (P0.out.below hb1 (by omega))
    have Q1 := Lib.hid (Q0.out.below hb1 (by omega))
    clear hb1
    have cr0 : w1.cell? ⟨w.heap.size + 1 + 1, 0, none⟩ = some (.slice none 0 0) := K21.out.cell 0
    have fr0 : w1.frozen? ⟨w.heap.size + 1 + 1, 0, none⟩ = false := K21.out.free 0
    have cr1 : w1.cell? ⟨w.heap.size + 1 + 1, 1, none⟩ = some (.slice none 0 0) := K21.out.cell 1
    have fr1 : w1.frozen? ⟨w.heap.size + 1 + 1, 1, none⟩ = false := K21.out.free 1
    have cr2 : w1.cell? ⟨w.heap.size + 1 + 1, 2, none⟩ = some (.slice none 0 0) := K21.out.cell 2
    have fr2 : w1.frozen? ⟨w.heap.size + 1 + 1, 2, none⟩ = false := K21.out.free 2
    go_wp2
    clear cr0 fr0 cr1 fr1 cr2 fr2
    have kF : Bk (((w1.setCell ⟨w.heap.size + 1 + 1, 0, none⟩ (.slice none 0 0)).setCell ⟨w.heap.size + 1 + 1, 1, none⟩ (.slice none 0 0)).setCell ⟨w.heap.size + 1 + 1, 2, none⟩ (.slice none 0 0)) (w.heap.size + 1 + 1) 60 #[.slice none 0 0, .slice none 0 0, .slice none 0 0] := by
      have a0 := K21.out
      have a1 := a0.set 0 (.slice none 0 0)
      have a2 := a1.set 1 (.slice none 0 0)
      have a3 := a2.set 2 (.slice none 0 0)
      simpa using a3
    have bF : Below w.heap.size w (((w1.setCell ⟨w.heap.size + 1 + 1, 0, none⟩ (.slice none 0 0)).setCell ⟨w.heap.size + 1 + 1, 1, none⟩ (.slice none 0 0)).setCell ⟨w.heap.size + 1 + 1, 2, none⟩ (.slice none 0 0)) := (((B1.out.setCell (p := ⟨w.heap.size + 1 + 1, 0, none⟩) (show w.heap.size ≤ w.heap.size + 1 + 1 by omega) _).setCell (p := ⟨w.heap.size + 1 + 1, 1, none⟩) (show w.heap.size ≤ w.heap.size + 1 + 1 by omega) _).setCell (p := ⟨w.heap.size + 1 + 1, 2, none⟩) (show w.heap.size ≤ w.heap.size + 1 + 1 by omega) _)
    have nF : ∀ q, w.heap.size + 1 + 1 < q → (((w1.setCell ⟨w.heap.size + 1 + 1, 0, none⟩ (.slice none 0 0)).setCell ⟨w.heap.size + 1 + 1, 1, none⟩ (.slice none 0 0)).setCell ⟨w.heap.size + 1 + 1, 2, none⟩ (.slice none 0 0)).heap[q]? = w1.heap[q]? := fun q hq => (Below.heap_setCell _ _ _ q (by show q ≠ w.heap.size + 1 + 1; omega)).trans ((Below.heap_setCell _ _ _ q (by show q ≠ w.heap.size + 1 + 1; omega)).trans (Below.heap_setCell _ _ _ q (by show q ≠ w.heap.size + 1 + 1; omega)))
    have zF : w1.heap.size ≤ (((w1.setCell ⟨w.heap.size + 1 + 1, 0, none⟩ (.slice none 0 0)).setCell ⟨w.heap.size + 1 + 1, 1, none⟩ (.slice none 0 0)).setCell ⟨w.heap.size + 1 + 1, 2, none⟩ (.slice none 0 0)).heap.size := by simp
    have HF := Lib.hid kF
    have BF := Lib.hid bF
    have NF := Lib.hid nF
    obtain ⟨F, hF⟩ : ∃ F, F = (((w1.setCell ⟨w.heap.size + 1 + 1, 0, none⟩ (.slice none 0 0)).setCell ⟨w.heap.size + 1 + 1, 1, none⟩ (.slice none 0 0)).setCell ⟨w.heap.size + 1 + 1, 2, none⟩ (.slice none 0 0)) := ⟨_, rfl⟩
    rw [← hF] at HF BF NF zF
    rw [← hF]
    clear kF bF nF hF
    have c0 := HF.out.cell 0
    have c1 := HF.out.cell 1
    have c2 := HF.out.cell 2
    simp only [List.getElem?_toArray, List.getElem?_cons_zero, List.getElem?_cons_succ] at c0 c1 c2
    refine bodyPost_ret (v := .tuple #[.agg #[.slice none 0 0, .slice none 0 0, .slice none 0 0], .bool false]) (by simp [results, Try.results25, c0, c1, c2, go_sem]) rfl ?_
    exact ⟨OcN, rfl, BF.out, by omega, OcI.none_ _ _ _ _⟩
  have hE : vwoE L o = ocF L (lwF (sgF L o) 3) := by unfold vwoE; rw [hc]; rfl
  have H := vwB_parts hc
  rw [hE, hc]
  have HC := Lib.hid hc
  have HH := Lib.hid H
  clear hE hc H
  go_enter Try.func25, Try.ntmps25
  go_wp2_with fail
  rw [← HW.out]
  refine (sviewok_any h L k o W B P0.out Q0.out (by omega) SP LS true HC).mono ?_
  rintro e w1 ⟨rfl, hb1⟩
  have B1 := Lib.hid (below_on BW.out hb1)
  have z1 := hb1.size
  have K01 := Lib.hid (K0.out.below hb1 K0.out.lt)
  have K11 := Lib.hid (K1.out.below hb1 K1.out.lt)
  have K21 := Lib.hid (K2.out.below hb1 K2.out.lt)
  have P1 := Lib.hid (P0.out.below hb1 (by omega))
  have Q1 := Lib.hid (Q0.out.below hb1 (by omega))
  clear hb1
  have c_p : w1.cell? ⟨w.heap.size, 0, none⟩ = some (.slice h.A L.length h.c) := K01.out.cell 0
  have c_s0 : w1.cell? ⟨w.heap.size + 1, 0, none⟩ = some (.slice k.h.A0 o.st.f0.length k.h.c0) := K11.out.cell 0
  have c_s1 : w1.cell? ⟨w.heap.size + 1, 1, none⟩ = some (.slice k.h.A1 o.st.f1.length k.h.c1) := K11.out.cell 1
  have c_s2 : w1.cell? ⟨w.heap.size + 1, 2, none⟩ = some (.slice k.h.A2 o.st.f2.length k.h.c2) := K11.out.cell 2
  have c_s3 : w1.cell? ⟨w.heap.size + 1, 3, none⟩ = some (.slice k.h.A3 o.st.f3.length k.h.c3) := K11.out.cell 3
  have c_s4 : w1.cell? ⟨w.heap.size + 1, 4, none⟩ = some (.slice k.h.A4 o.st.f4.length k.h.c4) := K11.out.cell 4
  have c_s5 : w1.cell? ⟨w.heap.size + 1, 5, none⟩ = some (.slice k.n.A o.n.length k.n.c) := K11.out.cell 5
  have c_s6 : w1.cell? ⟨w.heap.size + 1, 6, none⟩ = some (.slice k.v.A o.v.length k.v.c) := K11.out.cell 6
  have c_s7 : w1.cell? ⟨w.heap.size + 1, 7, none⟩ = some (.slice k.l.A o.l.length k.l.c) := K11.out.cell 7
  have c_s8 : w1.cell? ⟨w.heap.size + 1, 8, none⟩ = some (.slice k.k.A o.k.length k.k.c) := K11.out.cell 8
  have c_s9 : w1.cell? ⟨w.heap.size + 1, 9, none⟩ = some (.slice k.f.A o.f.length k.f.c) := K11.out.cell 9
  go_wp2_with fail
  clear c_p c_s0 c_s1 c_s2 c_s3 c_s4 c_s5 c_s6 c_s7 c_s8 c_s9
  refine (snout_any h L k o w1 B P1.out Q1.out (by omega) HH.out).mono ?_
  rintro e v2 ⟨hu, rfl, hv, hlt, ov⟩
  have Ov := Lib.hid ov
  have hBv2 : Below w1.heap.size w1 v2 := hv
  have hz2 := hv.size
  clear hv ov
  have K22 := Lib.hid (K21.out.below hBv2 K21.out.lt)
  have cr0 : v2.cell? ⟨w.heap.size + 1 + 1, 0, none⟩ = some (.slice none 0 0) := K22.out.cell 0
  have fr0 : v2.frozen? ⟨w.heap.size + 1 + 1, 0, none⟩ = false := K22.out.free 0
  have cr1 : v2.cell? ⟨w.heap.size + 1 + 1, 1, none⟩ = some (.slice none 0 0) := K22.out.cell 1
  have fr1 : v2.frozen? ⟨w.heap.size + 1 + 1, 1, none⟩ = false := K22.out.free 1
  have cr2 : v2.cell? ⟨w.heap.size + 1 + 1, 2, none⟩ = some (.slice none 0 0) := K22.out.cell 2
  have fr2 : v2.frozen? ⟨w.heap.size + 1 + 1, 2, none⟩ = false := K22.out.free 2
  go_wp2
  clear cr0 fr0 cr1 fr1 cr2 fr2
  have kF : Bk (((v2.setCell ⟨w.heap.size + 1 + 1, 0, none⟩ (.slice hu.A0 (ocF L (lwF (sgF L o) 3)).f0.length hu.c0)).setCell ⟨w.heap.size + 1 + 1, 1, none⟩ (.slice hu.A1 (ocF L (lwF (sgF L o) 3)).f1.length hu.c1)).setCell ⟨w.heap.size + 1 + 1, 2, none⟩ (.slice hu.A2 (ocF L (lwF (sgF L o) 3)).f2.length hu.c2)) (w.heap.size + 1 + 1) 60 #[.slice hu.A0 (ocF L (lwF (sgF L o) 3)).f0.length hu.c0, .slice hu.A1 (ocF L (lwF (sgF L o) 3)).f1.length hu.c1, .slice hu.A2 (ocF L (lwF (sgF L o) 3)).f2.length hu.c2] := by
    have a0 := K22.out
    have a1 := a0.set 0 (.slice hu.A0 (ocF L (lwF (sgF L o) 3)).f0.length hu.c0)
    have a2 := a1.set 1 (.slice hu.A1 (ocF L (lwF (sgF L o) 3)).f1.length hu.c1)
    have a3 := a2.set 2 (.slice hu.A2 (ocF L (lwF (sgF L o) 3)).f2.length hu.c2)
    simpa using a3
  have bF : Below w.heap.size w (((v2.setCell ⟨w.heap.size + 1 + 1, 0, none⟩ (.slice hu.A0 (ocF L (lwF (sgF L o) 3)).f0.length hu.c0)).setCell ⟨w.heap.size + 1 + 1, 1, none⟩ (.slice hu.A1 (ocF L (lwF (sgF L o) 3)).f1.length hu.c1)).setCell ⟨w.heap.size + 1 + 1, 2, none⟩ (.slice hu.A2 (ocF L (lwF (sgF L o) 3)).f2.length hu.c2)) := ((((B1.out.trans (hBv2.mono (by omega))).setCell (p := ⟨w.heap.size + 1 + 1, 0, none⟩) (show w.heap.size ≤ w.heap.size + 1 + 1 by omega) _).setCell (p := ⟨w.heap.size + 1 + 1, 1, none⟩) (show w.heap.size ≤ w.heap.size + 1 + 1 by omega) _).setCell (p := ⟨w.heap.size + 1 + 1, 2, none⟩) (show w.heap.size ≤ w.heap.size + 1 + 1 by omega) _)
  have nF : ∀ q, w.heap.size + 1 + 1 < q → (((v2.setCell ⟨w.heap.size + 1 + 1, 0, none⟩ (.slice hu.A0 (ocF L (lwF (sgF L o) 3)).f0.length hu.c0)).setCell ⟨w.heap.size + 1 + 1, 1, none⟩ (.slice hu.A1 (ocF L (lwF (sgF L o) 3)).f1.length hu.c1)).setCell ⟨w.heap.size + 1 + 1, 2, none⟩ (.slice hu.A2 (ocF L (lwF (sgF L o) 3)).f2.length hu.c2)).heap[q]? = v2.heap[q]? := fun q hq => (Below.heap_setCell _ _ _ q (by show q ≠ w.heap.size + 1 + 1; omega)).trans ((Below.heap_setCell _ _ _ q (by show q ≠ w.heap.size + 1 + 1; omega)).trans (Below.heap_setCell _ _ _ q (by show q ≠ w.heap.size + 1 + 1; omega)))
  have zF : v2.heap.size ≤ (((v2.setCell ⟨w.heap.size + 1 + 1, 0, none⟩ (.slice hu.A0 (ocF L (lwF (sgF L o) 3)).f0.length hu.c0)).setCell ⟨w.heap.size + 1 + 1, 1, none⟩ (.slice hu.A1 (ocF L (lwF (sgF L o) 3)).f1.length hu.c1)).setCell ⟨w.heap.size + 1 + 1, 2, none⟩ (.slice hu.A2 (ocF L (lwF (sgF L o) 3)).f2.length hu.c2)).heap.size := by simp
  have HF := Lib.hid kF
  have BF := Lib.hid bF
  have NF := Lib.hid nF
  obtain ⟨F, hF⟩ : ∃ F, F = (((v2.setCell ⟨w.heap.size + 1 + 1, 0, none⟩ (.slice hu.A0 (ocF L (lwF (sgF L o) 3)).f0.length hu.c0)).setCell ⟨w.heap.size + 1 + 1, 1, none⟩ (.slice hu.A1 (ocF L (lwF (sgF L o) 3)).f1.length hu.c1)).setCell ⟨w.heap.size + 1 + 1, 2, none⟩ (.slice hu.A2 (ocF L (lwF (sgF L o) 3)).f2.length hu.c2)) := ⟨_, rfl⟩
  rw [← hF] at HF BF NF zF
  rw [← hF]
  clear kF bF nF hF
  have c0 := HF.out.cell 0
  have c1 := HF.out.cell 1
  have c2 := HF.out.cell 2
  simp only [List.getElem?_toArray, List.getElem?_cons_zero, List.getElem?_cons_succ] at c0 c1 c2
  refine bodyPost_ret (v := .tuple #[.agg #[.slice hu.A0 (ocF L (lwF (sgF L o) 3)).f0.length hu.c0, .slice hu.A1 (ocF L (lwF (sgF L o) 3)).f1.length hu.c1, .slice hu.A2 (ocF L (lwF (sgF L o) 3)).f2.length hu.c2], .bool true]) (by simp [results, Try.results25, c0, c1, c2, go_sem]) rfl ?_
  exact ⟨hu, rfl, BF.out, by omega, Ov.out.in_.keep (by omega) zF fun q h1 h2 => NF.out q (by omega)⟩
end Go.Proofs.Ytaghidaamcnpkab
