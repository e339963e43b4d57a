/-
  What the reference model's OutcomeOf comes to.
-/
import Derived.Test.YtmnpndmjheippaaOutF
import Derived.Deep.RegionHeld3
import Derived.Deep.DeepCutAuto
import Derived.Test.YtmnpndmjheippaaStOk
import Derived.Test.YtmnpndmjheippaaSOut0
namespace Go.Proofs.Ytmnpndmjheippaa
open Go.RowKit Pl
set_option maxHeartbeats 4000000
set_option maxRecDepth 100000
set_option linter.unusedVariables false

theorem outword_any (h : PgH) (L : Pg) (f : Nat → Nat) (w : World) (B : Nat) (hR : PgR w B h L) (hB : B ≤ w.heap.size) (hL : progB L = true) (hf : Good L f) :
    Calls Try.prog 86 #[PgV h L, .int .u64 (enc WS f : Nat)] w fun e w' => e = .returned (.int .u64 (enc WO (outF L f L.length) : Nat)) ∧ Below w.heap.size w w' := by
  obtain ⟨h31, h32⟩ := prog_len hL
  obtain ⟨W, hW⟩ : ∃ W, W = w.alloc (.cells #[.slice h.A L.length h.c] 35) := ⟨_, rfl⟩
  have bW : Below w.heap.size w W := by rw [hW]; go_grown
  have K0 := Lib.hid (show Bk W w.heap.size 35 #[.slice h.A L.length h.c] by rw [hW]; exact Bk.new _ _ _)
  have P0 := Lib.hid (hR.below bW hB)
  have B0 := Lib.hid bW
  have hBW : B ≤ W.heap.size := Nat.le_trans hB bW.size
  have HW := Lib.hid hW
  have hmul : IntKind.i64.wrap ((L.length : Int) * 3) = (L.length : Int) * 3 := wrap64_small (by omega) (by omega)
  have a1 := entries_made WS 1 6 f (L.length * 3) ((L.length : Int) * 3) (by omega) fld1 hf.ok (by show L.length * 3 ≤ 9; omega) W
  have a2 := entries_made WS 2 15 f 3 3 (by rfl) fld2 hf.ok (by decide)
  have A1 := Lib.hid a1
  have A2 := Lib.hid a2
  clear hW bW hR a1 a2
  go_enter Try.func86, Try.ntmps86
  go_wp2_with fail
  rw [← HW.out]
  refine A1.out.mono ?_
  rintro e w1 ⟨g0, rfl, hg0, hg1, hb1, ho1⟩
  have K1 := Lib.hid (K0.out.below hb1 K0.out.lt)
  have P1 := Lib.hid (P0.out.below hb1 hBW)
  have B1 := Lib.hid (below_on B0.out hb1)
  have z1 := hb1.size
  have e0 := withEntries_any WO 1 0 zeroF (some ⟨g0, 0, none⟩) (fldI f 6 (fL 1) (L.length * 3)) (regN L f) (L.length * 3) w1 w1.heap.size flo1 zeroO_ok (ho1.vs.up (Below.refl w1.heap.size w1) (by omega) (by omega)) (Nat.le_refl _) (by rw [fldI_length]; show L.length * 3 ≤ 9; omega) (by rw [regN_length, fldI_length]) (Lib.hid (regN_lt hf.ok h32)) (Lib.hid fun k v h => regN_at h)
  rw [zeroO_enc, fldI_length] at e0
  have E0 := Lib.hid e0
  clear e0 hb1 ho1
  go_wp2_with fail
  refine E0.out.mono ?_
  rintro e w2 ⟨rfl, hb2⟩
  have K2 := Lib.hid (K1.out.below hb2 K1.out.lt)
  have P2 := Lib.hid (P1.out.below hb2 (by omega))
  have B2 := Lib.hid (below_on B1.out hb2)
  have z2 := hb2.size
  clear hb2 E0
  go_wp2_with fail
  refine (A2.out w2).mono ?_
  rintro e w3 ⟨g1, rfl, hg2, hg3, hb3, ho3⟩
  have K3 := Lib.hid (K2.out.below hb3 K2.out.lt)
  have P3 := Lib.hid (P2.out.below hb3 (by omega))
  have B3 := Lib.hid (below_on B2.out hb3)
  have z3 := hb3.size
  have e1 := withEntries_any WO 2 9 (updL zeroF 0 (regN L f)) (some ⟨g1, 0, none⟩) (fldI f 15 (fL 2) 3) (memN f) 3 w3 w3.heap.size flo2 (out0_ok hf.ok h32) (ho3.vs.up (Below.refl w3.heap.size w3) (by omega) (by omega)) (Nat.le_refl _) (by rw [fldI_length]; show 3 ≤ 3; omega) (by rw [memN_length, fldI_length]) (Lib.hid (memN_lt hf.ok)) (Lib.hid fun k v h => memN_at h)
  rw [fldI_length] at e1
  have E1 := Lib.hid e1
  clear e1 hb3 ho3
  go_wp2_with fail
  refine E1.out.mono ?_
  rintro e w4 ⟨rfl, hb4⟩
  rw [← outF_zero]
  have K4 := Lib.hid (K3.out.below hb4 K3.out.lt)
  have P4 := Lib.hid (P3.out.below hb4 (by omega))
  have B4 := Lib.hid (below_on B3.out hb4)
  have z4 := hb4.size
  clear hb4 E1
  have cb : w4.cell? ⟨w.heap.size, 0, none⟩ = some (.slice h.A L.length h.c) := K4.out.cell 0
  go_wp2
  clear cb
  go_loopw [5, 21] (fun x i wr => ∃ k : Nat, k ≤ L.length ∧ i = .int .i64 k ∧ x = .int .u64 (enc WO (outF L f k) : Nat) ∧ Below w4.heap.size w4 wr) (fun _ i _ => L.length - (intOf i).toNat)
  case atStart => exact ⟨0, Nat.zero_le _, rfl, rfl, Below.refl _ _⟩
  case round =>
    obtain ⟨k, hk, rfl, rfl, hbel⟩ := hrel
    have hz := hbel.size
    have Hbel := Lib.hid hbel
    clear hbel hmul
    by_cases hlt : k < L.length
    · have hbox : wr.cell? ⟨w.heap.size, 0, none⟩ = some (.slice h.A L.length h.c) := (K4.out.below Hbel.out K4.out.lt).cell 0
      have RW' := Lib.hid (P4.out.below Hbel.out (by omega))
      have hi2 : (k : Int) < (L.length : Int) := by omega
      have hk3 : k < 3 := by omega
      obtain ⟨r, hr⟩ : ∃ r, doneB L f k = r := ⟨_, rfl⟩
      have HR := Lib.hid hr
      have hnx : upd (outF L f k) (13 + k) (bitN r) = outF L f (k + 1) := by rw [← hr]; exact outF_next L f k
      have HX := Lib.hid hnx
      clear hr hnx
      go_wp2_with fail
      refine (isdone_any h L f k wr B RW'.out (by omega) hL hf hlt r HR).mono ?_
      rintro e w5 ⟨rfl, hb5⟩
      have H5 := Lib.hid (below_on Hbel.out hb5)
      clear hb5 hbox
      go_wp2_with (go_at_call 139; refine (figure_any _ _).mono ?_; rintro e w' ⟨rfl, rfl⟩)
      go_wp2_with fail
      refine (wentF flo6 (outF_ok hf.ok h32 k (by omega)) k (bitN r) (bit r) hk3 (bitN_lt r) (by cases r <;> rfl) _).mono ?_
      rintro e w9 ⟨rfl, hb9⟩
      have H9 := Lib.hid (below_on H5.out hb9)
      clear hb9
      rw [HX.out]
      go_wp2
      go_roundw
      case rel => exact ⟨k + 1, by omega, by go_num, rfl, H9.out⟩
      case measure => simp [intOf]; omega
    · have hkl : k = L.length := by omega
      subst hkl
      go_wp2
      go_ret
      exact ⟨rfl, below_on B4.out Hbel.out⟩
end Go.Proofs.Ytmnpndmjheippaa
namespace Go.Proofs.Ytmnpndmjheippaa
open Go.RowKit Pl
set_option maxHeartbeats 4000000
set_option maxRecDepth 100000
set_option linter.unusedVariables false

/-- The outcome of an outcome's word. -/
def ocG (L : Pg) (g : Nat → Nat) : Oc := ⟨fldI g 0 (fL 1) (L.length * 3), fldI g 9 (fL 2) 3, (List.range L.length).map fun t => g (13 + t) == 1⟩
theorem ocG_out (L : Pg) (f : Nat → Nat) (h3 : L.length ≤ 3) : ocG L (outF L f L.length) = ocF L f := by
  unfold ocG ocF
  rw [out_regs L f h3, out_mem L f]
  congr 1
  apply List.map_congr_left
  intro t ht
  rw [out_done L f (List.mem_range.1 ht)]
  cases doneB L f t <;> rfl
def UnpP (w : World) (o : Oc) (e : Ending) (w' : World) : Prop := ∃ k, e = .returned (OcV k o) ∧ Below w.heap.size w w' ∧ w.heap.size ≤ w'.heap.size ∧ OcO w' w.heap.size w'.heap.size k o
theorem unpout_any (h : PgH) (L : Pg) (g : Nat → Nat) (w : World) (h32 : L.length ≤ 3) (hg : okF WO g) :
    Calls Try.prog 85 #[PgV h L, .int .u64 (enc WO g : Nat)] w (UnpP w (ocG L g)) := by
  obtain ⟨W, hW⟩ : ∃ W, W = (w.alloc (.cells #[.slice h.A L.length h.c] 35)).alloc (.cells #[.slice none 0 0, .slice none 0 0, .slice none 0 0] 50) := ⟨_, rfl⟩
  have bW : Below w.heap.size w W := by rw [hW]; go_grown
  have zW : W.heap.size = w.heap.size + 1 + 1 := by rw [hW]; simp
  have zWa := Nat.le_of_eq zW
  have zWb := Nat.le_of_eq zW.symm
  have K0 := Lib.hid (show Bk W w.heap.size 35 #[.slice h.A L.length h.c] by rw [hW]; exact (Bk.new _ _ _).alloc _)
  have k1 : Bk W (w.heap.size + 1) 50 #[.slice none 0 0, .slice none 0 0, .slice none 0 0] := by
    rw [hW]; have := Bk.new (w.alloc (.cells #[.slice h.A L.length h.c] 35)) #[.slice none 0 0, .slice none 0 0, .slice none 0 0] 50
    rwa [World.size_alloc] at this
  have K1 := Lib.hid k1
  have B0 := Lib.hid bW
  have HW := Lib.hid hW
  obtain ⟨i0, hi, hz0, hz1, hz2⟩ := info_parts Try.info4
  have hmk := make_any Try.underlying48 hi hz0 L.length (by rw [hz2]; omega) (by omega)
  rw [hz1, Nat.mul_one] at hmk
  obtain ⟨vs, hvs⟩ : ∃ vs, vs = bools ((List.range L.length).map fun t => g (13 + t) == 1) := ⟨_, rfl⟩
  have hlen : vs.length = L.length := by rw [hvs, bools_length]; simp
  have hat : ∀ k, k < L.length → vs[k]? = some (.bool (g (13 + k) == 1)) := fun k hk => by rw [hvs]; simp [bools, hk]
  have start := Lib.hid (show CopyV W (W.alloc (.cells (madeCells #[.bool false] L.length) 4)) 4 vs 0 from
    ⟨(Below.refl _ _).alloc (Nat.le_refl _) _, _, Bk.new _ _ _, by simp [size_madeCells, hlen], fun j x hj => absurd hj (by omega)⟩)
  have HVS := Lib.hid hvs
  have HLEN := Lib.hid hlen
  have HAT := Lib.hid hat
  have ZW := Lib.hid zW
  have hmul : IntKind.i64.wrap ((L.length : Int) * 3) = (L.length : Int) * 3 := wrap64_small (by omega) (by omega)
  have a1 := entries_made WO 1 0 g (L.length * 3) ((L.length : Int) * 3) (by omega) flo1 hg (by show L.length * 3 ≤ 9; omega)
  have a2 := entries_made WO 2 9 g 3 3 (by rfl) flo2 hg (by decide)
  have A1 := Lib.hid a1
  have A2 := Lib.hid a2
  clear hz0 hz1 hz2 hi hW bW zW k1 hvs hlen hat a1 a2
  go_enter Try.func85, Try.ntmps85
  go_wp2_with fail
  rw [← HW.out, ← ZW.out]
  clear hmk
  go_loopw [13] (fun i wr => ∃ k : Nat, k ≤ L.length ∧ i = .int .i64 k ∧ CopyV W wr 4 vs k) (fun i _ => L.length - (intOf i).toNat)
  case atStart => exact ⟨0, Nat.zero_le _, rfl, start.out⟩
  case round =>
    obtain ⟨k, hk, rfl, hcv⟩ := hrel
    have HCV := Lib.hid hcv
    obtain ⟨hb0, cs, hbk, hsz, -⟩ := hcv
    rw [HLEN.out] at hsz
    by_cases hlt : k < L.length
    · obtain ⟨b, hb⟩ : ∃ b, (g (13 + k) == 1) = b := ⟨_, rfl⟩
      have hv := HAT.out k hlt
      rw [hb] at hv
      have h2 : g (13 + k) < 2 := fld_lt flo6 hg (i := k) (show k < 3 by omega)
      have hr : Hid ((g (13 + k) : Int) + fL 6 = bit b) := Lib.hid (by
        have e : fL 6 = 0 := rfl
        rw [e, ← hb]
        by_cases e1 : g (13 + k) = 1
        · rw [e1]; rfl
        · have e0 : g (13 + k) = 0 := by omega
          rw [e0]; rfl)
      have HV := Lib.hid hv
      have hi2 : (k : Int) < (L.length : Int) := by omega
      have hk3 : k < 3 := by omega
      have HBK := Lib.hid hbk
      clear hv hb hbk h2 hmul
      cases b
      all_goals
        go_wp2_with fail
        refine (entF flo6 hg k hk3 wr _ hr).mono ?_
        rintro e w5 ⟨rfl, hb5⟩
        obtain ⟨j0, cs5, j1, j2, j3⟩ := HCV.out
        have HC5 := Lib.hid (show CopyV W w5 4 vs k from ⟨below_on j0 hb5, cs5, j1.below hb5 j1.lt, j2, j3⟩)
        have K5 := Lib.hid (j1.below hb5 j1.lt)
        obtain ⟨ov, cc⟩ := K5.out.some_ (i := k) (by rw [j2, HLEN.out]; omega)
        have cf : w5.frozen? ⟨W.heap.size, k, none⟩ = false := K5.out.free k
        clear hb5 j0 j1 j2 j3
        go_wp2
        go_roundw
        case rel => exact ⟨k + 1, by omega, by go_num, HC5.out.next HV.out⟩
        case measure => simp [intOf]; omega
    · have hkl : k = L.length := by omega
      subst hkl
      have hcv := HCV.out
      rw [← HLEN.out] at hcv
      have hown := hcv.done
      have HO := Lib.hid (show OwnVs wr W.heap.size (W.heap.size + 1) 4 (some ⟨W.heap.size, 0, none⟩) vs from hown)
      have hzr := hcv.lt
      have hbr := hcv.1
      have BR := Lib.hid (below_on B0.out hbr)
      have K0R := Lib.hid (K0.out.below hbr K0.out.lt)
      have K1R := Lib.hid (K1.out.below hbr K1.out.lt)
      clear hcv hown hbr hbk hb0 hsz
      have cp : wr.cell? ⟨w.heap.size, 0, none⟩ = some (.slice h.A L.length h.c) := K0R.out.cell 0
      go_wp2_with fail
      --END
      clear cp
      refine (A1.out wr).mono ?_
      rintro e w6 ⟨g0, rfl, hg0, hg1, hb6, ho6⟩
      have HO6 := Lib.hid ho6
      have HD6 := Lib.hid (HO.out.below hb6 (by omega))
      have B6 := Lib.hid (below_on BR.out hb6)
      have K16 := Lib.hid (K1R.out.below hb6 K1R.out.lt)
      have z6 := hb6.size
      clear hb6 ho6
      go_wp2_with fail
      refine (A2.out w6).mono ?_
      rintro e w7 ⟨g1, rfl, hg2, hg3, hb7, ho7⟩
      have HO7 := Lib.hid ho7
      have HR7 := Lib.hid (HO6.out.below hb7 (by omega))
      have HD7 := Lib.hid (HD6.out.below hb7 (by omega))
      have B7 := Lib.hid (below_on B6.out hb7)
      have K17 := Lib.hid (K16.out.below hb7 K16.out.lt)
      have z7 := hb7.size
      clear hb7 ho7
      have cr0 : w7.cell? ⟨w.heap.size + 1, 0, none⟩ = some (.slice none 0 0) := K17.out.cell 0
      have fr0 : w7.frozen? ⟨w.heap.size + 1, 0, none⟩ = false := K17.out.free 0
      have cr1 : w7.cell? ⟨w.heap.size + 1, 1, none⟩ = some (.slice none 0 0) := K17.out.cell 1
      have fr1 : w7.frozen? ⟨w.heap.size + 1, 1, none⟩ = false := K17.out.free 1
      have cr2 : w7.cell? ⟨w.heap.size + 1, 2, none⟩ = some (.slice none 0 0) := K17.out.cell 2
      have fr2 : w7.frozen? ⟨w.heap.size + 1, 2, none⟩ = false := K17.out.free 2
      go_wp2
      clear cr0 fr0 cr1 fr1 cr2 fr2
      have kF : Bk (((w7.setCell ⟨w.heap.size + 1, 0, none⟩ (.slice (some ⟨g0, 0, none⟩) (L.length * 3) (L.length * 3))).setCell ⟨w.heap.size + 1, 1, none⟩ (.slice (some ⟨g1, 0, none⟩) 3 3)).setCell ⟨w.heap.size + 1, 2, none⟩ (.slice (some ⟨W.heap.size, 0, none⟩) L.length L.length)) (w.heap.size + 1) 50 #[.slice (some ⟨g0, 0, none⟩) (L.length * 3) (L.length * 3), .slice (some ⟨g1, 0, none⟩) 3 3, .slice (some ⟨W.heap.size, 0, none⟩) L.length L.length] := by
        have a0 := K17.out
        have a1 := a0.set 0 (.slice (some ⟨g0, 0, none⟩) (L.length * 3) (L.length * 3))
        have a2 := a1.set 1 (.slice (some ⟨g1, 0, none⟩) 3 3)
        have a3 := a2.set 2 (.slice (some ⟨W.heap.size, 0, none⟩) L.length L.length)
        simpa using a3
      have bF : Below w.heap.size w (((w7.setCell ⟨w.heap.size + 1, 0, none⟩ (.slice (some ⟨g0, 0, none⟩) (L.length * 3) (L.length * 3))).setCell ⟨w.heap.size + 1, 1, none⟩ (.slice (some ⟨g1, 0, none⟩) 3 3)).setCell ⟨w.heap.size + 1, 2, none⟩ (.slice (some ⟨W.heap.size, 0, none⟩) L.length L.length)) := (((B7.out.setCell (p := ⟨w.heap.size + 1, 0, none⟩) (show w.heap.size ≤ w.heap.size + 1 by omega) _).setCell (p := ⟨w.heap.size + 1, 1, none⟩) (show w.heap.size ≤ w.heap.size + 1 by omega) _).setCell (p := ⟨w.heap.size + 1, 2, none⟩) (show w.heap.size ≤ w.heap.size + 1 by omega) _)
      have nF : ∀ q, w.heap.size + 1 < q → (((w7.setCell ⟨w.heap.size + 1, 0, none⟩ (.slice (some ⟨g0, 0, none⟩) (L.length * 3) (L.length * 3))).setCell ⟨w.heap.size + 1, 1, none⟩ (.slice (some ⟨g1, 0, none⟩) 3 3)).setCell ⟨w.heap.size + 1, 2, none⟩ (.slice (some ⟨W.heap.size, 0, none⟩) L.length L.length)).heap[q]? = w7.heap[q]? := fun q hq => (Below.heap_setCell _ _ _ q (by show q ≠ w.heap.size + 1; omega)).trans ((Below.heap_setCell _ _ _ q (by show q ≠ w.heap.size + 1; omega)).trans (Below.heap_setCell _ _ _ q (by show q ≠ w.heap.size + 1; omega)))
      have zF : w7.heap.size ≤ (((w7.setCell ⟨w.heap.size + 1, 0, none⟩ (.slice (some ⟨g0, 0, none⟩) (L.length * 3) (L.length * 3))).setCell ⟨w.heap.size + 1, 1, none⟩ (.slice (some ⟨g1, 0, none⟩) 3 3)).setCell ⟨w.heap.size + 1, 2, none⟩ (.slice (some ⟨W.heap.size, 0, none⟩) L.length L.length)).heap.size := by simp
      have HF := Lib.hid kF
      have BF := Lib.hid bF
      have NF := Lib.hid nF
      obtain ⟨F, hF⟩ : ∃ F, F = (((w7.setCell ⟨w.heap.size + 1, 0, none⟩ (.slice (some ⟨g0, 0, none⟩) (L.length * 3) (L.length * 3))).setCell ⟨w.heap.size + 1, 1, none⟩ (.slice (some ⟨g1, 0, none⟩) 3 3)).setCell ⟨w.heap.size + 1, 2, none⟩ (.slice (some ⟨W.heap.size, 0, none⟩) L.length L.length)) := ⟨_, rfl⟩
      rw [← hF] at HF BF NF zF
      rw [← hF]
      clear kF bF nF hF
      have c0 := HF.out.cell 0
      have c1 := HF.out.cell 1
      have c2 := HF.out.cell 2
      simp only [List.getElem?_toArray, List.getElem?_cons_zero, List.getElem?_cons_succ] at c0 c1 c2
      refine bodyPost_ret (v := .agg #[.slice (some ⟨g0, 0, none⟩) (L.length * 3) (L.length * 3), .slice (some ⟨g1, 0, none⟩) 3 3, .slice (some ⟨W.heap.size, 0, none⟩) L.length L.length]) (by simp [results, Try.results85, c0, c1, c2, go_sem]) rfl ?_
      have hF := fun (lo hi : Nat) (tt : TypeId) (AA : Option Addr) (vv : List Value) (hh : OwnVs w7 lo hi tt AA vv) (h1 : w.heap.size + 1 < lo) (h2 : hi ≤ w7.heap.size) => (hh.keep (lo' := w.heap.size) (hi' := F.heap.size) (by omega) (by omega) fun q0 h3 h4 => NF.out q0 (by omega))
      refine ⟨⟨some ⟨g0, 0, none⟩, some ⟨g1, 0, none⟩, some ⟨W.heap.size, 0, none⟩, L.length * 3, 3, L.length⟩, ?_, BF.out, by omega, ?_⟩
      · simp [OcV, ocG, fldI_length]
      · refine ⟨hF _ _ _ _ _ HR7.out (by omega) (by omega), hF _ _ _ _ _ HO7.out (by omega) (by omega), ?_, ?_, ?_, ?_⟩
        · have := hF _ _ _ _ _ HD7.out (by omega) (by omega)
          rw [HVS.out] at this
          exact this
        · intro _ _ e; injection e with e; injection e with e1; omega
        · intro _ _ e; injection e with e; injection e with e1; omega
        · intro _ _ e; injection e with e; injection e with e1; omega
end Go.Proofs.Ytmnpndmjheippaa
namespace Go.Proofs.Ytmnpndmjheippaa
open Go.RowKit Pl
set_option maxHeartbeats 4000000
set_option maxRecDepth 100000
set_option linter.unusedVariables false

/-- The outcome of a state. -/
def outB (L : Pg) (s : Sta) : Oc := if stB L s then ocF L (wdF L s) else OcE
theorem iout_any (h : PgH) (L : Pg) (k : StaH) (s : Sta) (w : World) (B : Nat) (hP : PgR w B h L) (hS : StaR w B k s) (hB : B ≤ w.heap.size) (SP : PgS L) (LS : StaS s) :
    Calls Try.prog 32 #[PgV h L, StaV k s] w (AnsOc w (outB L s) (stB L s)) := by
  obtain ⟨W, hW⟩ : ∃ W, W = ((w.alloc (.cells #[.slice h.A L.length h.c] 35)).alloc (.cells #[.slice k.A0 s.f0.length k.c0, .slice k.A1 s.f1.length k.c1, .slice k.A2 s.f2.length k.c2, .slice k.A3 s.f3.length k.c3, .slice k.A4 s.f4.length k.c4] 30)).alloc (.cells #[.slice none 0 0, .slice none 0 0, .slice none 0 0] 50) := ⟨_, rfl⟩
  have bW : Below w.heap.size w W := by rw [hW]; go_grown
  have sW : W.heap.size = w.heap.size + 1 + 1 + 1 := by rw [hW]; simp
  have k0 : Bk W w.heap.size 35 #[.slice h.A L.length h.c] := by rw [hW]; exact ((Bk.new w _ _).alloc _).alloc _
  have k1 : Bk W (w.heap.size + 1) 30 #[.slice k.A0 s.f0.length k.c0, .slice k.A1 s.f1.length k.c1, .slice k.A2 s.f2.length k.c2, .slice k.A3 s.f3.length k.c3, .slice k.A4 s.f4.length k.c4] := by
    rw [hW]; have := (Bk.new (w.alloc (.cells #[.slice h.A L.length h.c] 35)) #[.slice k.A0 s.f0.length k.c0, .slice k.A1 s.f1.length k.c1, .slice k.A2 s.f2.length k.c2, .slice k.A3 s.f3.length k.c3, .slice k.A4 s.f4.length k.c4] 30).alloc (.cells #[.slice none 0 0, .slice none 0 0, .slice none 0 0] 50)
    rwa [World.size_alloc] at this
  have k2 : Bk W (w.heap.size + 1 + 1) 50 #[.slice none 0 0, .slice none 0 0, .slice none 0 0] := by
    rw [hW]; have := Bk.new ((w.alloc (.cells #[.slice h.A L.length h.c] 35)).alloc (.cells #[.slice k.A0 s.f0.length k.c0, .slice k.A1 s.f1.length k.c1, .slice k.A2 s.f2.length k.c2, .slice k.A3 s.f3.length k.c3, .slice k.A4 s.f4.length k.c4] 30)) #[.slice none 0 0, .slice none 0 0, .slice none 0 0] 50
    rwa [World.size_alloc, World.size_alloc] at this
  have P0 := Lib.hid (hP.below bW hB)
  have Q0 := Lib.hid (hS.below bW hB)
  have K0 := Lib.hid k0
  have K1 := Lib.hid k1
  have K2 := Lib.hid k2
  have BW := Lib.hid bW
  have sWa := Nat.le_of_eq sW
  have sWb := Nat.le_of_eq sW.symm
  have HW := Lib.hid hW
  clear k0 k1 k2 bW sW hW hP hS
  rcases Bool.eq_false_or_eq_true (stB L s) with hc | hc
  rotate_left
  · have hE : outB L s = OcE := by unfold outB; rw [hc]; rfl
    rw [hE, hc]
    have HC := Lib.hid hc
    clear hE hc
    go_enter Try.func32, Try.ntmps32
    go_wp2_with fail
    rw [← HW.out]
    refine (istok_any h L k s W B P0.out Q0.out (by omega) (PgS_L SP) (StaS_L LS) false HC).mono ?_
    rintro e w1 ⟨rfl, hb1⟩
    have B1 := Lib.hid (below_on BW.out hb1)
    have z1 := hb1.size
    have K01 := Lib.hid (K0.out.below hb1 K0.out.lt)
    have K11 := Lib.hid (K1.out.below hb1 K1.out.lt)
    have K21 := Lib.hid (K2.out.below hb1 K2.out.lt)
    have P1 := Lib.hid (P0.out.below hb1 (by omega))
    have Q1 := Lib.hid (Q0.out.below hb1 (by omega))
    clear hb1
    have cr0 : w1.cell? ⟨w.heap.size + 1 + 1, 0, none⟩ = some (.slice none 0 0) := K21.out.cell 0
    have fr0 : w1.frozen? ⟨w.heap.size + 1 + 1, 0, none⟩ = false := K21.out.free 0
    have cr1 : w1.cell? ⟨w.heap.size + 1 + 1, 1, none⟩ = some (.slice none 0 0) := K21.out.cell 1
    have fr1 : w1.frozen? ⟨w.heap.size + 1 + 1, 1, none⟩ = false := K21.out.free 1
    have cr2 : w1.cell? ⟨w.heap.size + 1 + 1, 2, none⟩ = some (.slice none 0 0) := K21.out.cell 2
    have fr2 : w1.frozen? ⟨w.heap.size + 1 + 1, 2, none⟩ = false := K21.out.free 2
    go_wp2
    clear cr0 fr0 cr1 fr1 cr2 fr2
    have kF : Bk (((w1.setCell ⟨w.heap.size + 1 + 1, 0, none⟩ (.slice none 0 0)).setCell ⟨w.heap.size + 1 + 1, 1, none⟩ (.slice none 0 0)).setCell ⟨w.heap.size + 1 + 1, 2, none⟩ (.slice none 0 0)) (w.heap.size + 1 + 1) 50 #[.slice none 0 0, .slice none 0 0, .slice none 0 0] := by
      have a0 := K21.out
      have a1 := a0.set 0 (.slice none 0 0)
      have a2 := a1.set 1 (.slice none 0 0)
      have a3 := a2.set 2 (.slice none 0 0)
      simpa using a3
    have bF : Below w.heap.size w (((w1.setCell ⟨w.heap.size + 1 + 1, 0, none⟩ (.slice none 0 0)).setCell ⟨w.heap.size + 1 + 1, 1, none⟩ (.slice none 0 0)).setCell ⟨w.heap.size + 1 + 1, 2, none⟩ (.slice none 0 0)) := (((B1.out.setCell (p := ⟨w.heap.size + 1 + 1, 0, none⟩) (show w.heap.size ≤ w.heap.size + 1 + 1 by omega) _).setCell (p := ⟨w.heap.size + 1 + 1, 1, none⟩) (show w.heap.size ≤ w.heap.size + 1 + 1 by omega) _).setCell (p := ⟨w.heap.size + 1 + 1, 2, none⟩) (show w.heap.size ≤ w.heap.size + 1 + 1 by omega) _)
    have nF : ∀ q, w.heap.size + 1 + 1 < q → (((w1.setCell ⟨w.heap.size + 1 + 1, 0, none⟩ (.slice none 0 0)).setCell ⟨w.heap.size + 1 + 1, 1, none⟩ (.slice none 0 0)).setCell ⟨w.heap.size + 1 + 1, 2, none⟩ (.slice none 0 0)).heap[q]? = w1.heap[q]? := fun q hq => (Below.heap_setCell _ _ _ q (by show q ≠ w.heap.size + 1 + 1; omega)).trans ((Below.heap_setCell _ _ _ q (by show q ≠ w.heap.size + 1 + 1; omega)).trans (Below.heap_setCell _ _ _ q (by show q ≠ w.heap.size + 1 + 1; omega)))
    have zF : w1.heap.size ≤ (((w1.setCell ⟨w.heap.size + 1 + 1, 0, none⟩ (.slice none 0 0)).setCell ⟨w.heap.size + 1 + 1, 1, none⟩ (.slice none 0 0)).setCell ⟨w.heap.size + 1 + 1, 2, none⟩ (.slice none 0 0)).heap.size := by simp
    have HF := Lib.hid kF
    have BF := Lib.hid bF
    have NF := Lib.hid nF
    obtain ⟨F, hF⟩ : ∃ F, F = (((w1.setCell ⟨w.heap.size + 1 + 1, 0, none⟩ (.slice none 0 0)).setCell ⟨w.heap.size + 1 + 1, 1, none⟩ (.slice none 0 0)).setCell ⟨w.heap.size + 1 + 1, 2, none⟩ (.slice none 0 0)) := ⟨_, rfl⟩
    rw [← hF] at HF BF NF zF
    rw [← hF]
    clear kF bF nF hF
    have c0 := HF.out.cell 0
    have c1 := HF.out.cell 1
    have c2 := HF.out.cell 2
    simp only [List.getElem?_toArray, List.getElem?_cons_zero, List.getElem?_cons_succ] at c0 c1 c2
    refine bodyPost_ret (v := .tuple #[.agg #[.slice none 0 0, .slice none 0 0, .slice none 0 0], .bool false]) (by simp [results, Try.results32, c0, c1, c2, go_sem]) rfl ?_
    exact ⟨OcN, rfl, BF.out, by omega, OcO.none_ _ _ _ _⟩
  have hE : outB L s = ocF L (wdF L s) := by unfold outB; rw [hc]; rfl
  have P := stB_parts hc
  obtain ⟨h31, h32⟩ := prog_len P.prog
  rw [hE, hc, ← ocG_out L (wdF L s) h32]
  have HC := Lib.hid hc
  have HP := Lib.hid P
  have HO := Lib.hid (outF_ok (wdF_good P).ok h32 L.length h32)
  clear hE hc P
  go_enter Try.func32, Try.ntmps32
  go_wp2_with fail
  rw [← HW.out]
  refine (istok_any h L k s W B P0.out Q0.out (by omega) (PgS_L SP) (StaS_L LS) true HC).mono ?_
  rintro e w1 ⟨rfl, hb1⟩
  have B1 := Lib.hid (below_on BW.out hb1)
  have z1 := hb1.size
  have K01 := Lib.hid (K0.out.below hb1 K0.out.lt)
  have K11 := Lib.hid (K1.out.below hb1 K1.out.lt)
  have K21 := Lib.hid (K2.out.below hb1 K2.out.lt)
  have P1 := Lib.hid (P0.out.below hb1 (by omega))
  have Q1 := Lib.hid (Q0.out.below hb1 (by omega))
  clear hb1
  have allS : ∀ w', Below w1.heap.size w1 w' → (w'.cell? ⟨w.heap.size, 0, none⟩ = some (.slice h.A L.length h.c) ∧ w'.cell? ⟨w.heap.size + 1, 0, none⟩ = some (.slice k.A0 s.f0.length k.c0) ∧ w'.cell? ⟨w.heap.size + 1, 1, none⟩ = some (.slice k.A1 s.f1.length k.c1) ∧ w'.cell? ⟨w.heap.size + 1, 2, none⟩ = some (.slice k.A2 s.f2.length k.c2) ∧ w'.cell? ⟨w.heap.size + 1, 3, none⟩ = some (.slice k.A3 s.f3.length k.c3) ∧ w'.cell? ⟨w.heap.size + 1, 4, none⟩ = some (.slice k.A4 s.f4.length k.c4)) := fun w' hb => ⟨box_at (K01.out.below hb K01.out.lt), (K11.out.below hb K11.out.lt).cell 0, (K11.out.below hb K11.out.lt).cell 1, (K11.out.below hb K11.out.lt).cell 2, (K11.out.below hb K11.out.lt).cell 3, (K11.out.below hb K11.out.lt).cell 4⟩
  have AllS := Lib.hid allS
  clear allS
  go_wp2_with fail
  go_region_held3 (fun w' => w'.cell? ⟨w.heap.size, 0, none⟩ = some (.slice h.A L.length h.c) ∧ w'.cell? ⟨w.heap.size + 1, 0, none⟩ = some (.slice k.A0 s.f0.length k.c0) ∧ w'.cell? ⟨w.heap.size + 1, 1, none⟩ = some (.slice k.A1 s.f1.length k.c1) ∧ w'.cell? ⟨w.heap.size + 1, 2, none⟩ = some (.slice k.A2 s.f2.length k.c2) ∧ w'.cell? ⟨w.heap.size + 1, 3, none⟩ = some (.slice k.A3 s.f3.length k.c3) ∧ w'.cell? ⟨w.heap.size + 1, 4, none⟩ = some (.slice k.A4 s.f4.length k.c4)) (first | (with_reducible exact Fin.out) | (go_split_ands; refine AllS.out _ ?_; go_grown; done) | (refine AllS.out _ ?_; go_grown; done)) (first | (go_at_call 75; go_split_ands; refine (packed_any h L k s _ B (P1.out.below (show Below w1.heap.size w1 _ from by go_grown) (by omega)) (Q1.out.below (show Below w1.heap.size w1 _ from by go_grown) (by omega)) (Nat.le_trans (show B ≤ w1.heap.size by omega) (show Below w1.heap.size w1 _ from by go_grown).size) HP.out).mono ?_; rintro e v0 ⟨rfl, hv⟩; have hBv0 : Below w1.heap.size w1 v0 := below_on (by go_grown) hv; clear hv) | (go_at_call 86; go_split_ands; refine (outword_any h L (wdF L s) _ B (P1.out.below (show Below w1.heap.size w1 _ from by go_grown) (by omega)) (Nat.le_trans (show B ≤ w1.heap.size by omega) (show Below w1.heap.size w1 _ from by go_grown).size) HP.out.prog (wdF_good HP.out)).mono ?_; rintro e v1 ⟨rfl, hv⟩; have hBv1 : Below w1.heap.size w1 v1 := below_on (by go_grown) hv; clear hv) | (go_at_call 85; go_split_ands; refine (unpout_any h L _ _ h32 HO.out).mono ?_; rintro e v2 ⟨hu, rfl, hv, hlt, ov⟩; have Ov := Lib.hid ov; have hBv2 : Below w1.heap.size w1 v2 := below_on (by go_grown) hv; have hz2 := hv.size; have hz1v := hBv1.size; have cr0 : v2.cell? ⟨w.heap.size + 1 + 1, 0, none⟩ = some (.slice none 0 0) := (K21.out.below hBv2 K21.out.lt).cell 0; have fr0 : v2.frozen? ⟨w.heap.size + 1 + 1, 0, none⟩ = false := (K21.out.below hBv2 K21.out.lt).free 0; have cr1 : v2.cell? ⟨w.heap.size + 1 + 1, 1, none⟩ = some (.slice none 0 0) := (K21.out.below hBv2 K21.out.lt).cell 1; have fr1 : v2.frozen? ⟨w.heap.size + 1 + 1, 1, none⟩ = false := (K21.out.below hBv2 K21.out.lt).free 1; have cr2 : v2.cell? ⟨w.heap.size + 1 + 1, 2, none⟩ = some (.slice none 0 0) := (K21.out.below hBv2 K21.out.lt).cell 2; have fr2 : v2.frozen? ⟨w.heap.size + 1 + 1, 2, none⟩ = false := (K21.out.below hBv2 K21.out.lt).free 2; have fin : (((v2.setCell ⟨w.heap.size + 1 + 1, 0, none⟩ (.slice hu.A0 (ocG L (outF L (wdF L s) L.length)).f0.length hu.c0)).setCell ⟨w.heap.size + 1 + 1, 1, none⟩ (.slice hu.A1 (ocG L (outF L (wdF L s) L.length)).f1.length hu.c1)).setCell ⟨w.heap.size + 1 + 1, 2, none⟩ (.slice hu.A2 (ocG L (outF L (wdF L s) L.length)).f2.length hu.c2)).cell? ⟨w.heap.size, 0, none⟩ = some (.slice h.A L.length h.c) ∧ (((v2.setCell ⟨w.heap.size + 1 + 1, 0, none⟩ (.slice hu.A0 (ocG L (outF L (wdF L s) L.length)).f0.length hu.c0)).setCell ⟨w.heap.size + 1 + 1, 1, none⟩ (.slice hu.A1 (ocG L (outF L (wdF L s) L.length)).f1.length hu.c1)).setCell ⟨w.heap.size + 1 + 1, 2, none⟩ (.slice hu.A2 (ocG L (outF L (wdF L s) L.length)).f2.length hu.c2)).cell? ⟨w.heap.size + 1, 0, none⟩ = some (.slice k.A0 s.f0.length k.c0) ∧ (((v2.setCell ⟨w.heap.size + 1 + 1, 0, none⟩ (.slice hu.A0 (ocG L (outF L (wdF L s) L.length)).f0.length hu.c0)).setCell ⟨w.heap.size + 1 + 1, 1, none⟩ (.slice hu.A1 (ocG L (outF L (wdF L s) L.length)).f1.length hu.c1)).setCell ⟨w.heap.size + 1 + 1, 2, none⟩ (.slice hu.A2 (ocG L (outF L (wdF L s) L.length)).f2.length hu.c2)).cell? ⟨w.heap.size + 1, 1, none⟩ = some (.slice k.A1 s.f1.length k.c1) ∧ (((v2.setCell ⟨w.heap.size + 1 + 1, 0, none⟩ (.slice hu.A0 (ocG L (outF L (wdF L s) L.length)).f0.length hu.c0)).setCell ⟨w.heap.size + 1 + 1, 1, none⟩ (.slice hu.A1 (ocG L (outF L (wdF L s) L.length)).f1.length hu.c1)).setCell ⟨w.heap.size + 1 + 1, 2, none⟩ (.slice hu.A2 (ocG L (outF L (wdF L s) L.length)).f2.length hu.c2)).cell? ⟨w.heap.size + 1, 2, none⟩ = some (.slice k.A2 s.f2.length k.c2) ∧ (((v2.setCell ⟨w.heap.size + 1 + 1, 0, none⟩ (.slice hu.A0 (ocG L (outF L (wdF L s) L.length)).f0.length hu.c0)).setCell ⟨w.heap.size + 1 + 1, 1, none⟩ (.slice hu.A1 (ocG L (outF L (wdF L s) L.length)).f1.length hu.c1)).setCell ⟨w.heap.size + 1 + 1, 2, none⟩ (.slice hu.A2 (ocG L (outF L (wdF L s) L.length)).f2.length hu.c2)).cell? ⟨w.heap.size + 1, 3, none⟩ = some (.slice k.A3 s.f3.length k.c3) ∧ (((v2.setCell ⟨w.heap.size + 1 + 1, 0, none⟩ (.slice hu.A0 (ocG L (outF L (wdF L s) L.length)).f0.length hu.c0)).setCell ⟨w.heap.size + 1 + 1, 1, none⟩ (.slice hu.A1 (ocG L (outF L (wdF L s) L.length)).f1.length hu.c1)).setCell ⟨w.heap.size + 1 + 1, 2, none⟩ (.slice hu.A2 (ocG L (outF L (wdF L s) L.length)).f2.length hu.c2)).cell? ⟨w.heap.size + 1, 4, none⟩ = some (.slice k.A4 s.f4.length k.c4) := ⟨((((K01.out.below hBv2 K01.out.lt).far (p := ⟨w.heap.size + 1 + 1, 0, none⟩) (show w.heap.size ≠ w.heap.size + 1 + 1 by omega) _).far (p := ⟨w.heap.size + 1 + 1, 1, none⟩) (show w.heap.size ≠ w.heap.size + 1 + 1 by omega) _).far (p := ⟨w.heap.size + 1 + 1, 2, none⟩) (show w.heap.size ≠ w.heap.size + 1 + 1 by omega) _).cell 0, ((((K11.out.below hBv2 K11.out.lt).far (p := ⟨w.heap.size + 1 + 1, 0, none⟩) (show w.heap.size + 1 ≠ w.heap.size + 1 + 1 by omega) _).far (p := ⟨w.heap.size + 1 + 1, 1, none⟩) (show w.heap.size + 1 ≠ w.heap.size + 1 + 1 by omega) _).far (p := ⟨w.heap.size + 1 + 1, 2, none⟩) (show w.heap.size + 1 ≠ w.heap.size + 1 + 1 by omega) _).cell 0, ((((K11.out.below hBv2 K11.out.lt).far (p := ⟨w.heap.size + 1 + 1, 0, none⟩) (show w.heap.size + 1 ≠ w.heap.size + 1 + 1 by omega) _).far (p := ⟨w.heap.size + 1 + 1, 1, none⟩) (show w.heap.size + 1 ≠ w.heap.size + 1 + 1 by omega) _).far (p := ⟨w.heap.size + 1 + 1, 2, none⟩) (show w.heap.size + 1 ≠ w.heap.size + 1 + 1 by omega) _).cell 1, ((((K11.out.below hBv2 K11.out.lt).far (p := ⟨w.heap.size + 1 + 1, 0, none⟩) (show w.heap.size + 1 ≠ w.heap.size + 1 + 1 by omega) _).far (p := ⟨w.heap.size + 1 + 1, 1, none⟩) (show w.heap.size + 1 ≠ w.heap.size + 1 + 1 by omega) _).far (p := ⟨w.heap.size + 1 + 1, 2, none⟩) (show w.heap.size + 1 ≠ w.heap.size + 1 + 1 by omega) _).cell 2, ((((K11.out.below hBv2 K11.out.lt).far (p := ⟨w.heap.size + 1 + 1, 0, none⟩) (show w.heap.size + 1 ≠ w.heap.size + 1 + 1 by omega) _).far (p := ⟨w.heap.size + 1 + 1, 1, none⟩) (show w.heap.size + 1 ≠ w.heap.size + 1 + 1 by omega) _).far (p := ⟨w.heap.size + 1 + 1, 2, none⟩) (show w.heap.size + 1 ≠ w.heap.size + 1 + 1 by omega) _).cell 3, ((((K11.out.below hBv2 K11.out.lt).far (p := ⟨w.heap.size + 1 + 1, 0, none⟩) (show w.heap.size + 1 ≠ w.heap.size + 1 + 1 by omega) _).far (p := ⟨w.heap.size + 1 + 1, 1, none⟩) (show w.heap.size + 1 ≠ w.heap.size + 1 + 1 by omega) _).far (p := ⟨w.heap.size + 1 + 1, 2, none⟩) (show w.heap.size + 1 ≠ w.heap.size + 1 + 1 by omega) _).cell 4⟩; have Fin := Lib.hid fin; clear fin; clear hv hlt ov))
  clear Fin AllS
  clear cr0 fr0 cr1 fr1 cr2 fr2
  have kF : Bk (((v2.setCell ⟨w.heap.size + 1 + 1, 0, none⟩ (.slice hu.A0 (ocG L (outF L (wdF L s) L.length)).f0.length hu.c0)).setCell ⟨w.heap.size + 1 + 1, 1, none⟩ (.slice hu.A1 (ocG L (outF L (wdF L s) L.length)).f1.length hu.c1)).setCell ⟨w.heap.size + 1 + 1, 2, none⟩ (.slice hu.A2 (ocG L (outF L (wdF L s) L.length)).f2.length hu.c2)) (w.heap.size + 1 + 1) 50 #[.slice hu.A0 (ocG L (outF L (wdF L s) L.length)).f0.length hu.c0, .slice hu.A1 (ocG L (outF L (wdF L s) L.length)).f1.length hu.c1, .slice hu.A2 (ocG L (outF L (wdF L s) L.length)).f2.length hu.c2] := by
    have a0 := (K21.out.below hBv2 K21.out.lt)
    have a1 := a0.set 0 (.slice hu.A0 (ocG L (outF L (wdF L s) L.length)).f0.length hu.c0)
    have a2 := a1.set 1 (.slice hu.A1 (ocG L (outF L (wdF L s) L.length)).f1.length hu.c1)
    have a3 := a2.set 2 (.slice hu.A2 (ocG L (outF L (wdF L s) L.length)).f2.length hu.c2)
    simpa using a3
  have bF : Below w.heap.size w (((v2.setCell ⟨w.heap.size + 1 + 1, 0, none⟩ (.slice hu.A0 (ocG L (outF L (wdF L s) L.length)).f0.length hu.c0)).setCell ⟨w.heap.size + 1 + 1, 1, none⟩ (.slice hu.A1 (ocG L (outF L (wdF L s) L.length)).f1.length hu.c1)).setCell ⟨w.heap.size + 1 + 1, 2, none⟩ (.slice hu.A2 (ocG L (outF L (wdF L s) L.length)).f2.length hu.c2)) := ((((B1.out.trans (hBv2.mono (by omega))).setCell (p := ⟨w.heap.size + 1 + 1, 0, none⟩) (show w.heap.size ≤ w.heap.size + 1 + 1 by omega) _).setCell (p := ⟨w.heap.size + 1 + 1, 1, none⟩) (show w.heap.size ≤ w.heap.size + 1 + 1 by omega) _).setCell (p := ⟨w.heap.size + 1 + 1, 2, none⟩) (show w.heap.size ≤ w.heap.size + 1 + 1 by omega) _)
  have nF : ∀ q, w.heap.size + 1 + 1 < q → (((v2.setCell ⟨w.heap.size + 1 + 1, 0, none⟩ (.slice hu.A0 (ocG L (outF L (wdF L s) L.length)).f0.length hu.c0)).setCell ⟨w.heap.size + 1 + 1, 1, none⟩ (.slice hu.A1 (ocG L (outF L (wdF L s) L.length)).f1.length hu.c1)).setCell ⟨w.heap.size + 1 + 1, 2, none⟩ (.slice hu.A2 (ocG L (outF L (wdF L s) L.length)).f2.length hu.c2)).heap[q]? = v2.heap[q]? := fun q hq => (Below.heap_setCell _ _ _ q (by show q ≠ w.heap.size + 1 + 1; omega)).trans ((Below.heap_setCell _ _ _ q (by show q ≠ w.heap.size + 1 + 1; omega)).trans (Below.heap_setCell _ _ _ q (by show q ≠ w.heap.size + 1 + 1; omega)))
  have zF : v2.heap.size ≤ (((v2.setCell ⟨w.heap.size + 1 + 1, 0, none⟩ (.slice hu.A0 (ocG L (outF L (wdF L s) L.length)).f0.length hu.c0)).setCell ⟨w.heap.size + 1 + 1, 1, none⟩ (.slice hu.A1 (ocG L (outF L (wdF L s) L.length)).f1.length hu.c1)).setCell ⟨w.heap.size + 1 + 1, 2, none⟩ (.slice hu.A2 (ocG L (outF L (wdF L s) L.length)).f2.length hu.c2)).heap.size := by simp
  have HF := Lib.hid kF
  have BF := Lib.hid bF
  have NF := Lib.hid nF
  obtain ⟨F, hF⟩ : ∃ F, F = (((v2.setCell ⟨w.heap.size + 1 + 1, 0, none⟩ (.slice hu.A0 (ocG L (outF L (wdF L s) L.length)).f0.length hu.c0)).setCell ⟨w.heap.size + 1 + 1, 1, none⟩ (.slice hu.A1 (ocG L (outF L (wdF L s) L.length)).f1.length hu.c1)).setCell ⟨w.heap.size + 1 + 1, 2, none⟩ (.slice hu.A2 (ocG L (outF L (wdF L s) L.length)).f2.length hu.c2)) := ⟨_, rfl⟩
  rw [← hF] at HF BF NF zF
  rw [← hF]
  clear kF bF nF hF
  have c0 := HF.out.cell 0
  have c1 := HF.out.cell 1
  have c2 := HF.out.cell 2
  simp only [List.getElem?_toArray, List.getElem?_cons_zero, List.getElem?_cons_succ] at c0 c1 c2
  go_wp2
  refine bodyPost_ret (v := .tuple #[.agg #[.slice hu.A0 (ocG L (outF L (wdF L s) L.length)).f0.length hu.c0, .slice hu.A1 (ocG L (outF L (wdF L s) L.length)).f1.length hu.c1, .slice hu.A2 (ocG L (outF L (wdF L s) L.length)).f2.length hu.c2], .bool true]) (by simp [results, Try.results32, c0, c1, c2, go_sem]) rfl ?_
  exact ⟨hu, rfl, BF.out, by omega, Ov.out.keep (by omega) zF fun q h1 h2 => NF.out q (by omega)⟩
end Go.Proofs.Ytmnpndmjheippaa
namespace Go.Proofs.Ytmnpndmjheippaa
open Go.RowKit Pl
set_option maxHeartbeats 4000000
set_option maxRecDepth 100000
set_option linter.unusedVariables false

theorem spout_any (h : PgH) (L : Pg) (k : StaH) (s : Sta) (w : World) (B : Nat) (hP : PgR w B h L) (hS : StaR w B k s) (hB : B ≤ w.heap.size) (SP : PgS L) (LS : StaS s) :
    Calls Try.prog 31 #[PgV h L, StaV k s] w (AnsIOc w (outB L s) (stB L s)) := by
  obtain ⟨W, hW⟩ : ∃ W, W = ((w.alloc (.cells #[.slice h.A L.length h.c] 35)).alloc (.cells #[.slice k.A0 s.f0.length k.c0, .slice k.A1 s.f1.length k.c1, .slice k.A2 s.f2.length k.c2, .slice k.A3 s.f3.length k.c3, .slice k.A4 s.f4.length k.c4] 30)).alloc (.cells #[.slice none 0 0, .slice none 0 0, .slice none 0 0] 50) := ⟨_, rfl⟩
  have bW : Below w.heap.size w W := by rw [hW]; go_grown
  have sW : W.heap.size = w.heap.size + 1 + 1 + 1 := by rw [hW]; simp
  have k0 : Bk W w.heap.size 35 #[.slice h.A L.length h.c] := by rw [hW]; exact ((Bk.new w _ _).alloc _).alloc _
  have k1 : Bk W (w.heap.size + 1) 30 #[.slice k.A0 s.f0.length k.c0, .slice k.A1 s.f1.length k.c1, .slice k.A2 s.f2.length k.c2, .slice k.A3 s.f3.length k.c3, .slice k.A4 s.f4.length k.c4] := by
    rw [hW]; have := (Bk.new (w.alloc (.cells #[.slice h.A L.length h.c] 35)) #[.slice k.A0 s.f0.length k.c0, .slice k.A1 s.f1.length k.c1, .slice k.A2 s.f2.length k.c2, .slice k.A3 s.f3.length k.c3, .slice k.A4 s.f4.length k.c4] 30).alloc (.cells #[.slice none 0 0, .slice none 0 0, .slice none 0 0] 50)
    rwa [World.size_alloc] at this
  have k2 : Bk W (w.heap.size + 1 + 1) 50 #[.slice none 0 0, .slice none 0 0, .slice none 0 0] := by
    rw [hW]; have := Bk.new ((w.alloc (.cells #[.slice h.A L.length h.c] 35)).alloc (.cells #[.slice k.A0 s.f0.length k.c0, .slice k.A1 s.f1.length k.c1, .slice k.A2 s.f2.length k.c2, .slice k.A3 s.f3.length k.c3, .slice k.A4 s.f4.length k.c4] 30)) #[.slice none 0 0, .slice none 0 0, .slice none 0 0] 50
    rwa [World.size_alloc, World.size_alloc] at this
  have P0 := Lib.hid (hP.below bW hB)
  have Q0 := Lib.hid (hS.below bW hB)
  have K0 := Lib.hid k0
  have K1 := Lib.hid k1
  have K2 := Lib.hid k2
  have BW := Lib.hid bW
  have sWa := Nat.le_of_eq sW
  have sWb := Nat.le_of_eq sW.symm
  have HW := Lib.hid hW
  clear k0 k1 k2 bW sW hW hP hS
  rcases Bool.eq_false_or_eq_true (stB L s) with hc | hc
  rotate_left
  · have hE : outB L s = OcE := by unfold outB; rw [hc]; rfl
    rw [hE, hc]
    have HC := Lib.hid hc
    clear hE hc
    go_enter Try.func31, Try.ntmps31
    go_wp2_with fail
    rw [← HW.out]
    refine (sstok_any h L k s W B P0.out Q0.out (by omega) SP LS false HC).mono ?_
    rintro e w1 ⟨rfl, hb1⟩
    have B1 := Lib.hid (below_on BW.out hb1)
    have z1 := hb1.size
    have K01 := Lib.hid (K0.out.below hb1 K0.out.lt)
    have K11 := Lib.hid (K1.out.below hb1 K1.out.lt)
    have K21 := Lib.hid (K2.out.below hb1 K2.out.lt)
    have P1 := Lib.hid (P0.out.below hb1 (by omega))
    have Q1 := Lib.hid (Q0.out.below hb1 (by omega))
    clear hb1
    have cr0 : w1.cell? ⟨w.heap.size + 1 + 1, 0, none⟩ = some (.slice none 0 0) := K21.out.cell 0
    have fr0 : w1.frozen? ⟨w.heap.size + 1 + 1, 0, none⟩ = false := K21.out.free 0
    have cr1 : w1.cell? ⟨w.heap.size + 1 + 1, 1, none⟩ = some (.slice none 0 0) := K21.out.cell 1
    have fr1 : w1.frozen? ⟨w.heap.size + 1 + 1, 1, none⟩ = false := K21.out.free 1
    have cr2 : w1.cell? ⟨w.heap.size + 1 + 1, 2, none⟩ = some (.slice none 0 0) := K21.out.cell 2
    have fr2 : w1.frozen? ⟨w.heap.size + 1 + 1, 2, none⟩ = false := K21.out.free 2
    go_wp2
    clear cr0 fr0 cr1 fr1 cr2 fr2
    have kF : Bk (((w1.setCell ⟨w.heap.size + 1 + 1, 0, none⟩ (.slice none 0 0)).setCell ⟨w.heap.size + 1 + 1, 1, none⟩ (.slice none 0 0)).setCell ⟨w.heap.size + 1 + 1, 2, none⟩ (.slice none 0 0)) (w.heap.size + 1 + 1) 50 #[.slice none 0 0, .slice none 0 0, .slice none 0 0] := by
      have a0 := K21.out
      have a1 := a0.set 0 (.slice none 0 0)
      have a2 := a1.set 1 (.slice none 0 0)
      have a3 := a2.set 2 (.slice none 0 0)
      simpa using a3
    have bF : Below w.heap.size w (((w1.setCell ⟨w.heap.size + 1 + 1, 0, none⟩ (.slice none 0 0)).setCell ⟨w.heap.size + 1 + 1, 1, none⟩ (.slice none 0 0)).setCell ⟨w.heap.size + 1 + 1, 2, none⟩ (.slice none 0 0)) := (((B1.out.setCell (p := ⟨w.heap.size + 1 + 1, 0, none⟩) (show w.heap.size ≤ w.heap.size + 1 + 1 by omega) _).setCell (p := ⟨w.heap.size + 1 + 1, 1, none⟩) (show w.heap.size ≤ w.heap.size + 1 + 1 by omega) _).setCell (p := ⟨w.heap.size + 1 + 1, 2, none⟩) (show w.heap.size ≤ w.heap.size + 1 + 1 by omega) _)
    have nF : ∀ q, w.heap.size + 1 + 1 < q → (((w1.setCell ⟨w.heap.size + 1 + 1, 0, none⟩ (.slice none 0 0)).setCell ⟨w.heap.size + 1 + 1, 1, none⟩ (.slice none 0 0)).setCell ⟨w.heap.size + 1 + 1, 2, none⟩ (.slice none 0 0)).heap[q]? = w1.heap[q]? := fun q hq => (Below.heap_setCell _ _ _ q (by show q ≠ w.heap.size + 1 + 1; omega)).trans ((Below.heap_setCell _ _ _ q (by show q ≠ w.heap.size + 1 + 1; omega)).trans (Below.heap_setCell _ _ _ q (by show q ≠ w.heap.size + 1 + 1; omega)))
    have zF : w1.heap.size ≤ (((w1.setCell ⟨w.heap.size + 1 + 1, 0, none⟩ (.slice none 0 0)).setCell ⟨w.heap.size + 1 + 1, 1, none⟩ (.slice none 0 0)).setCell ⟨w.heap.size + 1 + 1, 2, none⟩ (.slice none 0 0)).heap.size := by simp
    have HF := Lib.hid kF
    have BF := Lib.hid bF
    have NF := Lib.hid nF
    obtain ⟨F, hF⟩ : ∃ F, F = (((w1.setCell ⟨w.heap.size + 1 + 1, 0, none⟩ (.slice none 0 0)).setCell ⟨w.heap.size + 1 + 1, 1, none⟩ (.slice none 0 0)).setCell ⟨w.heap.size + 1 + 1, 2, none⟩ (.slice none 0 0)) := ⟨_, rfl⟩
    rw [← hF] at HF BF NF zF
    rw [← hF]
    clear kF bF nF hF
    have c0 := HF.out.cell 0
    have c1 := HF.out.cell 1
    have c2 := HF.out.cell 2
    simp only [List.getElem?_toArray, List.getElem?_cons_zero, List.getElem?_cons_succ] at c0 c1 c2
    refine bodyPost_ret (v := .tuple #[.agg #[.slice none 0 0, .slice none 0 0, .slice none 0 0], .bool false]) (by simp [results, Try.results31, c0, c1, c2, go_sem]) rfl ?_
    exact ⟨OcN, rfl, BF.out, by omega, OcI.none_ _ _ _ _⟩
  have hE : outB L s = ocF L (wdF L s) := by unfold outB; rw [hc]; rfl
  have P := stB_parts hc
  obtain ⟨h31, h32⟩ := prog_len P.prog
  rw [hE, hc]
  have HC := Lib.hid hc
  have HP := Lib.hid P
  have HO := Lib.hid (outF_ok (wdF_good P).ok h32 L.length h32)
  clear hE hc P
  go_enter Try.func31, Try.ntmps31
  go_wp2_with fail
  rw [← HW.out]
  refine (sstok_any h L k s W B P0.out Q0.out (by omega) SP LS true HC).mono ?_
  rintro e w1 ⟨rfl, hb1⟩
  have B1 := Lib.hid (below_on BW.out hb1)
  have z1 := hb1.size
  have K01 := Lib.hid (K0.out.below hb1 K0.out.lt)
  have K11 := Lib.hid (K1.out.below hb1 K1.out.lt)
  have K21 := Lib.hid (K2.out.below hb1 K2.out.lt)
  have P1 := Lib.hid (P0.out.below hb1 (by omega))
  have Q1 := Lib.hid (Q0.out.below hb1 (by omega))
  clear hb1
  have c_p : w1.cell? ⟨w.heap.size, 0, none⟩ = some (.slice h.A L.length h.c) := K01.out.cell 0
  have c_s0 : w1.cell? ⟨w.heap.size + 1, 0, none⟩ = some (.slice k.A0 s.f0.length k.c0) := K11.out.cell 0
  have c_s1 : w1.cell? ⟨w.heap.size + 1, 1, none⟩ = some (.slice k.A1 s.f1.length k.c1) := K11.out.cell 1
  have c_s2 : w1.cell? ⟨w.heap.size + 1, 2, none⟩ = some (.slice k.A2 s.f2.length k.c2) := K11.out.cell 2
  have c_s3 : w1.cell? ⟨w.heap.size + 1, 3, none⟩ = some (.slice k.A3 s.f3.length k.c3) := K11.out.cell 3
  have c_s4 : w1.cell? ⟨w.heap.size + 1, 4, none⟩ = some (.slice k.A4 s.f4.length k.c4) := K11.out.cell 4
  go_wp2_with fail
  clear c_p c_s0 c_s1 c_s2 c_s3 c_s4
  have a0 := sout0_any h L k (wdF L s) w1 B P1.out (by rw [staF_wd HP.out]; exact Q1.out) (by omega) h31 h32
  rw [staF_wd HP.out] at a0
  refine a0.mono ?_
  clear a0
  rintro e v2 ⟨hu, rfl, hv, hlt, ov⟩
  have Ov := Lib.hid ov
  have hBv2 : Below w1.heap.size w1 v2 := hv
  have hz2 := hv.size
  clear hv ov
  have K22 := Lib.hid (K21.out.below hBv2 K21.out.lt)
  have cr0 : v2.cell? ⟨w.heap.size + 1 + 1, 0, none⟩ = some (.slice none 0 0) := K22.out.cell 0
  have fr0 : v2.frozen? ⟨w.heap.size + 1 + 1, 0, none⟩ = false := K22.out.free 0
  have cr1 : v2.cell? ⟨w.heap.size + 1 + 1, 1, none⟩ = some (.slice none 0 0) := K22.out.cell 1
  have fr1 : v2.frozen? ⟨w.heap.size + 1 + 1, 1, none⟩ = false := K22.out.free 1
  have cr2 : v2.cell? ⟨w.heap.size + 1 + 1, 2, none⟩ = some (.slice none 0 0) := K22.out.cell 2
  have fr2 : v2.frozen? ⟨w.heap.size + 1 + 1, 2, none⟩ = false := K22.out.free 2
  go_wp2
  clear cr0 fr0 cr1 fr1 cr2 fr2
  have kF : Bk (((v2.setCell ⟨w.heap.size + 1 + 1, 0, none⟩ (.slice hu.A0 (ocF L (wdF L s)).f0.length hu.c0)).setCell ⟨w.heap.size + 1 + 1, 1, none⟩ (.slice hu.A1 (ocF L (wdF L s)).f1.length hu.c1)).setCell ⟨w.heap.size + 1 + 1, 2, none⟩ (.slice hu.A2 (ocF L (wdF L s)).f2.length hu.c2)) (w.heap.size + 1 + 1) 50 #[.slice hu.A0 (ocF L (wdF L s)).f0.length hu.c0, .slice hu.A1 (ocF L (wdF L s)).f1.length hu.c1, .slice hu.A2 (ocF L (wdF L s)).f2.length hu.c2] := by
    have a0 := K22.out
    have a1 := a0.set 0 (.slice hu.A0 (ocF L (wdF L s)).f0.length hu.c0)
    have a2 := a1.set 1 (.slice hu.A1 (ocF L (wdF L s)).f1.length hu.c1)
    have a3 := a2.set 2 (.slice hu.A2 (ocF L (wdF L s)).f2.length hu.c2)
    simpa using a3
  have bF : Below w.heap.size w (((v2.setCell ⟨w.heap.size + 1 + 1, 0, none⟩ (.slice hu.A0 (ocF L (wdF L s)).f0.length hu.c0)).setCell ⟨w.heap.size + 1 + 1, 1, none⟩ (.slice hu.A1 (ocF L (wdF L s)).f1.length hu.c1)).setCell ⟨w.heap.size + 1 + 1, 2, none⟩ (.slice hu.A2 (ocF L (wdF L s)).f2.length hu.c2)) := ((((B1.out.trans (hBv2.mono (by omega))).setCell (p := ⟨w.heap.size + 1 + 1, 0, none⟩) (show w.heap.size ≤ w.heap.size + 1 + 1 by omega) _).setCell (p := ⟨w.heap.size + 1 + 1, 1, none⟩) (show w.heap.size ≤ w.heap.size + 1 + 1 by omega) _).setCell (p := ⟨w.heap.size + 1 + 1, 2, none⟩) (show w.heap.size ≤ w.heap.size + 1 + 1 by omega) _)
  have nF : ∀ q, w.heap.size + 1 + 1 < q → (((v2.setCell ⟨w.heap.size + 1 + 1, 0, none⟩ (.slice hu.A0 (ocF L (wdF L s)).f0.length hu.c0)).setCell ⟨w.heap.size + 1 + 1, 1, none⟩ (.slice hu.A1 (ocF L (wdF L s)).f1.length hu.c1)).setCell ⟨w.heap.size + 1 + 1, 2, none⟩ (.slice hu.A2 (ocF L (wdF L s)).f2.length hu.c2)).heap[q]? = v2.heap[q]? := fun q hq => (Below.heap_setCell _ _ _ q (by show q ≠ w.heap.size + 1 + 1; omega)).trans ((Below.heap_setCell _ _ _ q (by show q ≠ w.heap.size + 1 + 1; omega)).trans (Below.heap_setCell _ _ _ q (by show q ≠ w.heap.size + 1 + 1; omega)))
  have zF : v2.heap.size ≤ (((v2.setCell ⟨w.heap.size + 1 + 1, 0, none⟩ (.slice hu.A0 (ocF L (wdF L s)).f0.length hu.c0)).setCell ⟨w.heap.size + 1 + 1, 1, none⟩ (.slice hu.A1 (ocF L (wdF L s)).f1.length hu.c1)).setCell ⟨w.heap.size + 1 + 1, 2, none⟩ (.slice hu.A2 (ocF L (wdF L s)).f2.length hu.c2)).heap.size := by simp
  have HF := Lib.hid kF
  have BF := Lib.hid bF
  have NF := Lib.hid nF
  obtain ⟨F, hF⟩ : ∃ F, F = (((v2.setCell ⟨w.heap.size + 1 + 1, 0, none⟩ (.slice hu.A0 (ocF L (wdF L s)).f0.length hu.c0)).setCell ⟨w.heap.size + 1 + 1, 1, none⟩ (.slice hu.A1 (ocF L (wdF L s)).f1.length hu.c1)).setCell ⟨w.heap.size + 1 + 1, 2, none⟩ (.slice hu.A2 (ocF L (wdF L s)).f2.length hu.c2)) := ⟨_, rfl⟩
  rw [← hF] at HF BF NF zF
  rw [← hF]
  clear kF bF nF hF
  have c0 := HF.out.cell 0
  have c1 := HF.out.cell 1
  have c2 := HF.out.cell 2
  simp only [List.getElem?_toArray, List.getElem?_cons_zero, List.getElem?_cons_succ] at c0 c1 c2
  refine bodyPost_ret (v := .tuple #[.agg #[.slice hu.A0 (ocF L (wdF L s)).f0.length hu.c0, .slice hu.A1 (ocF L (wdF L s)).f1.length hu.c1, .slice hu.A2 (ocF L (wdF L s)).f2.length hu.c2], .bool true]) (by simp [results, Try.results31, c0, c1, c2, go_sem]) rfl ?_
  exact ⟨hu, rfl, BF.out, by omega, Ov.out.keep (by omega) zF fun q h1 h2 => NF.out q (by omega)⟩
end Go.Proofs.Ytmnpndmjheippaa
