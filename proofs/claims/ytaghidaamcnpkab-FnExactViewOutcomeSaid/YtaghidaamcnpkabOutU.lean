/-
  What the program's unpackedOutcome comes to.
-/
import Derived.Test.YtaghidaamcnpkabFldW
import Derived.Test.YtaghidaamcnpkabCutP
import Derived.Deep.RegionHeld3
import Derived.Deep.DeepCutAuto
namespace Go.Proofs.Ytaghidaamcnpkab
open Go.RowKit Pl
set_option maxHeartbeats 2000000
set_option maxRecDepth 100000
set_option linter.unusedVariables false

def regN (L : Pg) (f : Nat → Nat) : List Nat := (List.range (L.length * 3)).map fun i => f (6 + i)
def memN (f : Nat → Nat) : List Nat := (List.range 3).map fun i => f (15 + i)
def doneB (L : Pg) (f : Nat → Nat) (t : Nat) : Bool := f (3 + t) == (L.getD t []).length
/-- The word of an outcome, as far as k threads are told. -/
def outF (L : Pg) (f : Nat → Nat) (k : Nat) : Nat → Nat := fun p => if 13 ≤ p ∧ p < 13 + k then bitN (doneB L f (p - 13)) else updL (updL zeroF 0 (regN L f)) 9 (memN f) p
def ocF (L : Pg) (f : Nat → Nat) : Oc := ⟨fldI f 6 (fL 1) (L.length * 3), fldI f 15 (fL 2) 3, (List.range L.length).map (doneB L f)⟩
theorem regN_length (L : Pg) (f : Nat → Nat) : (regN L f).length = L.length * 3 := by simp [regN]
theorem memN_length (f : Nat → Nat) : (memN f).length = 3 := by simp [memN]
theorem zeroO_ok : okF WO zeroF := okF_of fun p hp => by unfold zeroF; exact Nat.two_pow_pos _
theorem zeroO_enc : enc WO zeroF = 0 := by decide
theorem regN_lt {L : Pg} {f : Nat → Nat} (h : okF WS f) (h3 : L.length ≤ 3) : ∀ v ∈ regN L f, v < 2 ^ fB 1 := fun v hv => by
  obtain ⟨i, hi, rfl⟩ := List.mem_map.1 hv
  exact fld_lt fld1 h (i := i) (by have := List.mem_range.1 hi; show i < 9; omega)
theorem memN_lt {f : Nat → Nat} (h : okF WS f) : ∀ v ∈ memN f, v < 2 ^ fB 2 := fun v hv => by
  obtain ⟨i, hi, rfl⟩ := List.mem_map.1 hv
  exact fld_lt fld2 h (i := i) (by have := List.mem_range.1 hi; show i < 3; omega)
theorem out0_ok {L : Pg} {f : Nat → Nat} (h : okF WS f) (h3 : L.length ≤ 3) : okF WO (updL zeroF 0 (regN L f)) :=
  okF_updL flo1 (regN L f) zeroF 0 zeroO_ok (by rw [regN_length]; show 0 + L.length * 3 ≤ 9; omega) (regN_lt h h3)
theorem out1_ok {L : Pg} {f : Nat → Nat} (h : okF WS f) (h3 : L.length ≤ 3) : okF WO (updL (updL zeroF 0 (regN L f)) 9 (memN f)) :=
  okF_updL flo2 (memN f) _ 0 (out0_ok h h3) (by rw [memN_length]; exact Nat.le_refl 3) (memN_lt h)
theorem outF_next (L : Pg) (f : Nat → Nat) (k : Nat) : upd (outF L f k) (13 + k) (bitN (doneB L f k)) = outF L f (k + 1) := by
  funext p
  unfold upd outF
  by_cases e : p = 13 + k
  · subst e
    rw [if_pos rfl, if_pos (by omega), show 13 + k - 13 = k by omega]
  · rw [if_neg e]
    by_cases h : 13 ≤ p ∧ p < 13 + k
    · rw [if_pos h, if_pos (by omega)]
    · rw [if_neg h, if_neg (by omega)]
theorem outF_zero (L : Pg) (f : Nat → Nat) : outF L f 0 = updL (updL zeroF 0 (regN L f)) 9 (memN f) := by
  funext p; unfold outF; rw [if_neg (by omega)]
theorem outF_ok {L : Pg} {f : Nat → Nat} (h : okF WS f) (h3 : L.length ≤ 3) : ∀ k, k ≤ 3 → okF WO (outF L f k)
  | 0, _ => by rw [outF_zero]; exact out1_ok h h3
  | k + 1, hk => by
    rw [← outF_next]
    exact okF_upd flo6 (outF_ok h h3 k (by omega)) (i := k) (show k < 3 by omega) (by show bitN _ < 2; exact bitN_lt _)
theorem regN_at {L : Pg} {f : Nat → Nat} {k v : Nat} (h : (regN L f)[k]? = some v) : (fldI f 6 (fL 1) (L.length * 3))[k]? = some ((v : Int) + fL 1) := by
  have hk : k < L.length * 3 := by have := (List.getElem?_eq_some_iff.1 h).1; rwa [regN_length] at this
  rw [fldI_at hk]
  simp [regN, hk] at h
  rw [← h]
theorem memN_at {f : Nat → Nat} {k v : Nat} (h : (memN f)[k]? = some v) : (fldI f 15 (fL 2) 3)[k]? = some ((v : Int) + fL 2) := by
  have hk : k < 3 := by have := (List.getElem?_eq_some_iff.1 h).1; rwa [memN_length] at this
  rw [fldI_at hk]
  simp [memN, hk] at h
  rw [← h]
/-- The outcome of the word of a state's outcome is the state's. -/
theorem out_regs (L : Pg) (f : Nat → Nat) (h3 : L.length ≤ 3) : fldI (outF L f L.length) 0 (fL 1) (L.length * 3) = fldI f 6 (fL 1) (L.length * 3) := by
  unfold fldI
  apply List.map_congr_left
  intro i hi
  have hi' := List.mem_range.1 hi
  have : outF L f L.length (0 + i) = f (6 + i) := by
    unfold outF
    rw [if_neg (by omega), updL_at, if_neg (by rw [memN_length]; omega), updL_at, if_pos (by rw [regN_length]; omega)]
    simp [regN, hi']
  rw [this]
theorem out_mem (L : Pg) (f : Nat → Nat) : fldI (outF L f L.length) 9 (fL 2) 3 = fldI f 15 (fL 2) 3 := by
  unfold fldI
  apply List.map_congr_left
  intro i hi
  have hi' := List.mem_range.1 hi
  have : outF L f L.length (9 + i) = f (15 + i) := by
    unfold outF
    rw [if_neg (by omega), updL_at, if_pos (by rw [memN_length]; omega)]
    simp [memN, hi']
  rw [this]
theorem out_done (L : Pg) (f : Nat → Nat) {t : Nat} (ht : t < L.length) : outF L f L.length (13 + t) = bitN (doneB L f t) := by
  unfold outF
  rw [if_pos (by omega), show 13 + t - 13 = t by omega]
end Go.Proofs.Ytaghidaamcnpkab
namespace Go.Proofs.Ytaghidaamcnpkab
open Go.RowKit Pl
set_option maxHeartbeats 4000000
set_option maxRecDepth 100000
set_option linter.unusedVariables false

theorem outword_any (h : PgH) (L : Pg) (f : Nat → Nat) (w : World) (B : Nat) (hR : PgR w B h L) (hB : B ≤ w.heap.size) (hL : progB L = true) (hf : Good L f) :
    Calls Try.prog 63 #[PgV h L, .int .u64 (enc WS f : Nat)] w fun e w' => e = .returned (.int .u64 (enc WO (outF L f L.length) : Nat)) ∧ Below w.heap.size w w' := by
  obtain ⟨h31, h32⟩ := prog_len hL
  obtain ⟨W, hW⟩ : ∃ W, W = w.alloc (.cells #[.slice h.A L.length h.c] 32) := ⟨_, rfl⟩
  have bW : Below w.heap.size w W := by rw [hW]; go_grown
  have K0 := Lib.hid (show Bk W w.heap.size 32 #[.slice h.A L.length h.c] by rw [hW]; exact Bk.new _ _ _)
  have P0 := Lib.hid (hR.below bW hB)
  have B0 := Lib.hid bW
  have hBW : B ≤ W.heap.size := Nat.le_trans hB bW.size
  have HW := Lib.hid hW
  have hmul : IntKind.i64.wrap ((L.length : Int) * 3) = (L.length : Int) * 3 := wrap64_small (by omega) (by omega)
  have a1 := entries_made WS 1 6 f (L.length * 3) ((L.length : Int) * 3) (by omega) fld1 hf.ok (by show L.length * 3 ≤ 9; omega) W
  have a2 := entries_made WS 2 15 f 3 3 (by rfl) fld2 hf.ok (by decide)
  have A1 := Lib.hid a1
  have A2 := Lib.hid a2
  clear hW bW hR a1 a2
  go_enter Try.func63, Try.ntmps63
  go_wp2_with fail
  rw [← HW.out]
  refine A1.out.mono ?_
  rintro e w1 ⟨g0, rfl, hg0, hg1, hb1, ho1⟩
  have K1 := Lib.hid (K0.out.below hb1 K0.out.lt)
  have P1 := Lib.hid (P0.out.below hb1 hBW)
  have B1 := Lib.hid (below_on B0.out hb1)
  have z1 := hb1.size
  have e0 := withEntries_any WO 1 0 zeroF (some ⟨g0, 0, none⟩) (fldI f 6 (fL 1) (L.length * 3)) (regN L f) (L.length * 3) w1 w1.heap.size flo1 zeroO_ok (ho1.vs.up (Below.refl w1.heap.size w1) (by omega) (by omega)) (Nat.le_refl _) (by rw [fldI_length]; show L.length * 3 ≤ 9; omega) (by rw [regN_length, fldI_length]) (Lib.hid (regN_lt hf.ok h32)) (Lib.hid fun k v h => regN_at h)
  rw [zeroO_enc, fldI_length] at e0
  have E0 := Lib.hid e0
  clear e0 hb1 ho1
  go_wp2_with fail
  refine E0.out.mono ?_
  rintro e w2 ⟨rfl, hb2⟩
  have K2 := Lib.hid (K1.out.below hb2 K1.out.lt)
  have P2 := Lib.hid (P1.out.below hb2 (by omega))
  have B2 := Lib.hid (below_on B1.out hb2)
  have z2 := hb2.size
  clear hb2 E0
  go_wp2_with fail
  refine (A2.out w2).mono ?_
  rintro e w3 ⟨g1, rfl, hg2, hg3, hb3, ho3⟩
  have K3 := Lib.hid (K2.out.below hb3 K2.out.lt)
  have P3 := Lib.hid (P2.out.below hb3 (by omega))
  have B3 := Lib.hid (below_on B2.out hb3)
  have z3 := hb3.size
  have e1 := withEntries_any WO 2 9 (updL zeroF 0 (regN L f)) (some ⟨g1, 0, none⟩) (fldI f 15 (fL 2) 3) (memN f) 3 w3 w3.heap.size flo2 (out0_ok hf.ok h32) (ho3.vs.up (Below.refl w3.heap.size w3) (by omega) (by omega)) (Nat.le_refl _) (by rw [fldI_length]; show 3 ≤ 3; omega) (by rw [memN_length, fldI_length]) (Lib.hid (memN_lt hf.ok)) (Lib.hid fun k v h => memN_at h)
  rw [fldI_length] at e1
  have E1 := Lib.hid e1
  clear e1 hb3 ho3
  go_wp2_with fail
  refine E1.out.mono ?_
  rintro e w4 ⟨rfl, hb4⟩
  rw [← outF_zero]
  have K4 := Lib.hid (K3.out.below hb4 K3.out.lt)
  have P4 := Lib.hid (P3.out.below hb4 (by omega))
  have B4 := Lib.hid (below_on B3.out hb4)
  have z4 := hb4.size
  clear hb4 E1
  have cb : w4.cell? ⟨w.heap.size, 0, none⟩ = some (.slice h.A L.length h.c) := K4.out.cell 0
  go_wp2
  clear cb
  go_loopw [5, 21] (fun x i wr => ∃ k : Nat, k ≤ L.length ∧ i = .int .i64 k ∧ x = .int .u64 (enc WO (outF L f k) : Nat) ∧ Below w4.heap.size w4 wr) (fun _ i _ => L.length - (intOf i).toNat)
  case atStart => exact ⟨0, Nat.zero_le _, rfl, rfl, Below.refl _ _⟩
  case round =>
    obtain ⟨k, hk, rfl, rfl, hbel⟩ := hrel
    have hz := hbel.size
    have Hbel := Lib.hid hbel
    clear hbel hmul
    by_cases hlt : k < L.length
    · have hbox : wr.cell? ⟨w.heap.size, 0, none⟩ = some (.slice h.A L.length h.c) := (K4.out.below Hbel.out K4.out.lt).cell 0
      have RW' := Lib.hid (P4.out.below Hbel.out (by omega))
      have hi2 : (k : Int) < (L.length : Int) := by omega
      have hk3 : k < 3 := by omega
      obtain ⟨r, hr⟩ : ∃ r, doneB L f k = r := ⟨_, rfl⟩
      have HR := Lib.hid hr
      have hnx : upd (outF L f k) (13 + k) (bitN r) = outF L f (k + 1) := by rw [← hr]; exact outF_next L f k
      have HX := Lib.hid hnx
      clear hr hnx
      go_wp2_with fail
      refine (isdone_any h L f k wr B RW'.out (by omega) hL hf hlt r HR).mono ?_
      rintro e w5 ⟨rfl, hb5⟩
      have H5 := Lib.hid (below_on Hbel.out hb5)
      clear hb5 hbox
      go_wp2_with (go_at_call 108; refine (figure_any _ _).mono ?_; rintro e w' ⟨rfl, rfl⟩)
      go_wp2_with fail
      refine (wentF flo6 (outF_ok hf.ok h32 k (by omega)) k (bitN r) (bit r) hk3 (bitN_lt r) (by cases r <;> rfl) _).mono ?_
      rintro e w9 ⟨rfl, hb9⟩
      have H9 := Lib.hid (below_on H5.out hb9)
      clear hb9
      rw [HX.out]
      go_wp2
      go_roundw
      case rel => exact ⟨k + 1, by omega, by go_num, rfl, H9.out⟩
      case measure => simp [intOf]; omega
    · have hkl : k = L.length := by omega
      subst hkl
      go_wp2
      go_ret
      exact ⟨rfl, below_on B4.out Hbel.out⟩
end Go.Proofs.Ytaghidaamcnpkab
namespace Go.Proofs.Ytaghidaamcnpkab
open Go.RowKit Pl
set_option maxHeartbeats 4000000
set_option maxRecDepth 100000
set_option linter.unusedVariables false

/-- The outcome of an outcome's word. -/
def ocG (L : Pg) (g : Nat → Nat) : Oc := ⟨fldI g 0 (fL 1) (L.length * 3), fldI g 9 (fL 2) 3, (List.range L.length).map fun t => g (13 + t) == 1⟩
theorem ocG_out (L : Pg) (f : Nat → Nat) (h3 : L.length ≤ 3) : ocG L (outF L f L.length) = ocF L f := by
  unfold ocG ocF
  rw [out_regs L f h3, out_mem L f]
  congr 1
  apply List.map_congr_left
  intro t ht
  rw [out_done L f (List.mem_range.1 ht)]
  cases doneB L f t <;> rfl
def UnpP (w : World) (o : Oc) (e : Ending) (w' : World) : Prop := ∃ k, e = .returned (OcV k o) ∧ Below w.heap.size w w' ∧ w.heap.size ≤ w'.heap.size ∧ OcO w' w.heap.size w'.heap.size k o
theorem unpout_any (h : PgH) (L : Pg) (g : Nat → Nat) (w : World) (h32 : L.length ≤ 3) (hg : okF WO g) :
    Calls Try.prog 62 #[PgV h L, .int .u64 (enc WO g : Nat)] w (UnpP w (ocG L g)) := by
  obtain ⟨W, hW⟩ : ∃ W, W = (w.alloc (.cells #[.slice h.A L.length h.c] 32)).alloc (.cells #[.slice none 0 0, .slice none 0 0, .slice none 0 0] 60) := ⟨_, rfl⟩
  have bW : Below w.heap.size w W := by rw [hW]; go_grown
  have zW : W.heap.size = w.heap.size + 1 + 1 := by rw [hW]; simp
  have zWa := Nat.le_of_eq zW
  have zWb := Nat.le_of_eq zW.symm
  have K0 := Lib.hid (show Bk W w.heap.size 32 #[.slice h.A L.length h.c] by rw [hW]; exact (Bk.new _ _ _).alloc _)
  have k1 : Bk W (w.heap.size + 1) 60 #[.slice none 0 0, .slice none 0 0, .slice none 0 0] := by
    rw [hW]; have := Bk.new (w.alloc (.cells #[.slice h.A L.length h.c] 32)) #[.slice none 0 0, .slice none 0 0, .slice none 0 0] 60
    rwa [World.size_alloc] at this
  have K1 := Lib.hid k1
  have B0 := Lib.hid bW
  have HW := Lib.hid hW
  obtain ⟨i0, hi, hz0, hz1, hz2⟩ := info_parts Try.info4
  have hmk := make_any Try.underlying58 hi hz0 L.length (by rw [hz2]; omega) (by omega)
  rw [hz1, Nat.mul_one] at hmk
  obtain ⟨vs, hvs⟩ : ∃ vs, vs = bools ((List.range L.length).map fun t => g (13 + t) == 1) := ⟨_, rfl⟩
  have hlen : vs.length = L.length := by rw [hvs, bools_length]; simp
  have hat : ∀ k, k < L.length → vs[k]? = some (.bool (g (13 + k) == 1)) := fun k hk => by rw [hvs]; simp [bools, hk]
  have start := Lib.hid (show CopyV W (W.alloc (.cells (madeCells #[.bool false] L.length) 4)) 4 vs 0 from
    ⟨(Below.refl _ _).alloc (Nat.le_refl _) _, _, Bk.new _ _ _, by simp [size_madeCells, hlen], fun j x hj => absurd hj (by omega)⟩)
  have HVS := Lib.hid hvs
  have HLEN := Lib.hid hlen
  have HAT := Lib.hid hat
  have ZW := Lib.hid zW
  have hmul : IntKind.i64.wrap ((L.length : Int) * 3) = (L.length : Int) * 3 := wrap64_small (by omega) (by omega)
  have a1 := entries_made WO 1 0 g (L.length * 3) ((L.length : Int) * 3) (by omega) flo1 hg (by show L.length * 3 ≤ 9; omega)
  have a2 := entries_made WO 2 9 g 3 3 (by rfl) flo2 hg (by decide)
  have A1 := Lib.hid a1
  have A2 := Lib.hid a2
  clear hz0 hz1 hz2 hi hW bW zW k1 hvs hlen hat a1 a2
  go_enter Try.func62, Try.ntmps62
  go_wp2_with fail
  rw [← HW.out, ← ZW.out]
  clear hmk
  go_loopw [13] (fun i wr => ∃ k : Nat, k ≤ L.length ∧ i = .int .i64 k ∧ CopyV W wr 4 vs k) (fun i _ => L.length - (intOf i).toNat)
  case atStart => exact ⟨0, Nat.zero_le _, rfl, start.out⟩
  case round =>
    obtain ⟨k, hk, rfl, hcv⟩ := hrel
    have HCV := Lib.hid hcv
    obtain ⟨hb0, cs, hbk, hsz, -⟩ := hcv
    rw [HLEN.out] at hsz
    by_cases hlt : k < L.length
    · obtain ⟨b, hb⟩ : ∃ b, (g (13 + k) == 1) = b := ⟨_, rfl⟩
      have hv := HAT.out k hlt
      rw [hb] at hv
      have h2 : g (13 + k) < 2 := fld_lt flo6 hg (i := k) (show k < 3 by omega)
      have hr : Hid ((g (13 + k) : Int) + fL 6 = bit b) := Lib.hid (by
        have e : fL 6 = 0 := rfl
        rw [e, ← hb]
        by_cases e1 : g (13 + k) = 1
        · rw [e1]; rfl
        · have e0 : g (13 + k) = 0 := by omega
          rw [e0]; rfl)
      have HV := Lib.hid hv
      have hi2 : (k : Int) < (L.length : Int) := by omega
      have hk3 : k < 3 := by omega
      have HBK := Lib.hid hbk
      clear hv hb hbk h2 hmul
      cases b
      all_goals
        go_wp2_with fail
        refine (entF flo6 hg k hk3 wr _ hr).mono ?_
        rintro e w5 ⟨rfl, hb5⟩
        obtain ⟨j0, cs5, j1, j2, j3⟩ := HCV.out
        have HC5 := Lib.hid (show CopyV W w5 4 vs k from ⟨below_on j0 hb5, cs5, j1.below hb5 j1.lt, j2, j3⟩)
        have K5 := Lib.hid (j1.below hb5 j1.lt)
        obtain ⟨ov, cc⟩ := K5.out.some_ (i := k) (by rw [j2, HLEN.out]; omega)
        have cf : w5.frozen? ⟨W.heap.size, k, none⟩ = false := K5.out.free k
        clear hb5 j0 j1 j2 j3
        go_wp2
        go_roundw
        case rel => exact ⟨k + 1, by omega, by go_num, HC5.out.next HV.out⟩
        case measure => simp [intOf]; omega
    · have hkl : k = L.length := by omega
      subst hkl
      have hcv := HCV.out
      rw [← HLEN.out] at hcv
      have hown := hcv.done
      have HO := Lib.hid (show OwnVs wr W.heap.size (W.heap.size + 1) 4 (some ⟨W.heap.size, 0, none⟩) vs from hown)
      have hzr := hcv.lt
      have hbr := hcv.1
      have BR := Lib.hid (below_on B0.out hbr)
      have K0R := Lib.hid (K0.out.below hbr K0.out.lt)
      have K1R := Lib.hid (K1.out.below hbr K1.out.lt)
      clear hcv hown hbr hbk hb0 hsz
      have cp : wr.cell? ⟨w.heap.size, 0, none⟩ = some (.slice h.A L.length h.c) := K0R.out.cell 0
      go_wp2_with fail
      --END
      clear cp
      refine (A1.out wr).mono ?_
      rintro e w6 ⟨g0, rfl, hg0, hg1, hb6, ho6⟩
      have HO6 := Lib.hid ho6
      have HD6 := Lib.hid (HO.out.below hb6 (by omega))
      have B6 := Lib.hid (below_on BR.out hb6)
      have K16 := Lib.hid (K1R.out.below hb6 K1R.out.lt)
      have z6 := hb6.size
      clear hb6 ho6
      go_wp2_with fail
      refine (A2.out w6).mono ?_
      rintro e w7 ⟨g1, rfl, hg2, hg3, hb7, ho7⟩
      have HO7 := Lib.hid ho7
      have HR7 := Lib.hid (HO6.out.below hb7 (by omega))
      have HD7 := Lib.hid (HD6.out.below hb7 (by omega))
      have B7 := Lib.hid (below_on B6.out hb7)
      have K17 := Lib.hid (K16.out.below hb7 K16.out.lt)
      have z7 := hb7.size
      clear hb7 ho7
      have cr0 : w7.cell? ⟨w.heap.size + 1, 0, none⟩ = some (.slice none 0 0) := K17.out.cell 0
      have fr0 : w7.frozen? ⟨w.heap.size + 1, 0, none⟩ = false := K17.out.free 0
      have cr1 : w7.cell? ⟨w.heap.size + 1, 1, none⟩ = some (.slice none 0 0) := K17.out.cell 1
      have fr1 : w7.frozen? ⟨w.heap.size + 1, 1, none⟩ = false := K17.out.free 1
      have cr2 : w7.cell? ⟨w.heap.size + 1, 2, none⟩ = some (.slice none 0 0) := K17.out.cell 2
      have fr2 : w7.frozen? ⟨w.heap.size + 1, 2, none⟩ = false := K17.out.free 2
      go_wp2
      clear cr0 fr0 cr1 fr1 cr2 fr2
      have kF : Bk (((w7.setCell ⟨w.heap.size + 1, 0, none⟩ (.slice (some ⟨g0, 0, none⟩) (L.length * 3) (L.length * 3))).setCell ⟨w.heap.size + 1, 1, none⟩ (.slice (some ⟨g1, 0, none⟩) 3 3)).setCell ⟨w.heap.size + 1, 2, none⟩ (.slice (some ⟨W.heap.size, 0, none⟩) L.length L.length)) (w.heap.size + 1) 60 #[.slice (some ⟨g0, 0, none⟩) (L.length * 3) (L.length * 3), .slice (some ⟨g1, 0, none⟩) 3 3, .slice (some ⟨W.heap.size, 0, none⟩) L.length L.length] := by
        have a0 := K17.out
        have a1 := a0.set 0 (.slice (some ⟨g0, 0, none⟩) (L.length * 3) (L.length * 3))
        have a2 := a1.set 1 (.slice (some ⟨g1, 0, none⟩) 3 3)
        have a3 := a2.set 2 (.slice (some ⟨W.heap.size, 0, none⟩) L.length L.length)
        simpa using a3
      have bF : Below w.heap.size w (((w7.setCell ⟨w.heap.size + 1, 0, none⟩ (.slice (some ⟨g0, 0, none⟩) (L.length * 3) (L.length * 3))).setCell ⟨w.heap.size + 1, 1, none⟩ (.slice (some ⟨g1, 0, none⟩) 3 3)).setCell ⟨w.heap.size + 1, 2, none⟩ (.slice (some ⟨W.heap.size, 0, none⟩) L.length L.length)) := (((B7.out.setCell (p := ⟨w.heap.size + 1, 0, none⟩) (show w.heap.size ≤ w.heap.size + 1 by omega) _).setCell (p := ⟨w.heap.size + 1, 1, none⟩) (show w.heap.size ≤ w.heap.size + 1 by omega) _).setCell (p := ⟨w.heap.size + 1, 2, none⟩) (show w.heap.size ≤ w.heap.size + 1 by omega) _)
      have nF : ∀ q, w.heap.size + 1 < q → (((w7.setCell ⟨w.heap.size + 1, 0, none⟩ (.slice (some ⟨g0, 0, none⟩) (L.length * 3) (L.length * 3))).setCell ⟨w.heap.size + 1, 1, none⟩ (.slice (some ⟨g1, 0, none⟩) 3 3)).setCell ⟨w.heap.size + 1, 2, none⟩ (.slice (some ⟨W.heap.size, 0, none⟩) L.length L.length)).heap[q]? = w7.heap[q]? := fun q hq => (Below.heap_setCell _ _ _ q (by show q ≠ w.heap.size + 1; omega)).trans ((Below.heap_setCell _ _ _ q (by show q ≠ w.heap.size + 1; omega)).trans (Below.heap_setCell _ _ _ q (by show q ≠ w.heap.size + 1; omega)))
      have zF : w7.heap.size ≤ (((w7.setCell ⟨w.heap.size + 1, 0, none⟩ (.slice (some ⟨g0, 0, none⟩) (L.length * 3) (L.length * 3))).setCell ⟨w.heap.size + 1, 1, none⟩ (.slice (some ⟨g1, 0, none⟩) 3 3)).setCell ⟨w.heap.size + 1, 2, none⟩ (.slice (some ⟨W.heap.size, 0, none⟩) L.length L.length)).heap.size := by simp
      have HF := Lib.hid kF
      have BF := Lib.hid bF
      have NF := Lib.hid nF
      obtain ⟨F, hF⟩ : ∃ F, F = (((w7.setCell ⟨w.heap.size + 1, 0, none⟩ (.slice (some ⟨g0, 0, none⟩) (L.length * 3) (L.length * 3))).setCell ⟨w.heap.size + 1, 1, none⟩ (.slice (some ⟨g1, 0, none⟩) 3 3)).setCell ⟨w.heap.size + 1, 2, none⟩ (.slice (some ⟨W.heap.size, 0, none⟩) L.length L.length)) := ⟨_, rfl⟩
      rw [← hF] at HF BF NF zF
      rw [← hF]
      clear kF bF nF hF
      have c0 := HF.out.cell 0
      have c1 := HF.out.cell 1
      have c2 := HF.out.cell 2
      simp only [List.getElem?_toArray, List.getElem?_cons_zero, List.getElem?_cons_succ] at c0 c1 c2
      refine bodyPost_ret (v := .agg #[.slice (some ⟨g0, 0, none⟩) (L.length * 3) (L.length * 3), .slice (some ⟨g1, 0, none⟩) 3 3, .slice (some ⟨W.heap.size, 0, none⟩) L.length L.length]) (by simp [results, Try.results62, c0, c1, c2, go_sem]) rfl ?_
      have hF := fun (lo hi : Nat) (tt : TypeId) (AA : Option Addr) (vv : List Value) (hh : OwnVs w7 lo hi tt AA vv) (h1 : w.heap.size + 1 < lo) (h2 : hi ≤ w7.heap.size) => (hh.keep (lo' := w.heap.size) (hi' := F.heap.size) (by omega) (by omega) fun q0 h3 h4 => NF.out q0 (by omega))
      refine ⟨⟨some ⟨g0, 0, none⟩, some ⟨g1, 0, none⟩, some ⟨W.heap.size, 0, none⟩, L.length * 3, 3, L.length⟩, ?_, BF.out, by omega, ?_⟩
      · simp [OcV, ocG, fldI_length]
      · refine ⟨hF _ _ _ _ _ HR7.out (by omega) (by omega), hF _ _ _ _ _ HO7.out (by omega) (by omega), ?_, ?_, ?_, ?_⟩
        · have := hF _ _ _ _ _ HD7.out (by omega) (by omega)
          rw [HVS.out] at this
          exact this
        · intro _ _ e; injection e with e; injection e with e1; omega
        · intro _ _ e; injection e with e; injection e with e1; omega
        · intro _ _ e; injection e with e; injection e with e1; omega
end Go.Proofs.Ytaghidaamcnpkab
