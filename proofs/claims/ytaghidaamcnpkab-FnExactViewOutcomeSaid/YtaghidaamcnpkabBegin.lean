/-
  Contracts of Begin, of the program and of the reference model: both hand out the same state of the program, in memory of the call's own.
-/
import Derived.Test.YtaghidaamcnpkabUnp
namespace Go.Proofs.Ytaghidaamcnpkab
open Go.RowKit Pl
set_option maxHeartbeats 4000000
set_option maxRecDepth 100000
set_option linter.unusedVariables false

theorem InVs.keepZ {w w' : World} {lo hi lo' hi' : Nat} {A : Option Addr} {vs : List Value} (h : InVs w lo hi A vs) (hl : lo' ≤ lo) (hh : hi ≤ hi') (hk : ∀ i, lo ≤ i → i < hi → w'.heap[i]? = w.heap[i]?) : InVs w' lo' hi' A vs := h.keep hl hh hk
def begS (L : Pg) : Sta := ⟨List.replicate L.length 0, List.replicate (L.length * 3) 0, List.replicate 3 0, List.replicate 2 (-1), List.replicate 2 (-1)⟩
def begE (L : Pg) : Sta := if progB L then begS L else StaE
def zeroF : Nat → Nat := fun _ => 0
theorem zeroF_ok : okF WS zeroF := okF_of fun p hp => by unfold zeroF; exact Nat.two_pow_pos _
theorem zeroF_enc : enc WS zeroF = 0 := by decide
theorem zeroF_good (L : Pg) : Good L zeroF := ⟨zeroF_ok, fun t xs _ => Nat.zero_le _⟩
theorem fldI_zero {f : Nat → Nat} {b : Nat} {l : Int} {n : Nat} (h : ∀ i, i < n → f (b + i) = 0) : fldI f b l n = List.replicate n l := by
  apply List.ext_getElem?
  intro i
  by_cases hi : i < n
  · rw [fldI_at hi, h i hi]; simp [hi]
  · rw [List.getElem?_eq_none (by rw [fldI_length]; omega), List.getElem?_eq_none (by simp; omega)]
theorem staF_beg (L : Pg) (h3 : L.length ≤ 3) : staF L (keptF L zeroF L.length) = begS L := by
  have e : ∀ p, 3 ≤ p → keptF L zeroF L.length p = 0 := fun p hp => keptF_hi (by omega) hp
  unfold staF begS
  rw [fldI_zero fun i _ => e _ (by omega), fldI_zero fun i _ => e _ (by omega), fldI_zero fun i _ => e _ (by omega), fldI_zero fun i _ => e _ (by omega), fldI_zero fun i _ => e _ (by omega)]
  rfl
theorem begword_any (h : PgH) (L : Pg) (w : World) (B : Nat) (hR : PgR w B h L) (hB : B ≤ w.heap.size) (hL : progB L = true) :
    Calls Try.prog 71 #[PgV h L] w fun e w' => e = .returned (.int .u64 (enc WS (keptF L zeroF L.length) : Nat)) ∧ Below w.heap.size w w' := by
  obtain ⟨W, hW⟩ : ∃ W, W = w.alloc (.cells #[.slice h.A L.length h.c] 32) := ⟨_, rfl⟩
  have bW : Below w.heap.size w W := by rw [hW]; go_grown
  have P := Lib.hid (hR.below bW hB)
  have BW := Lib.hid bW
  have hz := bW.size
  have HW := Lib.hid hW
  have key := kept_any h L zeroF W B P.out (by omega) hL (zeroF_good L)
  rw [zeroF_enc] at key
  have Key := Lib.hid key
  clear hW bW hR key
  go_enter Try.func71, Try.ntmps71
  go_wp2_with fail
  rw [← HW.out]
  refine Key.out.mono ?_
  rintro e w1 ⟨rfl, hb⟩
  have hB1 := below_on BW.out hb
  clear hb
  go_wp2
  go_ret
  exact ⟨rfl, hB1⟩

theorem fill_any (n : Int) (m : Nat) (N : Int) (hN : N = (m : Int)) (w : World) (hm : m ≤ 1000) :
    Calls Try.prog 137 #[.int .i64 n, .int .i64 N] w (MadeI w (List.replicate m n)) := by
  subst hN
  obtain ⟨i0, hi, iz0, iz1, iz2⟩ := info_parts Try.info3
  have start : Hid ((w.alloc (.cells #[] 3)).ownsRow w.heap.size 3 1 (.slice (some ⟨w.heap.size, 0, none⟩) 0 0) 0 (ints (List.replicate 0 n))) := Lib.hid (World.ownsRow_made w #[] 0 (Nat.le_refl _) (by decide) (by simp))
  go_enter Try.func137, Try.ntmps137
  go_wp2
  go_loopw [5, 6] (fun v i wr => ∃ k g cap : Nat, k ≤ m ∧ i = .int .i64 k ∧ v = .slice (some ⟨g, 0, none⟩) k cap ∧ w.heap.size ≤ g ∧ wr.ownsRow w.heap.size 3 1 (.slice (some ⟨g, 0, none⟩) k cap) k (ints (List.replicate k n)) ∧ Below w.heap.size w wr) (fun _ i _ => m - (intOf i).toNat)
  case atStart => exact ⟨0, _, 0, Nat.zero_le _, rfl, rfl, Nat.le_refl _, start.out, (Below.refl _ _).alloc (Nat.le_refl _) _⟩
  case round =>
    obtain ⟨k, g, cap, hk, rfl, rfl, hgg, hown, hbel⟩ := hrel
    clear start
    have hz := hbel.size
    by_cases hlt : k < m
    · have Hx : Hid (ints (List.replicate (k + 1) n) = ints (List.replicate k n) ++ [.int .i64 n]) := Lib.hid (by simp [ints, List.replicate_succ'])
      have Hown := Lib.hid hown
      have Hb := Lib.hid hbel
      clear hown hbel
      go_wp2_with (at_builtin; refine wpList_append_own _ rfl (.tmp 13) (.tmp 15) 25 rfl w.heap.size 3 i0 _ 1 8 Try.underlying25 hi iz0 iz1 iz2 rfl (by decide) _ k _ rfl (Hown.out.alloc _) ⟨_, 0, none⟩ 1 1 [.int .i64 _] rfl rfl (cell1_new _ _ _) (by intro u hu; simp at hu; subst hu; rfl) (by unfold maxLen; omega) (by omega) (by simp; omega) ?_; intro v' w3 own3 grow3 _; obtain ⟨g3, cap3, rfl, hg3, hlt3⟩ := own3.form (by omega); have Own3 := Lib.hid own3; have B3 := Lib.hid ((Hb.out.alloc hz _).grown grow3 (by simp; omega) (by intro q hq; cases hq; exact hgg)); clear own3 grow3)
      go_roundw
      case rel => exact ⟨k + 1, g3, cap3, by omega, by go_num, rfl, hg3, by rw [Hx.out]; exact Own3.out, B3.out⟩
      case measure => simp [intOf]; omega
    · have hkl : k = m := by omega
      subst hkl
      have Hown := Lib.hid hown
      clear hown
      go_wp2
      go_ret
      obtain ⟨h1, h2⟩ := own_cap Hown.out
      exact ⟨g, cap, by simp, by simpa using h1, h2, hgg, hbel, own_vs Hown.out rfl⟩

theorem sbegin0_any (h : PgH) (L : Pg) (w : World) (h31 : 1 ≤ L.length) (h32 : L.length ≤ 3) :
    Calls Try.prog 112 #[PgV h L] w fun e w' => ∃ k, e = .returned (StaV k (begS L)) ∧ Below w.heap.size w w' ∧ w.heap.size ≤ w'.heap.size ∧ StaI w' w.heap.size w'.heap.size k (begS L) := by
  obtain ⟨W, hW⟩ : ∃ W, W = (w.alloc (.cells #[.slice h.A L.length h.c] 32)).alloc (.cells #[.slice none 0 0, .slice none 0 0, .slice none 0 0, .slice none 0 0, .slice none 0 0] 50) := ⟨_, rfl⟩
  have bW : Below w.heap.size w W := by rw [hW]; go_grown
  have sW : W.heap.size = w.heap.size + 1 + 1 := by rw [hW]; simp
  have k1 : Bk W (w.heap.size + 1) 50 #[.slice none 0 0, .slice none 0 0, .slice none 0 0, .slice none 0 0, .slice none 0 0] := by
    rw [hW]; have := Bk.new (w.alloc (.cells #[.slice h.A L.length h.c] 32)) #[.slice none 0 0, .slice none 0 0, .slice none 0 0, .slice none 0 0, .slice none 0 0] 50
    rwa [World.size_alloc] at this
  have K1 := Lib.hid k1
  have BW := Lib.hid bW
  have sWa := Nat.le_of_eq sW
  have sWb := Nat.le_of_eq sW.symm
  have HW := Lib.hid hW
  clear k1 bW sW hW
  go_enter Try.func112, Try.ntmps112
  go_wp2_with fail
  rw [← HW.out]
  refine (fill_any 0 L.length _ (by omega) W (by omega)).mono ?_
  rintro e v0 ⟨g0, d0, rfl, -, -, hg, hb, ov⟩
  have Bv0 := Lib.hid (hb)
  have zv0 := hb.size
  have Ov0 := Lib.hid (ov.in_.keep (lo' := W.heap.size) (hi' := v0.heap.size) (by omega) (Nat.le_refl _) fun _ _ _ => rfl)
  clear hb ov hg
  go_wp2_with fail
  refine (fill_any 0 (L.length * 3) _ (by omega) v0 (by omega)).mono ?_
  rintro e v1 ⟨g1, d1, rfl, -, -, hg, hb, ov⟩
  have Bv1 := Lib.hid (below_on Bv0.out hb)
  have zv1 := hb.size
  have On0 := Lib.hid (Ov0.out.below hb (by omega))
  clear Ov0
  have Ov0 := On0
  clear On0
  have Ov1 := Lib.hid (ov.in_.keep (lo' := W.heap.size) (hi' := v1.heap.size) (by omega) (Nat.le_refl _) fun _ _ _ => rfl)
  clear hb ov hg
  go_wp2_with fail
  refine (fill_any 0 3 _ rfl v1 (by omega)).mono ?_
  rintro e v2 ⟨g2, d2, rfl, -, -, hg, hb, ov⟩
  have Bv2 := Lib.hid (below_on Bv1.out hb)
  have zv2 := hb.size
  have On0 := Lib.hid (Ov0.out.below hb (by omega))
  clear Ov0
  have Ov0 := On0
  clear On0
  have On1 := Lib.hid (Ov1.out.below hb (by omega))
  clear Ov1
  have Ov1 := On1
  clear On1
  have Ov2 := Lib.hid (ov.in_.keep (lo' := W.heap.size) (hi' := v2.heap.size) (by omega) (Nat.le_refl _) fun _ _ _ => rfl)
  clear hb ov hg
  go_wp2_with fail
  refine (fill_any (-1) 2 _ rfl v2 (by omega)).mono ?_
  rintro e v3 ⟨g3, d3, rfl, -, -, hg, hb, ov⟩
  have Bv3 := Lib.hid (below_on Bv2.out hb)
  have zv3 := hb.size
  have On0 := Lib.hid (Ov0.out.below hb (by omega))
  clear Ov0
  have Ov0 := On0
  clear On0
  have On1 := Lib.hid (Ov1.out.below hb (by omega))
  clear Ov1
  have Ov1 := On1
  clear On1
  have On2 := Lib.hid (Ov2.out.below hb (by omega))
  clear Ov2
  have Ov2 := On2
  clear On2
  have Ov3 := Lib.hid (ov.in_.keep (lo' := W.heap.size) (hi' := v3.heap.size) (by omega) (Nat.le_refl _) fun _ _ _ => rfl)
  clear hb ov hg
  go_wp2_with fail
  refine (fill_any (-1) 2 _ rfl v3 (by omega)).mono ?_
  rintro e v4 ⟨g4, d4, rfl, -, -, hg, hb, ov⟩
  have Bv4 := Lib.hid (below_on Bv3.out hb)
  have zv4 := hb.size
  have On0 := Lib.hid (Ov0.out.below hb (by omega))
  clear Ov0
  have Ov0 := On0
  clear On0
  have On1 := Lib.hid (Ov1.out.below hb (by omega))
  clear Ov1
  have Ov1 := On1
  clear On1
  have On2 := Lib.hid (Ov2.out.below hb (by omega))
  clear Ov2
  have Ov2 := On2
  clear On2
  have On3 := Lib.hid (Ov3.out.below hb (by omega))
  clear Ov3
  have Ov3 := On3
  clear On3
  have Ov4 := Lib.hid (ov.in_.keep (lo' := W.heap.size) (hi' := v4.heap.size) (by omega) (Nat.le_refl _) fun _ _ _ => rfl)
  clear hb ov hg
  have cr0 : v4.cell? ⟨w.heap.size + 1, 0, none⟩ = some (.slice none 0 0) := (K1.out.below Bv4.out K1.out.lt).cell 0
  have fr0 : v4.frozen? ⟨w.heap.size + 1, 0, none⟩ = false := (K1.out.below Bv4.out K1.out.lt).free 0
  have cr1 : v4.cell? ⟨w.heap.size + 1, 1, none⟩ = some (.slice none 0 0) := (K1.out.below Bv4.out K1.out.lt).cell 1
  have fr1 : v4.frozen? ⟨w.heap.size + 1, 1, none⟩ = false := (K1.out.below Bv4.out K1.out.lt).free 1
  have cr2 : v4.cell? ⟨w.heap.size + 1, 2, none⟩ = some (.slice none 0 0) := (K1.out.below Bv4.out K1.out.lt).cell 2
  have fr2 : v4.frozen? ⟨w.heap.size + 1, 2, none⟩ = false := (K1.out.below Bv4.out K1.out.lt).free 2
  have cr3 : v4.cell? ⟨w.heap.size + 1, 3, none⟩ = some (.slice none 0 0) := (K1.out.below Bv4.out K1.out.lt).cell 3
  have fr3 : v4.frozen? ⟨w.heap.size + 1, 3, none⟩ = false := (K1.out.below Bv4.out K1.out.lt).free 3
  have cr4 : v4.cell? ⟨w.heap.size + 1, 4, none⟩ = some (.slice none 0 0) := (K1.out.below Bv4.out K1.out.lt).cell 4
  have fr4 : v4.frozen? ⟨w.heap.size + 1, 4, none⟩ = false := (K1.out.below Bv4.out K1.out.lt).free 4
  go_wp2_with fail
  clear cr0 fr0 cr1 fr1 cr2 fr2 cr3 fr3 cr4 fr4
  have kF : Bk (((((v4.setCell ⟨w.heap.size + 1, 0, none⟩ (.slice (some ⟨g0, 0, none⟩) L.length d0)).setCell ⟨w.heap.size + 1, 1, none⟩ (.slice (some ⟨g1, 0, none⟩) (L.length * 3) d1)).setCell ⟨w.heap.size + 1, 2, none⟩ (.slice (some ⟨g2, 0, none⟩) 3 d2)).setCell ⟨w.heap.size + 1, 3, none⟩ (.slice (some ⟨g3, 0, none⟩) 2 d3)).setCell ⟨w.heap.size + 1, 4, none⟩ (.slice (some ⟨g4, 0, none⟩) 2 d4)) (w.heap.size + 1) 50 #[.slice (some ⟨g0, 0, none⟩) L.length d0, .slice (some ⟨g1, 0, none⟩) (L.length * 3) d1, .slice (some ⟨g2, 0, none⟩) 3 d2, .slice (some ⟨g3, 0, none⟩) 2 d3, .slice (some ⟨g4, 0, none⟩) 2 d4] := by
    have a0 := (K1.out.below Bv4.out K1.out.lt)
    have a1 := a0.set 0 (.slice (some ⟨g0, 0, none⟩) L.length d0)
    have a2 := a1.set 1 (.slice (some ⟨g1, 0, none⟩) (L.length * 3) d1)
    have a3 := a2.set 2 (.slice (some ⟨g2, 0, none⟩) 3 d2)
    have a4 := a3.set 3 (.slice (some ⟨g3, 0, none⟩) 2 d3)
    have a5 := a4.set 4 (.slice (some ⟨g4, 0, none⟩) 2 d4)
    simpa using a5
  have bF : Below w.heap.size w (((((v4.setCell ⟨w.heap.size + 1, 0, none⟩ (.slice (some ⟨g0, 0, none⟩) L.length d0)).setCell ⟨w.heap.size + 1, 1, none⟩ (.slice (some ⟨g1, 0, none⟩) (L.length * 3) d1)).setCell ⟨w.heap.size + 1, 2, none⟩ (.slice (some ⟨g2, 0, none⟩) 3 d2)).setCell ⟨w.heap.size + 1, 3, none⟩ (.slice (some ⟨g3, 0, none⟩) 2 d3)).setCell ⟨w.heap.size + 1, 4, none⟩ (.slice (some ⟨g4, 0, none⟩) 2 d4)) := ((((((BW.out.trans (Bv4.out.mono (by omega))).setCell (p := ⟨w.heap.size + 1, 0, none⟩) (show w.heap.size ≤ w.heap.size + 1 by omega) _).setCell (p := ⟨w.heap.size + 1, 1, none⟩) (show w.heap.size ≤ w.heap.size + 1 by omega) _).setCell (p := ⟨w.heap.size + 1, 2, none⟩) (show w.heap.size ≤ w.heap.size + 1 by omega) _).setCell (p := ⟨w.heap.size + 1, 3, none⟩) (show w.heap.size ≤ w.heap.size + 1 by omega) _).setCell (p := ⟨w.heap.size + 1, 4, none⟩) (show w.heap.size ≤ w.heap.size + 1 by omega) _)
  have nF : ∀ q, w.heap.size + 1 < q → (((((v4.setCell ⟨w.heap.size + 1, 0, none⟩ (.slice (some ⟨g0, 0, none⟩) L.length d0)).setCell ⟨w.heap.size + 1, 1, none⟩ (.slice (some ⟨g1, 0, none⟩) (L.length * 3) d1)).setCell ⟨w.heap.size + 1, 2, none⟩ (.slice (some ⟨g2, 0, none⟩) 3 d2)).setCell ⟨w.heap.size + 1, 3, none⟩ (.slice (some ⟨g3, 0, none⟩) 2 d3)).setCell ⟨w.heap.size + 1, 4, none⟩ (.slice (some ⟨g4, 0, none⟩) 2 d4)).heap[q]? = v4.heap[q]? := fun q hq => (Below.heap_setCell _ _ _ q (by show q ≠ w.heap.size + 1; omega)).trans ((Below.heap_setCell _ _ _ q (by show q ≠ w.heap.size + 1; omega)).trans ((Below.heap_setCell _ _ _ q (by show q ≠ w.heap.size + 1; omega)).trans ((Below.heap_setCell _ _ _ q (by show q ≠ w.heap.size + 1; omega)).trans (Below.heap_setCell _ _ _ q (by show q ≠ w.heap.size + 1; omega)))))
  have zF : v4.heap.size ≤ (((((v4.setCell ⟨w.heap.size + 1, 0, none⟩ (.slice (some ⟨g0, 0, none⟩) L.length d0)).setCell ⟨w.heap.size + 1, 1, none⟩ (.slice (some ⟨g1, 0, none⟩) (L.length * 3) d1)).setCell ⟨w.heap.size + 1, 2, none⟩ (.slice (some ⟨g2, 0, none⟩) 3 d2)).setCell ⟨w.heap.size + 1, 3, none⟩ (.slice (some ⟨g3, 0, none⟩) 2 d3)).setCell ⟨w.heap.size + 1, 4, none⟩ (.slice (some ⟨g4, 0, none⟩) 2 d4)).heap.size := by simp
  have HF := Lib.hid kF
  have BF := Lib.hid bF
  have NF := Lib.hid nF
  obtain ⟨F, hF⟩ : ∃ F, F = (((((v4.setCell ⟨w.heap.size + 1, 0, none⟩ (.slice (some ⟨g0, 0, none⟩) L.length d0)).setCell ⟨w.heap.size + 1, 1, none⟩ (.slice (some ⟨g1, 0, none⟩) (L.length * 3) d1)).setCell ⟨w.heap.size + 1, 2, none⟩ (.slice (some ⟨g2, 0, none⟩) 3 d2)).setCell ⟨w.heap.size + 1, 3, none⟩ (.slice (some ⟨g3, 0, none⟩) 2 d3)).setCell ⟨w.heap.size + 1, 4, none⟩ (.slice (some ⟨g4, 0, none⟩) 2 d4)) := ⟨_, rfl⟩
  rw [← hF] at HF BF NF zF
  rw [← hF]
  clear kF bF nF hF
  have c0 := HF.out.cell 0
  have c1 := HF.out.cell 1
  have c2 := HF.out.cell 2
  have c3 := HF.out.cell 3
  have c4 := HF.out.cell 4
  simp only [List.getElem?_toArray, List.getElem?_cons_zero, List.getElem?_cons_succ] at c0 c1 c2 c3 c4
  refine bodyPost_ret (v := .agg #[.slice (some ⟨g0, 0, none⟩) L.length d0, .slice (some ⟨g1, 0, none⟩) (L.length * 3) d1, .slice (some ⟨g2, 0, none⟩) 3 d2, .slice (some ⟨g3, 0, none⟩) 2 d3, .slice (some ⟨g4, 0, none⟩) 2 d4]) (by simp [results, Try.results112, c0, c1, c2, c3, c4, go_sem]) rfl ?_
  refine ⟨⟨some ⟨g0, 0, none⟩, some ⟨g1, 0, none⟩, some ⟨g2, 0, none⟩, some ⟨g3, 0, none⟩, some ⟨g4, 0, none⟩, d0, d1, d2, d3, d4⟩, by simp only [StaV, begS, List.length_replicate], BF.out, by omega, Ov0.out.keepZ (by omega) (by omega) fun q h1 h2 => NF.out q (by omega), Ov1.out.keepZ (by omega) (by omega) fun q h1 h2 => NF.out q (by omega), Ov2.out.keepZ (by omega) (by omega) fun q h1 h2 => NF.out q (by omega), Ov3.out.keepZ (by omega) (by omega) fun q h1 h2 => NF.out q (by omega), Ov4.out.keepZ (by omega) (by omega) fun q h1 h2 => NF.out q (by omega)⟩
end Go.Proofs.Ytaghidaamcnpkab
