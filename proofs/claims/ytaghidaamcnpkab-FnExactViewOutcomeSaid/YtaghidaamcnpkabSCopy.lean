/-
  Contracts of the reference model's l2Nums and l2Copy: numbers and states of the call's own.
-/
import Derived.Test.YtaghidaamcnpkabFldW
namespace Go.Proofs.Ytaghidaamcnpkab
open Go.RowKit Pl
set_option maxHeartbeats 4000000
set_option maxRecDepth 100000
set_option linter.unusedVariables false

theorem nums_any (A : Option Addr) (c : Nat) (xs : List Int) (w : World) (B : Nat) (hR : Vs w B A (ints xs)) (hB : B ≤ w.heap.size) (hl : xs.length ≤ 1000) :
    Calls Try.prog 132 #[.slice A xs.length c] w (MadeI w xs) := by
  obtain ⟨i0, hi, iz0, iz1, iz2⟩ := info_parts Try.info3
  have start : Hid ((w.alloc (.cells #[] 3)).ownsRow w.heap.size 3 1 (.slice (some ⟨w.heap.size, 0, none⟩) 0 0) 0 (ints (xs.take 0))) := Lib.hid (World.ownsRow_made w #[] 0 (Nat.le_refl _) (by decide) (by simp))
  have HR := Lib.hid hR
  clear hR
  go_enter Try.func132, Try.ntmps132
  go_wp2
  go_loopw [3, 4] (fun v i wr => ∃ k g cap : Nat, k ≤ xs.length ∧ i = .int .i64 k ∧ v = .slice (some ⟨g, 0, none⟩) k cap ∧ w.heap.size ≤ g ∧ wr.ownsRow w.heap.size 3 1 (.slice (some ⟨g, 0, none⟩) k cap) k (ints (xs.take k)) ∧ Below w.heap.size w wr) (fun _ i _ => xs.length - (intOf i).toNat)
  case atStart => exact ⟨0, _, 0, Nat.zero_le _, rfl, rfl, Nat.le_refl _, start.out, (Below.refl _ _).alloc (Nat.le_refl _) _⟩
  case round =>
    obtain ⟨k, g, cap, hk, rfl, rfl, hgg, hown, hbel⟩ := hrel
    clear start
    have hz := hbel.size
    by_cases hlt : k < xs.length
    · obtain ⟨b, off, x, hA, hb, hx, -, hc⟩ := (HR.out.below hbel (by omega)).int_ hlt
      have Hx : Hid (ints (xs.take (k + 1)) = ints (xs.take k) ++ [.int .i64 x]) := Lib.hid (by simp [ints, List.take_add_one, hx])
      have Hown := Lib.hid hown
      have Hb := Lib.hid hbel
      have hbw : b < wr.heap.size := by omega
      have hi2 : (k : Int) < (xs.length : Int) := by omega
      clear hown hbel hx
      subst hA
      go_wp2_with (at_builtin; refine wpList_append_own _ rfl (.tmp 12) (.tmp 17) 25 rfl w.heap.size 3 i0 _ 1 8 Try.underlying25 hi iz0 iz1 iz2 rfl (by decide) _ k _ rfl (Hown.out.alloc _) ⟨_, 0, none⟩ 1 1 [.int .i64 _] rfl rfl (cell1_new _ _ _) (by intro u hu; simp at hu; subst hu; rfl) (by unfold maxLen; omega) (by omega) (by simp; omega) ?_; intro v' w3 own3 grow3 _; obtain ⟨g3, cap3, rfl, hg3, hlt3⟩ := own3.form (by omega); have Own3 := Lib.hid own3; have B3 := Lib.hid ((Hb.out.alloc hz _).grown grow3 (by simp; omega) (by intro q hq; cases hq; exact hgg)); clear own3 grow3)
      go_roundw
      case rel => exact ⟨k + 1, g3, cap3, by omega, by go_num, rfl, hg3, by rw [Hx.out]; exact Own3.out, B3.out⟩
      case measure => simp [intOf]; omega
    · have hkl : k = xs.length := by omega
      subst hkl
      have Hown := Lib.hid hown
      clear hown
      go_wp2
      go_ret
      obtain ⟨h1, h2⟩ := own_cap Hown.out
      exact ⟨g, cap, by simp, h1, h2, hgg, hbel, own_vs (by simpa using Hown.out) rfl⟩
/-- A state's lists, each in a block of its own. -/
def l2CopyP (w : World) (s : Sta) (e : Ending) (w' : World) : Prop := ∃ k, e = .returned (StaV k s) ∧ Below w.heap.size w w' ∧ w.heap.size ≤ w'.heap.size ∧ StaO w' w.heap.size w'.heap.size k s
theorem own_lt {w : World} {lo hi g : Nat} {t : TypeId} {vs : List Value} (h : OwnVs w lo hi t (some ⟨g, 0, none⟩) vs) (hn : 0 < vs.length) : g < hi := by
  obtain ⟨g', cs, hA, _, hg, _⟩ := h hn
  injection hA with hA; injection hA with h1; omega
theorem scopy_any (k : StaH) (s : Sta) (w : World) (B : Nat) (hS : StaR w B k s) (hB : B ≤ w.heap.size) (hl : StaL s 1000) :
    Calls Try.prog 138 #[StaV k s] w (l2CopyP w s) := by
  obtain ⟨hl0, hl1, hl2, hl3, hl4⟩ := hl
  obtain ⟨W, hW⟩ : ∃ W, W = (w.alloc (.cells #[.slice k.A0 s.f0.length k.c0, .slice k.A1 s.f1.length k.c1, .slice k.A2 s.f2.length k.c2, .slice k.A3 s.f3.length k.c3, .slice k.A4 s.f4.length k.c4] 50)).alloc (.cells #[.slice none 0 0, .slice none 0 0, .slice none 0 0, .slice none 0 0, .slice none 0 0] 50) := ⟨_, rfl⟩
  have bW : Below w.heap.size w W := by rw [hW]; go_grown
  have sW : W.heap.size = w.heap.size + 1 + 1 := by rw [hW]; simp
  have k0 : Bk W w.heap.size 50 #[.slice k.A0 s.f0.length k.c0, .slice k.A1 s.f1.length k.c1, .slice k.A2 s.f2.length k.c2, .slice k.A3 s.f3.length k.c3, .slice k.A4 s.f4.length k.c4] := by rw [hW]; exact (Bk.new w _ _).alloc _
  have k1 : Bk W (w.heap.size + 1) 50 #[.slice none 0 0, .slice none 0 0, .slice none 0 0, .slice none 0 0, .slice none 0 0] := by
    rw [hW]; have := Bk.new (w.alloc (.cells #[.slice k.A0 s.f0.length k.c0, .slice k.A1 s.f1.length k.c1, .slice k.A2 s.f2.length k.c2, .slice k.A3 s.f3.length k.c3, .slice k.A4 s.f4.length k.c4] 50)) #[.slice none 0 0, .slice none 0 0, .slice none 0 0, .slice none 0 0, .slice none 0 0] 50
    rwa [World.size_alloc] at this
  have Q0 := Lib.hid (hS.below bW hB)
  have K0 := Lib.hid k0
  have K1 := Lib.hid k1
  have BW := Lib.hid bW
  have sWa := Nat.le_of_eq sW
  have sWb := Nat.le_of_eq sW.symm
  have HW := Lib.hid hW
  have allS : ∀ w', Below W.heap.size W w' → (w'.cell? ⟨w.heap.size, 0, none⟩ = some (.slice k.A0 s.f0.length k.c0) ∧ w'.cell? ⟨w.heap.size, 1, none⟩ = some (.slice k.A1 s.f1.length k.c1) ∧ w'.cell? ⟨w.heap.size, 2, none⟩ = some (.slice k.A2 s.f2.length k.c2) ∧ w'.cell? ⟨w.heap.size, 3, none⟩ = some (.slice k.A3 s.f3.length k.c3) ∧ w'.cell? ⟨w.heap.size, 4, none⟩ = some (.slice k.A4 s.f4.length k.c4)) := fun w' hb => ⟨(k0.below hb k0.lt).cell 0, (k0.below hb k0.lt).cell 1, (k0.below hb k0.lt).cell 2, (k0.below hb k0.lt).cell 3, (k0.below hb k0.lt).cell 4⟩
  have AllS := Lib.hid allS
  have hBW : B ≤ W.heap.size := by omega
  have tok0 : True := trivial
  have tok1 : True := trivial
  have tok2 : True := trivial
  have tok3 : True := trivial
  have tok4 : True := trivial
  clear allS k0 k1 bW sW hW hS
  go_enter Try.func138, Try.ntmps138
  go_wp2_with fail
  rw [← HW.out]
  go_region_held3 (fun w' => w'.cell? ⟨w.heap.size, 0, none⟩ = some (.slice k.A0 s.f0.length k.c0) ∧ w'.cell? ⟨w.heap.size, 1, none⟩ = some (.slice k.A1 s.f1.length k.c1) ∧ w'.cell? ⟨w.heap.size, 2, none⟩ = some (.slice k.A2 s.f2.length k.c2) ∧ w'.cell? ⟨w.heap.size, 3, none⟩ = some (.slice k.A3 s.f3.length k.c3) ∧ w'.cell? ⟨w.heap.size, 4, none⟩ = some (.slice k.A4 s.f4.length k.c4)) (first | (with_reducible exact Fin.out) | (go_split_ands; refine AllS.out _ ?_; go_grown; done) | (refine AllS.out _ ?_; go_grown; done)) (first | (go_at_call 132; clear tok0; go_split_ands; refine (nums_any k.A0 k.c0 s.f0 _ B (Q0.out.r0.below (show Below W.heap.size W _ from by go_grown) hBW) (Nat.le_trans hBW (show Below W.heap.size W _ from by go_grown).size) hl0).mono ?_; rintro e v0 ⟨g0, d0, rfl, -, -, hg, hv, ov⟩; have Ov0 := Lib.hid ov; have hBv0 : Below W.heap.size W v0 := below_on ((Below.refl W.heap.size W).drew) hv; have hg0 : W.heap.size ≤ g0 := hg; clear ov hv hg) | (go_at_call 132; clear tok1; go_split_ands; refine (nums_any k.A1 k.c1 s.f1 _ B (Q0.out.r1.below (show Below W.heap.size W _ from by go_grown) hBW) (Nat.le_trans hBW (show Below W.heap.size W _ from by go_grown).size) hl1).mono ?_; rintro e v1 ⟨g1, d1, rfl, -, -, hg, hv, ov⟩; have Ov1 := Lib.hid ov; have hBv1 : Below W.heap.size W v1 := below_on hBv0 hv; have hg1 : v0.heap.size ≤ g1 := hg; have hk0_1 : Below v0.heap.size v0 v1 := hv; clear ov hv hg) | (go_at_call 132; clear tok2; go_split_ands; refine (nums_any k.A2 k.c2 s.f2 _ B (Q0.out.r2.below (show Below W.heap.size W _ from by go_grown) hBW) (Nat.le_trans hBW (show Below W.heap.size W _ from by go_grown).size) hl2).mono ?_; rintro e v2 ⟨g2, d2, rfl, -, -, hg, hv, ov⟩; have Ov2 := Lib.hid ov; have hBv2 : Below W.heap.size W v2 := below_on hBv1 hv; have hg2 : v1.heap.size ≤ g2 := hg; have hk0_2 : Below v0.heap.size v0 v2 := below_on hk0_1 hv; have hk1_2 : Below v1.heap.size v1 v2 := hv; clear ov hv hg) | (go_at_call 132; clear tok3; go_split_ands; refine (nums_any k.A3 k.c3 s.f3 _ B (Q0.out.r3.below (show Below W.heap.size W _ from by go_grown) hBW) (Nat.le_trans hBW (show Below W.heap.size W _ from by go_grown).size) hl3).mono ?_; rintro e v3 ⟨g3, d3, rfl, -, -, hg, hv, ov⟩; have Ov3 := Lib.hid ov; have hBv3 : Below W.heap.size W v3 := below_on hBv2 hv; have hg3 : v2.heap.size ≤ g3 := hg; have hk0_3 : Below v0.heap.size v0 v3 := below_on hk0_2 hv; have hk1_3 : Below v1.heap.size v1 v3 := below_on hk1_2 hv; have hk2_3 : Below v2.heap.size v2 v3 := hv; clear ov hv hg) | (go_at_call 132; clear tok4; go_split_ands; refine (nums_any k.A4 k.c4 s.f4 _ B (Q0.out.r4.below (show Below W.heap.size W _ from by go_grown) hBW) (Nat.le_trans hBW (show Below W.heap.size W _ from by go_grown).size) hl4).mono ?_; rintro e v4 ⟨g4, d4, rfl, -, -, hg, hv, ov⟩; have Ov4 := Lib.hid ov; have hBv4 : Below W.heap.size W v4 := below_on hBv3 hv; have hg4 : v3.heap.size ≤ g4 := hg; have hk0_4 : Below v0.heap.size v0 v4 := below_on hk0_3 hv; have hk1_4 : Below v1.heap.size v1 v4 := below_on hk1_3 hv; have hk2_4 : Below v2.heap.size v2 v4 := below_on hk2_3 hv; have hk3_4 : Below v3.heap.size v3 v4 := hv; have cr0 : v4.cell? ⟨w.heap.size + 1, 0, none⟩ = some (.slice none 0 0) := (K1.out.below hBv4 K1.out.lt).cell 0; have fr0 : v4.frozen? ⟨w.heap.size + 1, 0, none⟩ = false := (K1.out.below hBv4 K1.out.lt).free 0; have cr1 : v4.cell? ⟨w.heap.size + 1, 1, none⟩ = some (.slice none 0 0) := (K1.out.below hBv4 K1.out.lt).cell 1; have fr1 : v4.frozen? ⟨w.heap.size + 1, 1, none⟩ = false := (K1.out.below hBv4 K1.out.lt).free 1; have cr2 : v4.cell? ⟨w.heap.size + 1, 2, none⟩ = some (.slice none 0 0) := (K1.out.below hBv4 K1.out.lt).cell 2; have fr2 : v4.frozen? ⟨w.heap.size + 1, 2, none⟩ = false := (K1.out.below hBv4 K1.out.lt).free 2; have cr3 : v4.cell? ⟨w.heap.size + 1, 3, none⟩ = some (.slice none 0 0) := (K1.out.below hBv4 K1.out.lt).cell 3; have fr3 : v4.frozen? ⟨w.heap.size + 1, 3, none⟩ = false := (K1.out.below hBv4 K1.out.lt).free 3; have cr4 : v4.cell? ⟨w.heap.size + 1, 4, none⟩ = some (.slice none 0 0) := (K1.out.below hBv4 K1.out.lt).cell 4; have fr4 : v4.frozen? ⟨w.heap.size + 1, 4, none⟩ = false := (K1.out.below hBv4 K1.out.lt).free 4; have fin : (((((v4.setCell ⟨w.heap.size + 1, 0, none⟩ (.slice (some ⟨g0, 0, none⟩) s.f0.length d0)).setCell ⟨w.heap.size + 1, 1, none⟩ (.slice (some ⟨g1, 0, none⟩) s.f1.length d1)).setCell ⟨w.heap.size + 1, 2, none⟩ (.slice (some ⟨g2, 0, none⟩) s.f2.length d2)).setCell ⟨w.heap.size + 1, 3, none⟩ (.slice (some ⟨g3, 0, none⟩) s.f3.length d3)).setCell ⟨w.heap.size + 1, 4, none⟩ (.slice (some ⟨g4, 0, none⟩) s.f4.length d4)).cell? ⟨w.heap.size, 0, none⟩ = some (.slice k.A0 s.f0.length k.c0) ∧ (((((v4.setCell ⟨w.heap.size + 1, 0, none⟩ (.slice (some ⟨g0, 0, none⟩) s.f0.length d0)).setCell ⟨w.heap.size + 1, 1, none⟩ (.slice (some ⟨g1, 0, none⟩) s.f1.length d1)).setCell ⟨w.heap.size + 1, 2, none⟩ (.slice (some ⟨g2, 0, none⟩) s.f2.length d2)).setCell ⟨w.heap.size + 1, 3, none⟩ (.slice (some ⟨g3, 0, none⟩) s.f3.length d3)).setCell ⟨w.heap.size + 1, 4, none⟩ (.slice (some ⟨g4, 0, none⟩) s.f4.length d4)).cell? ⟨w.heap.size, 1, none⟩ = some (.slice k.A1 s.f1.length k.c1) ∧ (((((v4.setCell ⟨w.heap.size + 1, 0, none⟩ (.slice (some ⟨g0, 0, none⟩) s.f0.length d0)).setCell ⟨w.heap.size + 1, 1, none⟩ (.slice (some ⟨g1, 0, none⟩) s.f1.length d1)).setCell ⟨w.heap.size + 1, 2, none⟩ (.slice (some ⟨g2, 0, none⟩) s.f2.length d2)).setCell ⟨w.heap.size + 1, 3, none⟩ (.slice (some ⟨g3, 0, none⟩) s.f3.length d3)).setCell ⟨w.heap.size + 1, 4, none⟩ (.slice (some ⟨g4, 0, none⟩) s.f4.length d4)).cell? ⟨w.heap.size, 2, none⟩ = some (.slice k.A2 s.f2.length k.c2) ∧ (((((v4.setCell ⟨w.heap.size + 1, 0, none⟩ (.slice (some ⟨g0, 0, none⟩) s.f0.length d0)).setCell ⟨w.heap.size + 1, 1, none⟩ (.slice (some ⟨g1, 0, none⟩) s.f1.length d1)).setCell ⟨w.heap.size + 1, 2, none⟩ (.slice (some ⟨g2, 0, none⟩) s.f2.length d2)).setCell ⟨w.heap.size + 1, 3, none⟩ (.slice (some ⟨g3, 0, none⟩) s.f3.length d3)).setCell ⟨w.heap.size + 1, 4, none⟩ (.slice (some ⟨g4, 0, none⟩) s.f4.length d4)).cell? ⟨w.heap.size, 3, none⟩ = some (.slice k.A3 s.f3.length k.c3) ∧ (((((v4.setCell ⟨w.heap.size + 1, 0, none⟩ (.slice (some ⟨g0, 0, none⟩) s.f0.length d0)).setCell ⟨w.heap.size + 1, 1, none⟩ (.slice (some ⟨g1, 0, none⟩) s.f1.length d1)).setCell ⟨w.heap.size + 1, 2, none⟩ (.slice (some ⟨g2, 0, none⟩) s.f2.length d2)).setCell ⟨w.heap.size + 1, 3, none⟩ (.slice (some ⟨g3, 0, none⟩) s.f3.length d3)).setCell ⟨w.heap.size + 1, 4, none⟩ (.slice (some ⟨g4, 0, none⟩) s.f4.length d4)).cell? ⟨w.heap.size, 4, none⟩ = some (.slice k.A4 s.f4.length k.c4) := ⟨((((((K0.out.below hBv4 K0.out.lt).far (p := ⟨w.heap.size + 1, 0, none⟩) (show w.heap.size ≠ w.heap.size + 1 by omega) _).far (p := ⟨w.heap.size + 1, 1, none⟩) (show w.heap.size ≠ w.heap.size + 1 by omega) _).far (p := ⟨w.heap.size + 1, 2, none⟩) (show w.heap.size ≠ w.heap.size + 1 by omega) _).far (p := ⟨w.heap.size + 1, 3, none⟩) (show w.heap.size ≠ w.heap.size + 1 by omega) _).far (p := ⟨w.heap.size + 1, 4, none⟩) (show w.heap.size ≠ w.heap.size + 1 by omega) _).cell 0, ((((((K0.out.below hBv4 K0.out.lt).far (p := ⟨w.heap.size + 1, 0, none⟩) (show w.heap.size ≠ w.heap.size + 1 by omega) _).far (p := ⟨w.heap.size + 1, 1, none⟩) (show w.heap.size ≠ w.heap.size + 1 by omega) _).far (p := ⟨w.heap.size + 1, 2, none⟩) (show w.heap.size ≠ w.heap.size + 1 by omega) _).far (p := ⟨w.heap.size + 1, 3, none⟩) (show w.heap.size ≠ w.heap.size + 1 by omega) _).far (p := ⟨w.heap.size + 1, 4, none⟩) (show w.heap.size ≠ w.heap.size + 1 by omega) _).cell 1, ((((((K0.out.below hBv4 K0.out.lt).far (p := ⟨w.heap.size + 1, 0, none⟩) (show w.heap.size ≠ w.heap.size + 1 by omega) _).far (p := ⟨w.heap.size + 1, 1, none⟩) (show w.heap.size ≠ w.heap.size + 1 by omega) _).far (p := ⟨w.heap.size + 1, 2, none⟩) (show w.heap.size ≠ w.heap.size + 1 by omega) _).far (p := ⟨w.heap.size + 1, 3, none⟩) (show w.heap.size ≠ w.heap.size + 1 by omega) _).far (p := ⟨w.heap.size + 1, 4, none⟩) (show w.heap.size ≠ w.heap.size + 1 by omega) _).cell 2, ((((((K0.out.below hBv4 K0.out.lt).far (p := ⟨w.heap.size + 1, 0, none⟩) (show w.heap.size ≠ w.heap.size + 1 by omega) _).far (p := ⟨w.heap.size + 1, 1, none⟩) (show w.heap.size ≠ w.heap.size + 1 by omega) _).far (p := ⟨w.heap.size + 1, 2, none⟩) (show w.heap.size ≠ w.heap.size + 1 by omega) _).far (p := ⟨w.heap.size + 1, 3, none⟩) (show w.heap.size ≠ w.heap.size + 1 by omega) _).far (p := ⟨w.heap.size + 1, 4, none⟩) (show w.heap.size ≠ w.heap.size + 1 by omega) _).cell 3, ((((((K0.out.below hBv4 K0.out.lt).far (p := ⟨w.heap.size + 1, 0, none⟩) (show w.heap.size ≠ w.heap.size + 1 by omega) _).far (p := ⟨w.heap.size + 1, 1, none⟩) (show w.heap.size ≠ w.heap.size + 1 by omega) _).far (p := ⟨w.heap.size + 1, 2, none⟩) (show w.heap.size ≠ w.heap.size + 1 by omega) _).far (p := ⟨w.heap.size + 1, 3, none⟩) (show w.heap.size ≠ w.heap.size + 1 by omega) _).far (p := ⟨w.heap.size + 1, 4, none⟩) (show w.heap.size ≠ w.heap.size + 1 by omega) _).cell 4⟩; have Fin := Lib.hid fin; clear fin; clear ov hv hg))
  clear Fin AllS cr0 cr1 cr2 cr3 cr4 fr0 fr1 fr2 fr3 fr4
  have kF : Bk (((((v4.setCell ⟨w.heap.size + 1, 0, none⟩ (.slice (some ⟨g0, 0, none⟩) s.f0.length d0)).setCell ⟨w.heap.size + 1, 1, none⟩ (.slice (some ⟨g1, 0, none⟩) s.f1.length d1)).setCell ⟨w.heap.size + 1, 2, none⟩ (.slice (some ⟨g2, 0, none⟩) s.f2.length d2)).setCell ⟨w.heap.size + 1, 3, none⟩ (.slice (some ⟨g3, 0, none⟩) s.f3.length d3)).setCell ⟨w.heap.size + 1, 4, none⟩ (.slice (some ⟨g4, 0, none⟩) s.f4.length d4)) (w.heap.size + 1) 50 #[.slice (some ⟨g0, 0, none⟩) s.f0.length d0, .slice (some ⟨g1, 0, none⟩) s.f1.length d1, .slice (some ⟨g2, 0, none⟩) s.f2.length d2, .slice (some ⟨g3, 0, none⟩) s.f3.length d3, .slice (some ⟨g4, 0, none⟩) s.f4.length d4] := by
    have a0 := (K1.out.below hBv4 K1.out.lt)
    have a1 := a0.set 0 (.slice (some ⟨g0, 0, none⟩) s.f0.length d0)
    have a2 := a1.set 1 (.slice (some ⟨g1, 0, none⟩) s.f1.length d1)
    have a3 := a2.set 2 (.slice (some ⟨g2, 0, none⟩) s.f2.length d2)
    have a4 := a3.set 3 (.slice (some ⟨g3, 0, none⟩) s.f3.length d3)
    have a5 := a4.set 4 (.slice (some ⟨g4, 0, none⟩) s.f4.length d4)
    simpa using a5
  have bF : Below w.heap.size w (((((v4.setCell ⟨w.heap.size + 1, 0, none⟩ (.slice (some ⟨g0, 0, none⟩) s.f0.length d0)).setCell ⟨w.heap.size + 1, 1, none⟩ (.slice (some ⟨g1, 0, none⟩) s.f1.length d1)).setCell ⟨w.heap.size + 1, 2, none⟩ (.slice (some ⟨g2, 0, none⟩) s.f2.length d2)).setCell ⟨w.heap.size + 1, 3, none⟩ (.slice (some ⟨g3, 0, none⟩) s.f3.length d3)).setCell ⟨w.heap.size + 1, 4, none⟩ (.slice (some ⟨g4, 0, none⟩) s.f4.length d4)) := ((((((BW.out.trans (hBv4.mono (by omega))).setCell (p := ⟨w.heap.size + 1, 0, none⟩) (show w.heap.size ≤ w.heap.size + 1 by omega) _).setCell (p := ⟨w.heap.size + 1, 1, none⟩) (show w.heap.size ≤ w.heap.size + 1 by omega) _).setCell (p := ⟨w.heap.size + 1, 2, none⟩) (show w.heap.size ≤ w.heap.size + 1 by omega) _).setCell (p := ⟨w.heap.size + 1, 3, none⟩) (show w.heap.size ≤ w.heap.size + 1 by omega) _).setCell (p := ⟨w.heap.size + 1, 4, none⟩) (show w.heap.size ≤ w.heap.size + 1 by omega) _)
  have nF : ∀ q, w.heap.size + 1 < q → (((((v4.setCell ⟨w.heap.size + 1, 0, none⟩ (.slice (some ⟨g0, 0, none⟩) s.f0.length d0)).setCell ⟨w.heap.size + 1, 1, none⟩ (.slice (some ⟨g1, 0, none⟩) s.f1.length d1)).setCell ⟨w.heap.size + 1, 2, none⟩ (.slice (some ⟨g2, 0, none⟩) s.f2.length d2)).setCell ⟨w.heap.size + 1, 3, none⟩ (.slice (some ⟨g3, 0, none⟩) s.f3.length d3)).setCell ⟨w.heap.size + 1, 4, none⟩ (.slice (some ⟨g4, 0, none⟩) s.f4.length d4)).heap[q]? = v4.heap[q]? := fun q hq => (Below.heap_setCell _ _ _ q (by show q ≠ w.heap.size + 1; omega)).trans ((Below.heap_setCell _ _ _ q (by show q ≠ w.heap.size + 1; omega)).trans ((Below.heap_setCell _ _ _ q (by show q ≠ w.heap.size + 1; omega)).trans ((Below.heap_setCell _ _ _ q (by show q ≠ w.heap.size + 1; omega)).trans (Below.heap_setCell _ _ _ q (by show q ≠ w.heap.size + 1; omega)))))
  have zF : v4.heap.size ≤ (((((v4.setCell ⟨w.heap.size + 1, 0, none⟩ (.slice (some ⟨g0, 0, none⟩) s.f0.length d0)).setCell ⟨w.heap.size + 1, 1, none⟩ (.slice (some ⟨g1, 0, none⟩) s.f1.length d1)).setCell ⟨w.heap.size + 1, 2, none⟩ (.slice (some ⟨g2, 0, none⟩) s.f2.length d2)).setCell ⟨w.heap.size + 1, 3, none⟩ (.slice (some ⟨g3, 0, none⟩) s.f3.length d3)).setCell ⟨w.heap.size + 1, 4, none⟩ (.slice (some ⟨g4, 0, none⟩) s.f4.length d4)).heap.size := by simp
  have HF := Lib.hid kF
  have BF := Lib.hid bF
  have NF := Lib.hid nF
  obtain ⟨F, hF⟩ : ∃ F, F = (((((v4.setCell ⟨w.heap.size + 1, 0, none⟩ (.slice (some ⟨g0, 0, none⟩) s.f0.length d0)).setCell ⟨w.heap.size + 1, 1, none⟩ (.slice (some ⟨g1, 0, none⟩) s.f1.length d1)).setCell ⟨w.heap.size + 1, 2, none⟩ (.slice (some ⟨g2, 0, none⟩) s.f2.length d2)).setCell ⟨w.heap.size + 1, 3, none⟩ (.slice (some ⟨g3, 0, none⟩) s.f3.length d3)).setCell ⟨w.heap.size + 1, 4, none⟩ (.slice (some ⟨g4, 0, none⟩) s.f4.length d4)) := ⟨_, rfl⟩
  rw [← hF] at HF BF NF zF
  rw [← hF]
  clear kF bF nF hF
  have c0 := HF.out.cell 0
  have c1 := HF.out.cell 1
  have c2 := HF.out.cell 2
  have c3 := HF.out.cell 3
  have c4 := HF.out.cell 4
  simp only [List.getElem?_toArray, List.getElem?_cons_zero, List.getElem?_cons_succ] at c0 c1 c2 c3 c4
  have zk0 := hk0_1.size
  have zk1 := hk1_2.size
  have zk2 := hk2_3.size
  have zk3 := hk3_4.size
  have lg0 : 0 < s.f0.length → g0 < v0.heap.size := fun hn => own_lt Ov0.out (by rw [ints_length]; exact hn)
  have lg1 : 0 < s.f1.length → g1 < v1.heap.size := fun hn => own_lt Ov1.out (by rw [ints_length]; exact hn)
  have lg2 : 0 < s.f2.length → g2 < v2.heap.size := fun hn => own_lt Ov2.out (by rw [ints_length]; exact hn)
  have lg3 : 0 < s.f3.length → g3 < v3.heap.size := fun hn => own_lt Ov3.out (by rw [ints_length]; exact hn)
  have lg4 : 0 < s.f4.length → g4 < v4.heap.size := fun hn => own_lt Ov4.out (by rw [ints_length]; exact hn)
  have zv0 := hBv0.size
  have O0 := Lib.hid ((Ov0.out.below hk0_4 (Nat.le_refl _)).keep (lo' := w.heap.size) (hi' := F.heap.size) (by first | omega | (show _ ≤ W.heap.size; omega)) (by omega) fun q h1 h2 => NF.out q (by first | omega | (have : W.heap.size ≤ q := h1; omega)))
  have O1 := Lib.hid ((Ov1.out.below hk1_4 (Nat.le_refl _)).keep (lo' := w.heap.size) (hi' := F.heap.size) (by first | omega | (show _ ≤ W.heap.size; omega)) (by omega) fun q h1 h2 => NF.out q (by first | omega | (have : W.heap.size ≤ q := h1; omega)))
  have O2 := Lib.hid ((Ov2.out.below hk2_4 (Nat.le_refl _)).keep (lo' := w.heap.size) (hi' := F.heap.size) (by first | omega | (show _ ≤ W.heap.size; omega)) (by omega) fun q h1 h2 => NF.out q (by first | omega | (have : W.heap.size ≤ q := h1; omega)))
  have O3 := Lib.hid ((Ov3.out.below hk3_4 (Nat.le_refl _)).keep (lo' := w.heap.size) (hi' := F.heap.size) (by first | omega | (show _ ≤ W.heap.size; omega)) (by omega) fun q h1 h2 => NF.out q (by first | omega | (have : W.heap.size ≤ q := h1; omega)))
  have O4 := Lib.hid (Ov4.out.keep (lo' := w.heap.size) (hi' := F.heap.size) (by omega) (by omega) fun q h1 h2 => NF.out q (by omega))
  go_wp2
  refine bodyPost_ret (v := .agg #[.slice (some ⟨g0, 0, none⟩) s.f0.length d0, .slice (some ⟨g1, 0, none⟩) s.f1.length d1, .slice (some ⟨g2, 0, none⟩) s.f2.length d2, .slice (some ⟨g3, 0, none⟩) s.f3.length d3, .slice (some ⟨g4, 0, none⟩) s.f4.length d4]) (by simp [results, Try.results138, c0, c1, c2, c3, c4, go_sem]) rfl ?_
  exact ⟨⟨some ⟨g0, 0, none⟩, some ⟨g1, 0, none⟩, some ⟨g2, 0, none⟩, some ⟨g3, 0, none⟩, some ⟨g4, 0, none⟩, d0, d1, d2, d3, d4⟩, rfl, BF.out, by omega, O0.out, O1.out, O2.out, O3.out, O4.out, fun h1 h2 e => by injection e with e; injection e with e; have := lg0 h1; omega, fun h1 h2 e => by injection e with e; injection e with e; have := lg0 h1; omega, fun h1 h2 e => by injection e with e; injection e with e; have := lg0 h1; omega, fun h1 h2 e => by injection e with e; injection e with e; have := lg0 h1; omega, fun h1 h2 e => by injection e with e; injection e with e; have := lg1 h1; omega, fun h1 h2 e => by injection e with e; injection e with e; have := lg1 h1; omega, fun h1 h2 e => by injection e with e; injection e with e; have := lg1 h1; omega, fun h1 h2 e => by injection e with e; injection e with e; have := lg2 h1; omega, fun h1 h2 e => by injection e with e; injection e with e; have := lg2 h1; omega, fun h1 h2 e => by injection e with e; injection e with e; have := lg3 h1; omega⟩
end Go.Proofs.Ytaghidaamcnpkab
