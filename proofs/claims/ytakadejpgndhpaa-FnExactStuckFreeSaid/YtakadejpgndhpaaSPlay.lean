/-
  What the reference model's Play comes to.
-/
import Derived.Test.YtakadejpgndhpaaRun
import Derived.Test.YtakadejpgndhpaaBegin
import Derived.Test.YtakadejpgndhpaaIl
import Derived.Test.YtakadejpgndhpaaSpDo
import Derived.Test.YtakadejpgndhpaaOutF
import Derived.Deep.RegionHeld3
import Derived.Deep.DeepCutAuto
namespace Go.Proofs.Ytakadejpgndhpaa
open Go.RowKit Pl
set_option maxHeartbeats 4000000
set_option maxRecDepth 100000
set_option linter.unusedVariables false

def wordO : Option (Nat → Nat) → Nat
  | none => 0
  | some f => enc WS f
theorem played_any (h : PgH) (L : Pg) (A : Option Addr) (c : Nat) (xs : List Int) (w : World) (B : Nat) (hR : PgR w B h L) (hV : Vs w B A (ints xs)) (hB : B ≤ w.heap.size) (hL : progB L = true) (hm : xs.length ≤ maxLen) (q : Option (Nat → Nat)) (hq : Hid (runF L (keptF L zeroF L.length) xs = q)) :
    Calls Try.prog 80 #[PgV h L, .slice A xs.length c] w fun e w' => e = .returned (.tuple #[.int .u64 (wordO q : Nat), .bool q.isSome]) ∧ Below w.heap.size w w' := by
  obtain ⟨h31, h32⟩ := prog_len hL
  unfold maxLen at hm
  obtain ⟨W, hW⟩ : ∃ W, W = w.alloc (.cells #[.slice h.A L.length h.c] 30) := ⟨_, rfl⟩
  have bW : Below w.heap.size w W := by rw [hW]; go_grown
  have KW := Lib.hid (show Bk W w.heap.size 30 #[.slice h.A L.length h.c] by rw [hW]; exact Bk.new _ _ _)
  have RW := Lib.hid (hR.below bW hB)
  have VW := Lib.hid (hV.below bW hB)
  have BW := Lib.hid bW
  have hBW : B ≤ W.heap.size := Nat.le_trans hB bW.size
  have HW := Lib.hid hW
  have I0 := Lib.hid (inv_beg hL)
  clear hW bW hR hV
  go_enter Try.func80, Try.ntmps80
  go_wp2_with fail
  rw [← HW.out]
  refine (begword_any h L W B RW.out hBW hL).mono ?_
  rintro e w1 ⟨rfl, hb1⟩
  have B1 := Lib.hid hb1
  clear hb1
  go_wp2
  go_loopw [6, 13] (fun x i wr => ∃ (k : Nat) (f : Nat → Nat), k ≤ xs.length ∧ i = .int .i64 k ∧ x = .int .u64 (enc WS f : Nat) ∧ Below W.heap.size W wr ∧ Hid (Inv L f) ∧ Hid (runF L f (xs.drop k) = q)) (fun _ i _ => xs.length - (intOf i).toNat)
  case atStart => exact ⟨0, keptF L zeroF L.length, Nat.zero_le _, rfl, rfl, B1.out, I0, hq⟩
  case round =>
    obtain ⟨k, f, hk, rfl, rfl, hbel, hI, hrest⟩ := hrel
    by_cases hlt : k < xs.length
    · obtain ⟨b, off, th, rfl, hb, hx, hd, hx0⟩ := (VW.out.below hbel hBW).int_ hlt
      have hz := hbel.size
      have hbox : wr.cell? ⟨w.heap.size, 0, none⟩ = some (.slice h.A L.length h.c) := (KW.out.below hbel KW.out.lt).cell 0
      have hlw := KW.out.lt
      have hbw : b < wr.heap.size := by omega
      have hwr : w.heap.size < wr.heap.size := by omega
      have hi2 : (k : Int) < (xs.length : Int) := by omega
      have Hd := Lib.hid hd
      have Hbel := Lib.hid hbel
      have RW' := Lib.hid (RW.out.below hbel hBW)
      clear hd hx hbel
      rcases Bool.eq_false_or_eq_true (goB L f th) with hg | hg
      · obtain ⟨t, rfl, ht, hc⟩ := goB_parts hg
        have HA := Lib.hid ((able_bits hI.out (t : Int)).trans hg)
        have HC := Lib.hid hc
        have Hn : Hid (runF L (stepF L f t) (xs.drop (k + 1)) = q) := Lib.hid (by
          have := hrest.out
          rw [Hd.out] at this
          unfold runF at this
          rw [if_pos hg] at this
          exact this)
        clear hg hc
        go_wp2_with fail
        refine (able_any h L f (t : Int) wr hI.out.good.ok h31 h32 true HA).mono ?_
        rintro e w2 ⟨rfl, hb2⟩
        have hbox2 : w2.cell? ⟨w.heap.size, 0, none⟩ = some (.slice h.A L.length h.c) := (hb2.cell (p := ⟨w.heap.size, 0, none⟩) hwr).trans hbox
        have hz2 := hb2.size
        have R2 := Lib.hid (RW'.out.below hb2 (by omega))
        have Hb2 := Lib.hid (below_on Hbel.out hb2)
        clear hb2 hbox hx0
        go_wp2_with fail
        refine (stepped_any h L f t w2 B R2.out (by omega) hL hI.out.good ht HC.out hI.out.chan).mono ?_
        rintro e w3 ⟨rfl, hb3⟩
        have Hb3 := Lib.hid (below_on Hb2.out hb3)
        clear hb3 hbox2
        go_wp2
        go_roundw
        case rel => exact ⟨k + 1, stepF L f t, by omega, by go_num, rfl, Hb3.out, Lib.hid (inv_step hL hI.out ht HC.out), Hn⟩
        case measure => simp [intOf]; omega
      · have HA := Lib.hid ((able_bits hI.out th).trans hg)
        have hq0 : q = none := by
          have := hrest.out
          rw [Hd.out] at this
          unfold runF at this
          rw [if_neg (by rw [hg]; simp)] at this
          exact this.symm
        subst hq0
        clear hg
        go_wp2_with fail
        refine (able_any h L f th wr hI.out.good.ok h31 h32 false HA).mono ?_
        rintro e w2 ⟨rfl, hb2⟩
        have Hb2 := Lib.hid (below_on BW.out (below_on Hbel.out hb2))
        clear hb2 hbox hx0
        go_wp2
        go_returns
        exact ⟨rfl, Hb2.out⟩
    · have hq0 : q = some f := by
        have := hrest.out
        rw [List.drop_eq_nil_of_le (by omega)] at this
        unfold runF at this
        exact this.symm
      subst hq0
      have hi2 : ¬ (k : Int) < (xs.length : Int) := by omega
      go_wp2
      go_returns
      exact ⟨rfl, below_on BW.out hbel⟩

/-- The state behind an order. -/
def playO (L : Pg) (xs : List Int) : Option (Nat → Nat) := if progB L then runF L (keptF L zeroF L.length) xs else none
def staO (L : Pg) : Option (Nat → Nat) → Sta
  | none => StaE
  | some f => staF L f
def playE (L : Pg) (xs : List Int) : Sta := staO L (playO L xs)
def playB (L : Pg) (xs : List Int) : Bool := (playO L xs).isSome

end Go.Proofs.Ytakadejpgndhpaa
namespace Go.Proofs.Ytakadejpgndhpaa
open Go.RowKit Pl Go.BigFrame
set_option maxHeartbeats 8000000
set_option maxRecDepth 100000
set_option linter.unusedVariables false

theorem splay_any (h : PgH) (L : Pg) (k : IsH) (xs : List Int) (w : World) (B : Nat) (hP : PgR w B h L) (hV : IsR w B k xs) (hB : B ≤ w.heap.size) (SP : PgS L) (LS : IsS xs) :
    Calls Try.prog 76 #[PgV h L, IsV k xs] w (AnsISta w (playE L xs) (playB L xs)) := by
  have hm := (IsS_L LS).l0
  unfold maxLen at hm
  obtain ⟨A, c⟩ := k
  show Calls Try.prog 76 #[PgV h L, .slice A xs.length c] w (AnsISta w (playE L xs) (playB L xs))
  obtain ⟨W, hW⟩ : ∃ W, W = (w.alloc (.cells #[.slice h.A L.length h.c] 30)).alloc (.cells #[.slice none 0 0, .slice none 0 0, .slice none 0 0, .slice none 0 0, .slice none 0 0] 56) := ⟨_, rfl⟩
  have bW : Below w.heap.size w W := by rw [hW]; go_grown
  have sW : W.heap.size = w.heap.size + 1 + 1 := by rw [hW]; simp
  have k0 : Bk W w.heap.size 30 #[.slice h.A L.length h.c] := by rw [hW]; exact (Bk.new w _ _).alloc _
  have k1 : Bk W (w.heap.size + 1) 56 #[.slice none 0 0, .slice none 0 0, .slice none 0 0, .slice none 0 0, .slice none 0 0] := by
    rw [hW]; have := Bk.new (w.alloc (.cells #[.slice h.A L.length h.c] 30)) #[.slice none 0 0, .slice none 0 0, .slice none 0 0, .slice none 0 0, .slice none 0 0] 56
    rwa [World.size_alloc] at this
  have PW := Lib.hid (hP.below bW hB)
  have VW := Lib.hid (hV.below bW hB)
  have K0W := Lib.hid k0
  have K1W := Lib.hid k1
  have BW := Lib.hid bW
  have sWa := Nat.le_of_eq sW
  have sWb := Nat.le_of_eq sW.symm
  have HW := Lib.hid hW
  clear k0 k1 bW sW hW hP hV
  rcases Bool.eq_false_or_eq_true (progB L) with hp | hp
  rotate_left
  · have hO : playO L xs = none := by unfold playO; rw [hp]; rfl
    have hE : playE L xs = StaE := by unfold playE; rw [hO]; rfl
    have hQ : playB L xs = false := by unfold playB; rw [hO]; rfl
    rw [hE, hQ]
    have HP := Lib.hid hp
    clear hO hE hQ hp
    go_enter Try.func76, Try.ntmps76
    go_wp2_with fail
    rw [← HW.out]
    refine (sprog_any h.A L h.c W B PW.out (by omega) SP.l (Lib.hid SP.e) false HP).mono ?_
    rintro e w1 ⟨rfl, hb1⟩
    have B1 := Lib.hid (below_on BW.out hb1)
    have z1 := hb1.size
    have K01 := Lib.hid (K0W.out.below hb1 K0W.out.lt)
    have K11 := Lib.hid (K1W.out.below hb1 K1W.out.lt)
    have P1 := Lib.hid (PW.out.below hb1 (by omega))
    have V1 := Lib.hid (VW.out.below hb1 (by omega))
    clear hb1
    have cr0 : w1.cell? ⟨w.heap.size + 1, 0, none⟩ = some (.slice none 0 0) := K11.out.cell 0
    have fr0 : w1.frozen? ⟨w.heap.size + 1, 0, none⟩ = false := K11.out.free 0
    have cr1 : w1.cell? ⟨w.heap.size + 1, 1, none⟩ = some (.slice none 0 0) := K11.out.cell 1
    have fr1 : w1.frozen? ⟨w.heap.size + 1, 1, none⟩ = false := K11.out.free 1
    have cr2 : w1.cell? ⟨w.heap.size + 1, 2, none⟩ = some (.slice none 0 0) := K11.out.cell 2
    have fr2 : w1.frozen? ⟨w.heap.size + 1, 2, none⟩ = false := K11.out.free 2
    have cr3 : w1.cell? ⟨w.heap.size + 1, 3, none⟩ = some (.slice none 0 0) := K11.out.cell 3
    have fr3 : w1.frozen? ⟨w.heap.size + 1, 3, none⟩ = false := K11.out.free 3
    have cr4 : w1.cell? ⟨w.heap.size + 1, 4, none⟩ = some (.slice none 0 0) := K11.out.cell 4
    have fr4 : w1.frozen? ⟨w.heap.size + 1, 4, none⟩ = false := K11.out.free 4
    go_wp2
    clear cr0 fr0 cr1 fr1 cr2 fr2 cr3 fr3 cr4 fr4
    have kF : Bk (((((w1.setCell ⟨w.heap.size + 1, 0, none⟩ (.slice none 0 0)).setCell ⟨w.heap.size + 1, 1, none⟩ (.slice none 0 0)).setCell ⟨w.heap.size + 1, 2, none⟩ (.slice none 0 0)).setCell ⟨w.heap.size + 1, 3, none⟩ (.slice none 0 0)).setCell ⟨w.heap.size + 1, 4, none⟩ (.slice none 0 0)) (w.heap.size + 1) 56 #[.slice none 0 0, .slice none 0 0, .slice none 0 0, .slice none 0 0, .slice none 0 0] := by
      have a0 := K11.out
      have a1 := a0.set 0 (.slice none 0 0)
      have a2 := a1.set 1 (.slice none 0 0)
      have a3 := a2.set 2 (.slice none 0 0)
      have a4 := a3.set 3 (.slice none 0 0)
      have a5 := a4.set 4 (.slice none 0 0)
      simpa using a5
    have bF : Below w.heap.size w (((((w1.setCell ⟨w.heap.size + 1, 0, none⟩ (.slice none 0 0)).setCell ⟨w.heap.size + 1, 1, none⟩ (.slice none 0 0)).setCell ⟨w.heap.size + 1, 2, none⟩ (.slice none 0 0)).setCell ⟨w.heap.size + 1, 3, none⟩ (.slice none 0 0)).setCell ⟨w.heap.size + 1, 4, none⟩ (.slice none 0 0)) := (((((B1.out.setCell (p := ⟨w.heap.size + 1, 0, none⟩) (show w.heap.size ≤ w.heap.size + 1 by omega) _).setCell (p := ⟨w.heap.size + 1, 1, none⟩) (show w.heap.size ≤ w.heap.size + 1 by omega) _).setCell (p := ⟨w.heap.size + 1, 2, none⟩) (show w.heap.size ≤ w.heap.size + 1 by omega) _).setCell (p := ⟨w.heap.size + 1, 3, none⟩) (show w.heap.size ≤ w.heap.size + 1 by omega) _).setCell (p := ⟨w.heap.size + 1, 4, none⟩) (show w.heap.size ≤ w.heap.size + 1 by omega) _)
    have nF : ∀ q, w.heap.size + 1 < q → (((((w1.setCell ⟨w.heap.size + 1, 0, none⟩ (.slice none 0 0)).setCell ⟨w.heap.size + 1, 1, none⟩ (.slice none 0 0)).setCell ⟨w.heap.size + 1, 2, none⟩ (.slice none 0 0)).setCell ⟨w.heap.size + 1, 3, none⟩ (.slice none 0 0)).setCell ⟨w.heap.size + 1, 4, none⟩ (.slice none 0 0)).heap[q]? = w1.heap[q]? := fun q hq => (Below.heap_setCell _ _ _ q (by show q ≠ w.heap.size + 1; omega)).trans ((Below.heap_setCell _ _ _ q (by show q ≠ w.heap.size + 1; omega)).trans ((Below.heap_setCell _ _ _ q (by show q ≠ w.heap.size + 1; omega)).trans ((Below.heap_setCell _ _ _ q (by show q ≠ w.heap.size + 1; omega)).trans (Below.heap_setCell _ _ _ q (by show q ≠ w.heap.size + 1; omega)))))
    have zF : w1.heap.size ≤ (((((w1.setCell ⟨w.heap.size + 1, 0, none⟩ (.slice none 0 0)).setCell ⟨w.heap.size + 1, 1, none⟩ (.slice none 0 0)).setCell ⟨w.heap.size + 1, 2, none⟩ (.slice none 0 0)).setCell ⟨w.heap.size + 1, 3, none⟩ (.slice none 0 0)).setCell ⟨w.heap.size + 1, 4, none⟩ (.slice none 0 0)).heap.size := by simp
    have HF := Lib.hid kF
    have BF := Lib.hid bF
    have NF := Lib.hid nF
    obtain ⟨F, hF⟩ : ∃ F, F = (((((w1.setCell ⟨w.heap.size + 1, 0, none⟩ (.slice none 0 0)).setCell ⟨w.heap.size + 1, 1, none⟩ (.slice none 0 0)).setCell ⟨w.heap.size + 1, 2, none⟩ (.slice none 0 0)).setCell ⟨w.heap.size + 1, 3, none⟩ (.slice none 0 0)).setCell ⟨w.heap.size + 1, 4, none⟩ (.slice none 0 0)) := ⟨_, rfl⟩
    rw [← hF] at HF BF NF zF
    rw [← hF]
    clear kF bF nF hF
    have c0 := HF.out.cell 0
    have c1 := HF.out.cell 1
    have c2 := HF.out.cell 2
    have c3 := HF.out.cell 3
    have c4 := HF.out.cell 4
    simp only [List.getElem?_toArray, List.getElem?_cons_zero, List.getElem?_cons_succ] at c0 c1 c2 c3 c4
    refine bodyPost_ret (v := .tuple #[.agg #[.slice none 0 0, .slice none 0 0, .slice none 0 0, .slice none 0 0, .slice none 0 0], .bool false]) (by simp [results, Try.results76, c0, c1, c2, c3, c4, go_sem]) rfl ?_
    exact ⟨StaN, rfl, BF.out, by omega, StaI.none_ _ _ _ _⟩
  obtain ⟨h31, h32⟩ := prog_len hp
  obtain ⟨q, hq⟩ : ∃ q, runF L (keptF L zeroF L.length) xs = q := ⟨_, rfl⟩
  have hO : playO L xs = q := by unfold playO; rw [hp, if_pos rfl]; exact hq
  have hE : playE L xs = staO L q := by unfold playE; rw [hO]
  have hQ : playB L xs = q.isSome := by unfold playB; rw [hO]
  rw [hE, hQ]
  have HQ := Lib.hid hq
  have HP := Lib.hid hp
  have I0 := Lib.hid (inv_beg hp)
  clear hO hE hQ hq hp
  go_enter Try.func76, Try.ntmps76
  go_wp2_with fail
  rw [← HW.out]
  refine (sprog_any h.A L h.c W B PW.out (by omega) SP.l (Lib.hid SP.e) true HP).mono ?_
  rintro e w1 ⟨rfl, hb1⟩
  have B1 := Lib.hid (below_on BW.out hb1)
  have z1 := hb1.size
  have K01 := Lib.hid (K0W.out.below hb1 K0W.out.lt)
  have K11 := Lib.hid (K1W.out.below hb1 K1W.out.lt)
  have P1 := Lib.hid (PW.out.below hb1 (by omega))
  have V1 := Lib.hid (VW.out.below hb1 (by omega))
  clear hb1
  have cb : w1.cell? ⟨w.heap.size, 0, none⟩ = some (.slice h.A L.length h.c) := K01.out.cell 0
  go_wp2_with fail
  clear cb
  refine (sbegin0_any h L w1 h31 h32).mono ?_
  rintro e w2 ⟨hs, rfl, hb2, hz2, oi⟩
  rw [← staF_beg L h32] at oi ⊢
  have OI := Lib.hid oi
  clear oi
  have B2 := Lib.hid (below_on B1.out hb2)
  have z2 := hb2.size
  have K02 := Lib.hid (K01.out.below hb2 K01.out.lt)
  have K12 := Lib.hid (K11.out.below hb2 K11.out.lt)
  have P2 := Lib.hid (P1.out.below hb2 (by omega))
  have V2 := Lib.hid (V1.out.below hb2 (by omega))
  clear hb2
  go_wp2
  obtain ⟨V, hV⟩ : ∃ V, V = w2.alloc (.cells #[.slice hs.A0 (staF L (keptF L zeroF L.length)).f0.length hs.c0, .slice hs.A1 (staF L (keptF L zeroF L.length)).f1.length hs.c1, .slice hs.A2 (staF L (keptF L zeroF L.length)).f2.length hs.c2, .slice hs.A3 (staF L (keptF L zeroF L.length)).f3.length hs.c3, .slice hs.A4 (staF L (keptF L zeroF L.length)).f4.length hs.c4] 56) := ⟨_, rfl⟩
  rw [← hV]
  have bV : Below w2.heap.size w2 V := by rw [hV]; go_grown
  have kV : Bk V w2.heap.size 56 #[.slice hs.A0 (staF L (keptF L zeroF L.length)).f0.length hs.c0, .slice hs.A1 (staF L (keptF L zeroF L.length)).f1.length hs.c1, .slice hs.A2 (staF L (keptF L zeroF L.length)).f2.length hs.c2, .slice hs.A3 (staF L (keptF L zeroF L.length)).f3.length hs.c3, .slice hs.A4 (staF L (keptF L zeroF L.length)).f4.length hs.c4] := by rw [hV]; exact Bk.new _ _ _
  have zV : V.heap.size = w2.heap.size + 1 := by rw [hV]; simp
  have OIV := OI.out.below bV (Nat.le_refl _)
  clear hV
  go_loopw [7] (fun i wr => ∃ (n : Nat) (f : Nat → Nat) (hk : StaH) (lo hi : Nat), n ≤ xs.length ∧ i = .int .i64 n ∧ Below w2.heap.size w2 wr ∧ Bk wr w2.heap.size 56 #[.slice hk.A0 (staF L f).f0.length hk.c0, .slice hk.A1 (staF L f).f1.length hk.c1, .slice hk.A2 (staF L f).f2.length hk.c2, .slice hk.A3 (staF L f).f3.length hk.c3, .slice hk.A4 (staF L f).f4.length hk.c4] ∧ StaI wr lo hi hk (staF L f) ∧ w.heap.size + 1 < lo ∧ lo ≤ hi ∧ hi ≤ wr.heap.size ∧ (hi ≤ w2.heap.size ∨ w2.heap.size < lo) ∧ Hid (Inv L f) ∧ Hid (runF L f (xs.drop n) = q)) (fun i _ => xs.length - (intOf i).toNat)
  case atStart => exact ⟨0, keptF L zeroF L.length, hs, w1.heap.size, w2.heap.size, Nat.zero_le _, rfl, bV, kV, OIV, by omega, by omega, by omega, Or.inl (Nat.le_refl _), I0, HQ⟩
  case round =>
    obtain ⟨n, f, hk, lo, hi, hn, rfl, hbel, hkS, hoi, hlo, hlh, hhi, hap, hI, hrest⟩ := hrel
    have hzr := hbel.size
    have KS := Lib.hid hkS
    have OS := Lib.hid hoi
    have K0R := Lib.hid (K02.out.below hbel K02.out.lt)
    have K1R := Lib.hid (K12.out.below hbel K12.out.lt)
    have PR := Lib.hid (P2.out.below hbel (by omega))
    have VR := Lib.hid (V2.out.below hbel (by omega))
    have BR := Lib.hid (below_on B2.out hbel)
    have HB := Lib.hid hbel
    have l0 := KS.out.lt
    have l1 := K0R.out.lt
    clear hkS hoi hbel bV kV zV OIV OI
    by_cases hlt : n < xs.length
    · obtain ⟨b, off, th, hA, hb, hx, hd, hx0⟩ := VR.out.v.int_ hlt
      simp only at hA
      subst hA
      have hbr : b < wr.heap.size := by omega
      have hi2 : (n : Int) < (xs.length : Int) := by omega
      have Hd := Lib.hid hd
      clear hd hx
      obtain ⟨g, hg⟩ : ∃ g, goB L f th = g := ⟨_, rfl⟩
      have HG := Lib.hid hg
      obtain ⟨E, hE⟩ : ∃ E, doB L (staF L f) th = E := ⟨_, rfl⟩
      have HE := Lib.hid hE
      have hct := fun (V' : World) (B' : Nat) (r0 : PgR V' B' h L) (r1 : StaR V' B' hk (staF L f)) (hB' : B' ≤ V'.heap.size) => spdo_any h L hk (staF L f) th V' B' r0 r1 hB' SP (staF_S L f h32)
      rw [can_sta HP.out hI.out, hg, hE] at hct
      have Hct := Lib.hid hct
      clear hct hg hE
      have allS : ∀ w', Below wr.heap.size wr w' → (Below wr.heap.size wr w' ∧ w'.cell? ⟨w.heap.size, 0, none⟩ = some (.slice h.A L.length h.c) ∧ w'.cell? ⟨w2.heap.size, 0, none⟩ = some (.slice hk.A0 (staF L f).f0.length hk.c0) ∧ w'.cell? ⟨w2.heap.size, 1, none⟩ = some (.slice hk.A1 (staF L f).f1.length hk.c1) ∧ w'.cell? ⟨w2.heap.size, 2, none⟩ = some (.slice hk.A2 (staF L f).f2.length hk.c2) ∧ w'.cell? ⟨w2.heap.size, 3, none⟩ = some (.slice hk.A3 (staF L f).f3.length hk.c3) ∧ w'.cell? ⟨w2.heap.size, 4, none⟩ = some (.slice hk.A4 (staF L f).f4.length hk.c4) ∧ w'.cell? ⟨b, off + n, none⟩ = some (.int .i64 th)) := fun w' hb' => ⟨hb', (K0R.out.below hb' K0R.out.lt).cell 0, (KS.out.below hb' KS.out.lt).cell 0, (KS.out.below hb' KS.out.lt).cell 1, (KS.out.below hb' KS.out.lt).cell 2, (KS.out.below hb' KS.out.lt).cell 3, (KS.out.below hb' KS.out.lt).cell 4, (hb'.cell (p := ⟨b, off + n, none⟩) hbr).trans hx0⟩
      have AllS := Lib.hid allS
      clear allS
      have c_p : wr.cell? ⟨w.heap.size, 0, none⟩ = some (.slice h.A L.length h.c) := K0R.out.cell 0
      have c_s0 : wr.cell? ⟨w2.heap.size, 0, none⟩ = some (.slice hk.A0 (staF L f).f0.length hk.c0) := KS.out.cell 0
      have c_s1 : wr.cell? ⟨w2.heap.size, 1, none⟩ = some (.slice hk.A1 (staF L f).f1.length hk.c1) := KS.out.cell 1
      have c_s2 : wr.cell? ⟨w2.heap.size, 2, none⟩ = some (.slice hk.A2 (staF L f).f2.length hk.c2) := KS.out.cell 2
      have c_s3 : wr.cell? ⟨w2.heap.size, 3, none⟩ = some (.slice hk.A3 (staF L f).f3.length hk.c3) := KS.out.cell 3
      have c_s4 : wr.cell? ⟨w2.heap.size, 4, none⟩ = some (.slice hk.A4 (staF L f).f4.length hk.c4) := KS.out.cell 4
      go_upto_region 7 with (fail)
      go_cut [8, 9] (fun sa sb wx => GotOSta wr E g sa sb wx)
      case first =>
        go_region_held3 (fun w' => Below wr.heap.size wr w' ∧ w'.cell? ⟨w.heap.size, 0, none⟩ = some (.slice h.A L.length h.c) ∧ w'.cell? ⟨w2.heap.size, 0, none⟩ = some (.slice hk.A0 (staF L f).f0.length hk.c0) ∧ w'.cell? ⟨w2.heap.size, 1, none⟩ = some (.slice hk.A1 (staF L f).f1.length hk.c1) ∧ w'.cell? ⟨w2.heap.size, 2, none⟩ = some (.slice hk.A2 (staF L f).f2.length hk.c2) ∧ w'.cell? ⟨w2.heap.size, 3, none⟩ = some (.slice hk.A3 (staF L f).f3.length hk.c3) ∧ w'.cell? ⟨w2.heap.size, 4, none⟩ = some (.slice hk.A4 (staF L f).f4.length hk.c4) ∧ w'.cell? ⟨b, off + n, none⟩ = some (.int .i64 th)) (first | (go_split_ands; exact AllS.out _ (by go_grown)) | (exact AllS.out _ (by go_grown))) (first | (go_at_call 123; go_split_ands; refine (Hct.out _ wr.heap.size (PR.out.up (show Below wr.heap.size wr _ from by go_grown) (by omega) (by omega)) (OS.out.rd.up (show Below wr.heap.size wr _ from by go_grown) (by omega) (by omega)) (show Below wr.heap.size wr _ from by go_grown).size).mono ?_; rintro e vs ⟨hans, rfl, hvs, -, ivs⟩; obtain ⟨hccs, hffs⟩ := bcell hvs; have Iv := Lib.hid ivs; have hBvs : Below wr.heap.size wr vs := below_on (by go_grown) hvs; have hzvs := hvs.size; (try simp at hzvs); have hyvs := hBvs.size; (try (have hsvs : wr.heap.size < vs.heap.size := (by omega))); have kvs := Lib.hid hvs; clear ivs hvs))
        all_goals go_wp2_with fail
        all_goals go_meet
        · refine gotOSta_late ?_ kvs.out Iv.out
          go_grown
        · refine gotOSta_early ?_ (bk_drew (Bk.new wr #[.slice none 0 0, .slice none 0 0, .slice none 0 0, .slice none 0 0, .slice none 0 0] 56)) (Nat.le_refl _) kvs.out Iv.out
          go_grown
      clear AllS Hct c_p c_s0 c_s1 c_s2 c_s3 c_s4 hx0
      obtain ⟨bb, hn', lo', hi', rfl, rfl, hby, hky, hiy, i1, i2, i3, i4, i5, i6⟩ := hcut
      obtain ⟨y, rfl⟩ : ∃ V, V = wc := ⟨_, rfl⟩
      have zy := hby.size
      have HBY := Lib.hid (below_on HB.out hby)
      have K1Y := Lib.hid (K1R.out.below hby K1R.out.lt)
      have KSY := Lib.hid (KS.out.below hby KS.out.lt)
      have BY := Lib.hid (below_on BR.out hby)
      have KY := Lib.hid hky
      have OY := Lib.hid hiy.in_
      clear hby hky hiy
      have HES := HE.out
      rw [do_sta HP.out hI.out, HG.out] at HES
      cases g with
      | false =>
        have hq0 : q = none := by
          have := hrest.out
          rw [Hd.out] at this
          unfold runF at this
          rw [HG.out] at this
          exact this.symm
        subst hq0
        have cr0 : y.cell? ⟨w.heap.size + 1, 0, none⟩ = some (.slice none 0 0) := K1Y.out.cell 0
        have fr0 : y.frozen? ⟨w.heap.size + 1, 0, none⟩ = false := K1Y.out.free 0
        have cr1 : y.cell? ⟨w.heap.size + 1, 1, none⟩ = some (.slice none 0 0) := K1Y.out.cell 1
        have fr1 : y.frozen? ⟨w.heap.size + 1, 1, none⟩ = false := K1Y.out.free 1
        have cr2 : y.cell? ⟨w.heap.size + 1, 2, none⟩ = some (.slice none 0 0) := K1Y.out.cell 2
        have fr2 : y.frozen? ⟨w.heap.size + 1, 2, none⟩ = false := K1Y.out.free 2
        have cr3 : y.cell? ⟨w.heap.size + 1, 3, none⟩ = some (.slice none 0 0) := K1Y.out.cell 3
        have fr3 : y.frozen? ⟨w.heap.size + 1, 3, none⟩ = false := K1Y.out.free 3
        have cr4 : y.cell? ⟨w.heap.size + 1, 4, none⟩ = some (.slice none 0 0) := K1Y.out.cell 4
        have fr4 : y.frozen? ⟨w.heap.size + 1, 4, none⟩ = false := K1Y.out.free 4
        go_wp2
        clear cr0 fr0 cr1 fr1 cr2 fr2 cr3 fr3 cr4 fr4
        have kF : Bk (((((y.setCell ⟨w.heap.size + 1, 0, none⟩ (.slice none 0 0)).setCell ⟨w.heap.size + 1, 1, none⟩ (.slice none 0 0)).setCell ⟨w.heap.size + 1, 2, none⟩ (.slice none 0 0)).setCell ⟨w.heap.size + 1, 3, none⟩ (.slice none 0 0)).setCell ⟨w.heap.size + 1, 4, none⟩ (.slice none 0 0)) (w.heap.size + 1) 56 #[.slice none 0 0, .slice none 0 0, .slice none 0 0, .slice none 0 0, .slice none 0 0] := by
          have a0 := K1Y.out
          have a1 := a0.set 0 (.slice none 0 0)
          have a2 := a1.set 1 (.slice none 0 0)
          have a3 := a2.set 2 (.slice none 0 0)
          have a4 := a3.set 3 (.slice none 0 0)
          have a5 := a4.set 4 (.slice none 0 0)
          simpa using a5
        have bF : Below w.heap.size w (((((y.setCell ⟨w.heap.size + 1, 0, none⟩ (.slice none 0 0)).setCell ⟨w.heap.size + 1, 1, none⟩ (.slice none 0 0)).setCell ⟨w.heap.size + 1, 2, none⟩ (.slice none 0 0)).setCell ⟨w.heap.size + 1, 3, none⟩ (.slice none 0 0)).setCell ⟨w.heap.size + 1, 4, none⟩ (.slice none 0 0)) := (((((BY.out.setCell (p := ⟨w.heap.size + 1, 0, none⟩) (show w.heap.size ≤ w.heap.size + 1 by omega) _).setCell (p := ⟨w.heap.size + 1, 1, none⟩) (show w.heap.size ≤ w.heap.size + 1 by omega) _).setCell (p := ⟨w.heap.size + 1, 2, none⟩) (show w.heap.size ≤ w.heap.size + 1 by omega) _).setCell (p := ⟨w.heap.size + 1, 3, none⟩) (show w.heap.size ≤ w.heap.size + 1 by omega) _).setCell (p := ⟨w.heap.size + 1, 4, none⟩) (show w.heap.size ≤ w.heap.size + 1 by omega) _)
        have nF : ∀ q, w.heap.size + 1 < q → (((((y.setCell ⟨w.heap.size + 1, 0, none⟩ (.slice none 0 0)).setCell ⟨w.heap.size + 1, 1, none⟩ (.slice none 0 0)).setCell ⟨w.heap.size + 1, 2, none⟩ (.slice none 0 0)).setCell ⟨w.heap.size + 1, 3, none⟩ (.slice none 0 0)).setCell ⟨w.heap.size + 1, 4, none⟩ (.slice none 0 0)).heap[q]? = y.heap[q]? := fun q hq => (Below.heap_setCell _ _ _ q (by show q ≠ w.heap.size + 1; omega)).trans ((Below.heap_setCell _ _ _ q (by show q ≠ w.heap.size + 1; omega)).trans ((Below.heap_setCell _ _ _ q (by show q ≠ w.heap.size + 1; omega)).trans ((Below.heap_setCell _ _ _ q (by show q ≠ w.heap.size + 1; omega)).trans (Below.heap_setCell _ _ _ q (by show q ≠ w.heap.size + 1; omega)))))
        have zF : y.heap.size ≤ (((((y.setCell ⟨w.heap.size + 1, 0, none⟩ (.slice none 0 0)).setCell ⟨w.heap.size + 1, 1, none⟩ (.slice none 0 0)).setCell ⟨w.heap.size + 1, 2, none⟩ (.slice none 0 0)).setCell ⟨w.heap.size + 1, 3, none⟩ (.slice none 0 0)).setCell ⟨w.heap.size + 1, 4, none⟩ (.slice none 0 0)).heap.size := by simp
        have HF := Lib.hid kF
        have BF := Lib.hid bF
        have NF := Lib.hid nF
        obtain ⟨F, hF⟩ : ∃ F, F = (((((y.setCell ⟨w.heap.size + 1, 0, none⟩ (.slice none 0 0)).setCell ⟨w.heap.size + 1, 1, none⟩ (.slice none 0 0)).setCell ⟨w.heap.size + 1, 2, none⟩ (.slice none 0 0)).setCell ⟨w.heap.size + 1, 3, none⟩ (.slice none 0 0)).setCell ⟨w.heap.size + 1, 4, none⟩ (.slice none 0 0)) := ⟨_, rfl⟩
        rw [← hF] at HF BF NF zF
        rw [← hF]
        clear kF bF nF hF
        have c0 := HF.out.cell 0
        have c1 := HF.out.cell 1
        have c2 := HF.out.cell 2
        have c3 := HF.out.cell 3
        have c4 := HF.out.cell 4
        simp only [List.getElem?_toArray, List.getElem?_cons_zero, List.getElem?_cons_succ] at c0 c1 c2 c3 c4
        refine bodyPost_ret (v := .tuple #[.agg #[.slice none 0 0, .slice none 0 0, .slice none 0 0, .slice none 0 0, .slice none 0 0], .bool false]) (by simp [results, Try.results76, c0, c1, c2, c3, c4, go_sem]) rfl ?_
        exact ⟨StaN, rfl, BF.out, by omega, StaI.none_ _ _ _ _⟩
      | true =>
        obtain ⟨t, rfl, ht, hc⟩ := goB_parts HG.out
        rw [if_pos rfl, Int.toNat_natCast] at HES
        subst HES
        have HC := Lib.hid hc
        have Hn : Hid (runF L (stepF L f t) (xs.drop (n + 1)) = q) := Lib.hid (by
          have := hrest.out
          rw [Hd.out] at this
          unfold runF at this
          rw [HG.out, if_pos rfl] at this
          exact this)
        clear hc
        have cn0 : y.cell? ⟨bb, 0, none⟩ = some (.slice hn'.A0 (staF L (stepF L f t)).f0.length hn'.c0) := KY.out.cell 0
        have cn1 : y.cell? ⟨bb, 1, none⟩ = some (.slice hn'.A1 (staF L (stepF L f t)).f1.length hn'.c1) := KY.out.cell 1
        have cn2 : y.cell? ⟨bb, 2, none⟩ = some (.slice hn'.A2 (staF L (stepF L f t)).f2.length hn'.c2) := KY.out.cell 2
        have cn3 : y.cell? ⟨bb, 3, none⟩ = some (.slice hn'.A3 (staF L (stepF L f t)).f3.length hn'.c3) := KY.out.cell 3
        have cn4 : y.cell? ⟨bb, 4, none⟩ = some (.slice hn'.A4 (staF L (stepF L f t)).f4.length hn'.c4) := KY.out.cell 4
        have cs0 : y.cell? ⟨w2.heap.size, 0, none⟩ = some (.slice hk.A0 (staF L f).f0.length hk.c0) := KSY.out.cell 0
        have fs0 : y.frozen? ⟨w2.heap.size, 0, none⟩ = false := KSY.out.free 0
        have cs1 : y.cell? ⟨w2.heap.size, 1, none⟩ = some (.slice hk.A1 (staF L f).f1.length hk.c1) := KSY.out.cell 1
        have fs1 : y.frozen? ⟨w2.heap.size, 1, none⟩ = false := KSY.out.free 1
        have cs2 : y.cell? ⟨w2.heap.size, 2, none⟩ = some (.slice hk.A2 (staF L f).f2.length hk.c2) := KSY.out.cell 2
        have fs2 : y.frozen? ⟨w2.heap.size, 2, none⟩ = false := KSY.out.free 2
        have cs3 : y.cell? ⟨w2.heap.size, 3, none⟩ = some (.slice hk.A3 (staF L f).f3.length hk.c3) := KSY.out.cell 3
        have fs3 : y.frozen? ⟨w2.heap.size, 3, none⟩ = false := KSY.out.free 3
        have cs4 : y.cell? ⟨w2.heap.size, 4, none⟩ = some (.slice hk.A4 (staF L f).f4.length hk.c4) := KSY.out.cell 4
        have fs4 : y.frozen? ⟨w2.heap.size, 4, none⟩ = false := KSY.out.free 4
        go_wp2
        clear cn0 cs0 fs0 cn1 cs1 fs1 cn2 cs2 fs2 cn3 cs3 fs3 cn4 cs4 fs4
        have kF : Bk (((((y.setCell ⟨w2.heap.size, 0, none⟩ (.slice hn'.A0 (staF L (stepF L f t)).f0.length hn'.c0)).setCell ⟨w2.heap.size, 1, none⟩ (.slice hn'.A1 (staF L (stepF L f t)).f1.length hn'.c1)).setCell ⟨w2.heap.size, 2, none⟩ (.slice hn'.A2 (staF L (stepF L f t)).f2.length hn'.c2)).setCell ⟨w2.heap.size, 3, none⟩ (.slice hn'.A3 (staF L (stepF L f t)).f3.length hn'.c3)).setCell ⟨w2.heap.size, 4, none⟩ (.slice hn'.A4 (staF L (stepF L f t)).f4.length hn'.c4)) (w2.heap.size) 56 #[.slice hn'.A0 (staF L (stepF L f t)).f0.length hn'.c0, .slice hn'.A1 (staF L (stepF L f t)).f1.length hn'.c1, .slice hn'.A2 (staF L (stepF L f t)).f2.length hn'.c2, .slice hn'.A3 (staF L (stepF L f t)).f3.length hn'.c3, .slice hn'.A4 (staF L (stepF L f t)).f4.length hn'.c4] := by
          have a0 := KSY.out
          have a1 := a0.set 0 (.slice hn'.A0 (staF L (stepF L f t)).f0.length hn'.c0)
          have a2 := a1.set 1 (.slice hn'.A1 (staF L (stepF L f t)).f1.length hn'.c1)
          have a3 := a2.set 2 (.slice hn'.A2 (staF L (stepF L f t)).f2.length hn'.c2)
          have a4 := a3.set 3 (.slice hn'.A3 (staF L (stepF L f t)).f3.length hn'.c3)
          have a5 := a4.set 4 (.slice hn'.A4 (staF L (stepF L f t)).f4.length hn'.c4)
          simpa using a5
        have bF : Below w2.heap.size w2 (((((y.setCell ⟨w2.heap.size, 0, none⟩ (.slice hn'.A0 (staF L (stepF L f t)).f0.length hn'.c0)).setCell ⟨w2.heap.size, 1, none⟩ (.slice hn'.A1 (staF L (stepF L f t)).f1.length hn'.c1)).setCell ⟨w2.heap.size, 2, none⟩ (.slice hn'.A2 (staF L (stepF L f t)).f2.length hn'.c2)).setCell ⟨w2.heap.size, 3, none⟩ (.slice hn'.A3 (staF L (stepF L f t)).f3.length hn'.c3)).setCell ⟨w2.heap.size, 4, none⟩ (.slice hn'.A4 (staF L (stepF L f t)).f4.length hn'.c4)) := (((((HBY.out.setCell (p := ⟨w2.heap.size, 0, none⟩) (show w2.heap.size ≤ w2.heap.size by omega) _).setCell (p := ⟨w2.heap.size, 1, none⟩) (show w2.heap.size ≤ w2.heap.size by omega) _).setCell (p := ⟨w2.heap.size, 2, none⟩) (show w2.heap.size ≤ w2.heap.size by omega) _).setCell (p := ⟨w2.heap.size, 3, none⟩) (show w2.heap.size ≤ w2.heap.size by omega) _).setCell (p := ⟨w2.heap.size, 4, none⟩) (show w2.heap.size ≤ w2.heap.size by omega) _)
        have nF : ∀ q, w2.heap.size < q → (((((y.setCell ⟨w2.heap.size, 0, none⟩ (.slice hn'.A0 (staF L (stepF L f t)).f0.length hn'.c0)).setCell ⟨w2.heap.size, 1, none⟩ (.slice hn'.A1 (staF L (stepF L f t)).f1.length hn'.c1)).setCell ⟨w2.heap.size, 2, none⟩ (.slice hn'.A2 (staF L (stepF L f t)).f2.length hn'.c2)).setCell ⟨w2.heap.size, 3, none⟩ (.slice hn'.A3 (staF L (stepF L f t)).f3.length hn'.c3)).setCell ⟨w2.heap.size, 4, none⟩ (.slice hn'.A4 (staF L (stepF L f t)).f4.length hn'.c4)).heap[q]? = y.heap[q]? := fun q hq => (Below.heap_setCell _ _ _ q (by show q ≠ w2.heap.size; omega)).trans ((Below.heap_setCell _ _ _ q (by show q ≠ w2.heap.size; omega)).trans ((Below.heap_setCell _ _ _ q (by show q ≠ w2.heap.size; omega)).trans ((Below.heap_setCell _ _ _ q (by show q ≠ w2.heap.size; omega)).trans (Below.heap_setCell _ _ _ q (by show q ≠ w2.heap.size; omega)))))
        have zF : y.heap.size ≤ (((((y.setCell ⟨w2.heap.size, 0, none⟩ (.slice hn'.A0 (staF L (stepF L f t)).f0.length hn'.c0)).setCell ⟨w2.heap.size, 1, none⟩ (.slice hn'.A1 (staF L (stepF L f t)).f1.length hn'.c1)).setCell ⟨w2.heap.size, 2, none⟩ (.slice hn'.A2 (staF L (stepF L f t)).f2.length hn'.c2)).setCell ⟨w2.heap.size, 3, none⟩ (.slice hn'.A3 (staF L (stepF L f t)).f3.length hn'.c3)).setCell ⟨w2.heap.size, 4, none⟩ (.slice hn'.A4 (staF L (stepF L f t)).f4.length hn'.c4)).heap.size := by simp
        have HF := Lib.hid kF
        have BF := Lib.hid bF
        have NF := Lib.hid nF
        obtain ⟨F, hF⟩ : ∃ F, F = (((((y.setCell ⟨w2.heap.size, 0, none⟩ (.slice hn'.A0 (staF L (stepF L f t)).f0.length hn'.c0)).setCell ⟨w2.heap.size, 1, none⟩ (.slice hn'.A1 (staF L (stepF L f t)).f1.length hn'.c1)).setCell ⟨w2.heap.size, 2, none⟩ (.slice hn'.A2 (staF L (stepF L f t)).f2.length hn'.c2)).setCell ⟨w2.heap.size, 3, none⟩ (.slice hn'.A3 (staF L (stepF L f t)).f3.length hn'.c3)).setCell ⟨w2.heap.size, 4, none⟩ (.slice hn'.A4 (staF L (stepF L f t)).f4.length hn'.c4)) := ⟨_, rfl⟩
        rw [← hF] at HF BF NF zF
        rw [← hF]
        clear kF bF nF hF
        have c0 := HF.out.cell 0
        have c1 := HF.out.cell 1
        have c2 := HF.out.cell 2
        have c3 := HF.out.cell 3
        have c4 := HF.out.cell 4
        simp only [List.getElem?_toArray, List.getElem?_cons_zero, List.getElem?_cons_succ] at c0 c1 c2 c3 c4
        clear c0 c1 c2 c3 c4
        go_roundw
        case rel => exact ⟨n + 1, stepF L f t, hn', lo', hi', by omega, by go_num, BF.out, HF.out, OY.out.keep (Nat.le_refl _) (Nat.le_refl _) (fun q0 h1 h2 => NF.out q0 (by omega)), by omega, i2, by omega, Or.inr (by omega), Lib.hid (inv_step HP.out hI.out ht HC.out), Hn⟩
        case measure => simp [intOf]; omega
    · have hq0 : q = some f := by
        have := hrest.out
        rw [List.drop_eq_nil_of_le (by omega)] at this
        unfold runF at this
        exact this.symm
      subst hq0

      have cs0 : wr.cell? ⟨w2.heap.size, 0, none⟩ = some (.slice hk.A0 (staF L f).f0.length hk.c0) := KS.out.cell 0
      have cs1 : wr.cell? ⟨w2.heap.size, 1, none⟩ = some (.slice hk.A1 (staF L f).f1.length hk.c1) := KS.out.cell 1
      have cs2 : wr.cell? ⟨w2.heap.size, 2, none⟩ = some (.slice hk.A2 (staF L f).f2.length hk.c2) := KS.out.cell 2
      have cs3 : wr.cell? ⟨w2.heap.size, 3, none⟩ = some (.slice hk.A3 (staF L f).f3.length hk.c3) := KS.out.cell 3
      have cs4 : wr.cell? ⟨w2.heap.size, 4, none⟩ = some (.slice hk.A4 (staF L f).f4.length hk.c4) := KS.out.cell 4
      have cr0 : wr.cell? ⟨w.heap.size + 1, 0, none⟩ = some (.slice none 0 0) := K1R.out.cell 0
      have fr0 : wr.frozen? ⟨w.heap.size + 1, 0, none⟩ = false := K1R.out.free 0
      have cr1 : wr.cell? ⟨w.heap.size + 1, 1, none⟩ = some (.slice none 0 0) := K1R.out.cell 1
      have fr1 : wr.frozen? ⟨w.heap.size + 1, 1, none⟩ = false := K1R.out.free 1
      have cr2 : wr.cell? ⟨w.heap.size + 1, 2, none⟩ = some (.slice none 0 0) := K1R.out.cell 2
      have fr2 : wr.frozen? ⟨w.heap.size + 1, 2, none⟩ = false := K1R.out.free 2
      have cr3 : wr.cell? ⟨w.heap.size + 1, 3, none⟩ = some (.slice none 0 0) := K1R.out.cell 3
      have fr3 : wr.frozen? ⟨w.heap.size + 1, 3, none⟩ = false := K1R.out.free 3
      have cr4 : wr.cell? ⟨w.heap.size + 1, 4, none⟩ = some (.slice none 0 0) := K1R.out.cell 4
      have fr4 : wr.frozen? ⟨w.heap.size + 1, 4, none⟩ = false := K1R.out.free 4
      go_wp2
      clear cs0 cs1 cs2 cs3 cs4
      clear cr0 fr0 cr1 fr1 cr2 fr2 cr3 fr3 cr4 fr4
      have kF : Bk (((((wr.setCell ⟨w.heap.size + 1, 0, none⟩ (.slice hk.A0 (staF L f).f0.length hk.c0)).setCell ⟨w.heap.size + 1, 1, none⟩ (.slice hk.A1 (staF L f).f1.length hk.c1)).setCell ⟨w.heap.size + 1, 2, none⟩ (.slice hk.A2 (staF L f).f2.length hk.c2)).setCell ⟨w.heap.size + 1, 3, none⟩ (.slice hk.A3 (staF L f).f3.length hk.c3)).setCell ⟨w.heap.size + 1, 4, none⟩ (.slice hk.A4 (staF L f).f4.length hk.c4)) (w.heap.size + 1) 56 #[.slice hk.A0 (staF L f).f0.length hk.c0, .slice hk.A1 (staF L f).f1.length hk.c1, .slice hk.A2 (staF L f).f2.length hk.c2, .slice hk.A3 (staF L f).f3.length hk.c3, .slice hk.A4 (staF L f).f4.length hk.c4] := by
        have a0 := K1R.out
        have a1 := a0.set 0 (.slice hk.A0 (staF L f).f0.length hk.c0)
        have a2 := a1.set 1 (.slice hk.A1 (staF L f).f1.length hk.c1)
        have a3 := a2.set 2 (.slice hk.A2 (staF L f).f2.length hk.c2)
        have a4 := a3.set 3 (.slice hk.A3 (staF L f).f3.length hk.c3)
        have a5 := a4.set 4 (.slice hk.A4 (staF L f).f4.length hk.c4)
        simpa using a5
      have bF : Below w.heap.size w (((((wr.setCell ⟨w.heap.size + 1, 0, none⟩ (.slice hk.A0 (staF L f).f0.length hk.c0)).setCell ⟨w.heap.size + 1, 1, none⟩ (.slice hk.A1 (staF L f).f1.length hk.c1)).setCell ⟨w.heap.size + 1, 2, none⟩ (.slice hk.A2 (staF L f).f2.length hk.c2)).setCell ⟨w.heap.size + 1, 3, none⟩ (.slice hk.A3 (staF L f).f3.length hk.c3)).setCell ⟨w.heap.size + 1, 4, none⟩ (.slice hk.A4 (staF L f).f4.length hk.c4)) := (((((BR.out.setCell (p := ⟨w.heap.size + 1, 0, none⟩) (show w.heap.size ≤ w.heap.size + 1 by omega) _).setCell (p := ⟨w.heap.size + 1, 1, none⟩) (show w.heap.size ≤ w.heap.size + 1 by omega) _).setCell (p := ⟨w.heap.size + 1, 2, none⟩) (show w.heap.size ≤ w.heap.size + 1 by omega) _).setCell (p := ⟨w.heap.size + 1, 3, none⟩) (show w.heap.size ≤ w.heap.size + 1 by omega) _).setCell (p := ⟨w.heap.size + 1, 4, none⟩) (show w.heap.size ≤ w.heap.size + 1 by omega) _)
      have nF : ∀ q, w.heap.size + 1 < q → (((((wr.setCell ⟨w.heap.size + 1, 0, none⟩ (.slice hk.A0 (staF L f).f0.length hk.c0)).setCell ⟨w.heap.size + 1, 1, none⟩ (.slice hk.A1 (staF L f).f1.length hk.c1)).setCell ⟨w.heap.size + 1, 2, none⟩ (.slice hk.A2 (staF L f).f2.length hk.c2)).setCell ⟨w.heap.size + 1, 3, none⟩ (.slice hk.A3 (staF L f).f3.length hk.c3)).setCell ⟨w.heap.size + 1, 4, none⟩ (.slice hk.A4 (staF L f).f4.length hk.c4)).heap[q]? = wr.heap[q]? := fun q hq => (Below.heap_setCell _ _ _ q (by show q ≠ w.heap.size + 1; omega)).trans ((Below.heap_setCell _ _ _ q (by show q ≠ w.heap.size + 1; omega)).trans ((Below.heap_setCell _ _ _ q (by show q ≠ w.heap.size + 1; omega)).trans ((Below.heap_setCell _ _ _ q (by show q ≠ w.heap.size + 1; omega)).trans (Below.heap_setCell _ _ _ q (by show q ≠ w.heap.size + 1; omega)))))
      have zF : wr.heap.size ≤ (((((wr.setCell ⟨w.heap.size + 1, 0, none⟩ (.slice hk.A0 (staF L f).f0.length hk.c0)).setCell ⟨w.heap.size + 1, 1, none⟩ (.slice hk.A1 (staF L f).f1.length hk.c1)).setCell ⟨w.heap.size + 1, 2, none⟩ (.slice hk.A2 (staF L f).f2.length hk.c2)).setCell ⟨w.heap.size + 1, 3, none⟩ (.slice hk.A3 (staF L f).f3.length hk.c3)).setCell ⟨w.heap.size + 1, 4, none⟩ (.slice hk.A4 (staF L f).f4.length hk.c4)).heap.size := by simp
      have HF := Lib.hid kF
      have BF := Lib.hid bF
      have NF := Lib.hid nF
      obtain ⟨F, hF⟩ : ∃ F, F = (((((wr.setCell ⟨w.heap.size + 1, 0, none⟩ (.slice hk.A0 (staF L f).f0.length hk.c0)).setCell ⟨w.heap.size + 1, 1, none⟩ (.slice hk.A1 (staF L f).f1.length hk.c1)).setCell ⟨w.heap.size + 1, 2, none⟩ (.slice hk.A2 (staF L f).f2.length hk.c2)).setCell ⟨w.heap.size + 1, 3, none⟩ (.slice hk.A3 (staF L f).f3.length hk.c3)).setCell ⟨w.heap.size + 1, 4, none⟩ (.slice hk.A4 (staF L f).f4.length hk.c4)) := ⟨_, rfl⟩
      rw [← hF] at HF BF NF zF
      rw [← hF]
      clear kF bF nF hF
      have c0 := HF.out.cell 0
      have c1 := HF.out.cell 1
      have c2 := HF.out.cell 2
      have c3 := HF.out.cell 3
      have c4 := HF.out.cell 4
      simp only [List.getElem?_toArray, List.getElem?_cons_zero, List.getElem?_cons_succ] at c0 c1 c2 c3 c4
      refine bodyPost_ret (v := .tuple #[.agg #[.slice hk.A0 (staF L f).f0.length hk.c0, .slice hk.A1 (staF L f).f1.length hk.c1, .slice hk.A2 (staF L f).f2.length hk.c2, .slice hk.A3 (staF L f).f3.length hk.c3, .slice hk.A4 (staF L f).f4.length hk.c4], .bool true]) (by simp [results, Try.results76, c0, c1, c2, c3, c4, go_sem]) rfl ?_
      exact ⟨hk, rfl, BF.out, by omega, OS.out.keep (by omega) (by omega) fun q0 h1 h2 => NF.out q0 (by omega)⟩
end Go.Proofs.Ytakadejpgndhpaa
