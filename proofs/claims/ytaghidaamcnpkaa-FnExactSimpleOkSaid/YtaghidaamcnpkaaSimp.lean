/-
  SimpleOk, the program's and the reference model's: each comes to the same plain function, and makes memory alone.
-/
import Derived.Test.YtaghidaamcnpkaaSpecOk
import Derived.Test.YtaghidaamcnpkaaPlainD
import Derived.Test.YtaghidaamcnpkaaOrd
import Derived.Test.YtaghidaamcnpkaaPg
namespace Go.Proofs.Ytaghidaamcnpkaa
open Go.RowKit Pl
set_option maxHeartbeats 4000000
set_option maxRecDepth 100000
set_option linter.unusedVariables false

/-- Whether a statement is one of registers or places. -/
def plcB (x : Sm) : Bool := decide (0 ≤ placeZ x.k x.a x.b x.c x.s)
def simO (x : Sm) : Bool := plcB x || (x.k == 0 || x.k == 10)
def simN (xs : List Sm) : Nat := (xs.filter plcB).length
def simT (L : Pg) : Nat := (L.map simN).sum
def simB (L : Pg) : Bool := L.all (fun xs => xs.all simO) && (progB L && decide (simT L ≤ 5))
theorem simN_cons (x : Sm) (xs : List Sm) : simN (x :: xs) = (if plcB x = true then 1 else 0) + simN xs := by
  unfold simN
  rw [List.filter_cons]
  split <;> simp <;> omega
theorem simN_le (xs : List Sm) : simN xs ≤ xs.length := List.length_filter_le _ _
theorem simT_cons (xs : List Sm) (L : Pg) : simT (xs :: L) = simN xs + simT L := by simp [simT]
theorem simO_plc {x : Sm} {p : Nat} (h : placeZ x.k x.a x.b x.c x.s = (p : Int)) : plcB x = true ∧ simO x = true := by
  have : plcB x = true := by unfold plcB; rw [h]; exact decide_eq_true (by omega)
  exact ⟨this, by unfold simO; rw [this]; rfl⟩
theorem simO_no {x : Sm} (h : placeZ x.k x.a x.b x.c x.s < 0) : plcB x = false ∧ simO x = (x.k == 0 || x.k == 10) := by
  have : plcB x = false := by unfold plcB; exact decide_eq_false (by omega)
  exact ⟨this, by unfold simO; rw [this]; rfl⟩
theorem place_two (x : Sm) : placeZ x.k x.a x.b x.c x.s = -1 ∨ ∃ p : Nat, p < 3 ∧ placeZ x.k x.a x.b x.c x.s = (p : Int) := by
  obtain ⟨q, hq, -, -, -⟩ := way x.k x.a x.b x.c x.s
  rw [hq]
  by_cases h : q.val < 6
  · exact Or.inr ⟨q.val % 3, Nat.mod_lt _ (by decide), by unfold qP; rw [if_pos h]⟩
  · exact Or.inl (by unfold qP; rw [if_neg h])
theorem isimple_any (h : PgH) (L : Pg) (w : World) (B : Nat) (hP : PgR w B h L) (hB : B ≤ w.heap.size) (SP : PgS L) (r : Bool) (hr : Hid (simB L = r)) :
    Calls Try.prog 9 #[PgV h L] w fun e w' => e = .returned (.bool r) ∧ Below w.heap.size w w' := by
  have hl := SP.l
  have HE := Lib.hid SP.e
  obtain ⟨W, hW⟩ : ∃ W, W = w.alloc (.cells #[.slice h.A L.length h.c] 29) := ⟨_, rfl⟩
  have bW : Below w.heap.size w W := by rw [hW]; go_grown
  have sW : W.heap.size = w.heap.size + 1 := by rw [hW]; simp
  have kW : Bk W w.heap.size 29 #[.slice h.A L.length h.c] := by rw [hW]; exact Bk.new _ _ _
  have BW := Lib.hid bW
  have KW := Lib.hid kW
  have HR := Lib.hid (hP.below bW hB)
  have hBW : B ≤ W.heap.size := by omega
  have HW := Lib.hid hW
  obtain ⟨g, hg⟩ : ∃ g, progB L = g := ⟨_, rfl⟩
  have HG := Lib.hid hg
  have hfin : Hid ((L.all (fun xs => xs.all simO) && (g && decide (0 + simT L ≤ 5))) = r) := Lib.hid (by rw [← hr.out, simB, hg, Nat.zero_add])
  clear hW bW kW hP hr hg
  have c0 : W.cell? ⟨w.heap.size, 0, none⟩ = some (.slice h.A L.length h.c) := KW.out.cell 0
  have l0 := KW.out.lt
  cases g
  · have HF : Hid (r = false) := Lib.hid (by rw [← hfin.out]; simp)
    clear hfin
    go_enter Try.func9, Try.ntmps9
    go_wp2_with (rw [← HW.out])
    refine (iprog_any h.A L h.c W B HR.out (by omega) (by unfold maxLen; omega) false HG).mono ?_
    rintro e w1 ⟨rfl, hb1⟩
    have B1 := Lib.hid (below_on BW.out hb1)
    clear hb1 c0
    go_wp2
    go_ret
    exact ⟨by rw [HF.out]; rfl, B1.out⟩
  go_enter Try.func9, Try.ntmps9
  go_wp2_with (rw [← HW.out])
  refine (iprog_any h.A L h.c W B HR.out (by omega) (by unfold maxLen; omega) true HG).mono ?_
  rintro e w1 ⟨rfl, hb1⟩
  have B1 := Lib.hid (below_on BW.out hb1)
  have z1 := hb1.size
  have R1 := Lib.hid (HR.out.below hb1 (by omega))
  have K1 := Lib.hid (KW.out.below hb1 KW.out.lt)
  clear hb1 c0 l0
  have c0 : w1.cell? ⟨w.heap.size, 0, none⟩ = some (.slice h.A L.length h.c) := K1.out.cell 0
  have l0 := K1.out.lt
  go_wp2_with fail
  clear c0 l0
  go_loopw [3, 14] (fun t i wr => ∃ k s : Nat, k ≤ L.length ∧ i = .int .i64 k ∧ t = .int .i64 s ∧ s ≤ 1048576 * k ∧ Below w1.heap.size w1 wr ∧ Hid (((L.drop k).all (fun xs => xs.all simO) && (true && decide (s + simT (L.drop k) ≤ 5))) = r)) (fun _ i _ => L.length - (intOf i).toNat)
  case atStart => exact ⟨0, 0, Nat.zero_le _, rfl, rfl, by omega, Below.refl _ _, by simpa using hfin⟩
  case round =>
    obtain ⟨k, s, hk, rfl, rfl, hs6, hbel, hrest⟩ := hrel
    clear hfin
    have hz := hbel.size
    have Kr := Lib.hid (K1.out.below hbel K1.out.lt)
    have cr : wr.cell? ⟨w.heap.size, 0, none⟩ = some (.slice h.A L.length h.c) := Kr.out.cell 0
    have lr := Kr.out.lt
    by_cases hlt : k < L.length
    · obtain ⟨b, off, xs, Ai, ci, hA, hb, hx, hd, hx0, hlx, hmx, hrow⟩ := (R1.out.below hbel (by omega)).at_ hlt
      have hxl : xs.length ≤ 1048576 := HE.out xs (List.mem_of_getElem? hx)
      have hki : (k : Int) < (L.length : Int) := by omega
      obtain ⟨R, hR⟩ : ∃ R, (L.drop (k + 1)).all (fun xs => xs.all simO) = R := ⟨_, rfl⟩
      obtain ⟨T, hT⟩ : ∃ T, simT (L.drop (k + 1)) = T := ⟨_, rfl⟩
      have hrest2 : Hid (((xs.drop 0).all simO && (R && (true && decide (s + simN (xs.drop 0) + T ≤ 5)))) = r) := Lib.hid (by
        have := hrest.out
        rw [hd, List.all_cons, simT_cons, hR, hT, ← Nat.add_assoc] at this
        rw [← this, Bool.and_assoc]; rfl)
      have HRR := Lib.hid hR
      have HTT := Lib.hid hT
      have hbw : b < wr.heap.size := by omega
      have Rw := Lib.hid hrow
      have Hb := Lib.hid hbel
      clear hd hx hrest hR hT hrow hbel
      rw [hA]
      clear hA cr
      go_wp2_with fail
      obtain ⟨wo, rfl⟩ : ∃ wo : World, wo = wr := ⟨_, rfl⟩
      go_loopw [3, 20] (fun t j w2 => ∃ m s2 : Nat, m ≤ xs.length ∧ j = .int .i64 m ∧ t = .int .i64 s2 ∧ s2 ≤ 1048576 * k + m ∧ Below wo.heap.size wo w2 ∧ Hid (((xs.drop m).all simO && (R && (true && decide (s2 + simN (xs.drop m) + T ≤ 5)))) = r)) (fun _ j _ => xs.length - (intOf j).toNat)
      case atStart => exact ⟨0, s, Nat.zero_le _, rfl, rfl, by omega, Below.refl _ _, hrest2⟩
      case round =>
        obtain ⟨m, s2, hm, rfl, rfl, hs7, hb2, hrest3⟩ := hrel
        clear hrest2
        have hz2 := hb2.size
        have cx : wr.cell? ⟨b, off + k, none⟩ = some (.slice Ai xs.length ci) := (hb2.cell (p := ⟨b, off + k, none⟩) hbw).trans hx0
        by_cases hlm : m < xs.length
        · obtain ⟨b', off', x, hA', hb', hx', hd', hx0', hx1', hx2', hx3', hx4'⟩ := (Rw.out.below hb2 (by omega)).at_ hlm
          have hmi : (m : Int) < (xs.length : Int) := by omega
          have hb2w : b' < wr.heap.size := by omega
          have Hd' := Lib.hid hd'
          have Hb2 := Lib.hid hb2
          subst hA'
          clear hd' hx' hx0 hb2
          rcases place_two x with hp | ⟨p, hp3, hp⟩
          · obtain ⟨e1, e2⟩ := simO_no (x := x) (by rw [hp]; decide)
            obtain ⟨q, a, b1, c1, s1⟩ := x
            dsimp only at hp hx0' hx1' hx2' hx3' hx4' e2
            have hc : q = 0 ∨ q = 10 ∨ (¬ q = 0 ∧ ¬ q = 10) := by omega
            rcases hc with rfl | rfl | ⟨h0, h1⟩
            · replace e2 : simO ⟨0, a, b1, c1, s1⟩ = true := e2
              have HPL := Lib.hid (fun (V : World) => show Calls Try.prog 23 #[.agg #[.int .i64 0, .int .i64 a, .int .i64 b1, .int .i64 c1, .bool s1]] V fun e w' => e = .returned (.int .i64 (-1)) ∧ Below V.heap.size V w' by
                have := iplace_any 0 a b1 c1 s1 V
                rw [hp] at this
                exact this)
              go_wp2_with fail
              refine (HPL.out _).mono ?_
              rintro e w3 ⟨rfl, hb3⟩
              have KX := Lib.hid (show Bk w3 wr.heap.size 46 #[.int .i64 0, .int .i64 a, .int .i64 b1, .int .i64 c1, .bool s1] from (Bk.new wr #[.int .i64 0, .int .i64 a, .int .i64 b1, .int .i64 c1, .bool s1] 46).below hb3 (by simp))
              have bA : Below wr.heap.size wr (wr.alloc (.cells #[.int .i64 0, .int .i64 a, .int .i64 b1, .int .i64 c1, .bool s1] 46)) := (Below.refl _ _).alloc (Nat.le_refl _) _
              have B3 := Lib.hid (Hb2.out.trans ((bA.trans (hb3.mono bA.size)).mono hz2))
              have z3 := (bA.trans (hb3.mono bA.size)).size
              have st0 : w3.cell? ⟨wr.heap.size, 0, none⟩ = some (.int .i64 0) := KX.out.cell 0
              have st1 : w3.cell? ⟨wr.heap.size, 1, none⟩ = some (.int .i64 a) := KX.out.cell 1
              have st2 : w3.cell? ⟨wr.heap.size, 2, none⟩ = some (.int .i64 b1) := KX.out.cell 2
              have st3 : w3.cell? ⟨wr.heap.size, 3, none⟩ = some (.int .i64 c1) := KX.out.cell 3
              have st4 : w3.cell? ⟨wr.heap.size, 4, none⟩ = some (.bool s1) := KX.out.cell 4
              have lx := KX.out.lt
              clear hb3 bA
              have HFG := Lib.hid (fun (V : World) => show Calls Try.prog 24 #[.bool false] V fun e w' => e = .returned (.int .i64 0) ∧ w' = V from figure_any false V)
              go_wp2_with fail
              refine (HPL.out _).mono ?_
              rintro e w4 ⟨rfl, hb4⟩
              have B4 := Lib.hid (below_on B3.out hb4)
              have z4 := hb4.size
              clear hb4 st0 st1 st2 st3 st4 lx
              go_wp2_with (go_at_call 24; refine (HFG.out _).mono ?_; rintro e w' ⟨rfl, rfl⟩)
              go_roundw
              case rel => exact ⟨m + 1, s2 + 0, by omega, by go_num, by go_num, by omega, B4.out, Lib.hid (by
                have := hrest3.out
                rw [Hd'.out, List.all_cons, e2, simN_cons, e1] at this
                rw [← this]; simp [Nat.add_assoc])⟩
              case measure => simp [intOf]; omega
            · replace e2 : simO ⟨10, a, b1, c1, s1⟩ = true := e2
              have HPL := Lib.hid (fun (V : World) => show Calls Try.prog 23 #[.agg #[.int .i64 10, .int .i64 a, .int .i64 b1, .int .i64 c1, .bool s1]] V fun e w' => e = .returned (.int .i64 (-1)) ∧ Below V.heap.size V w' by
                have := iplace_any 10 a b1 c1 s1 V
                rw [hp] at this
                exact this)
              go_wp2_with fail
              refine (HPL.out _).mono ?_
              rintro e w3 ⟨rfl, hb3⟩
              have KX := Lib.hid (show Bk w3 wr.heap.size 46 #[.int .i64 10, .int .i64 a, .int .i64 b1, .int .i64 c1, .bool s1] from (Bk.new wr #[.int .i64 10, .int .i64 a, .int .i64 b1, .int .i64 c1, .bool s1] 46).below hb3 (by simp))
              have bA : Below wr.heap.size wr (wr.alloc (.cells #[.int .i64 10, .int .i64 a, .int .i64 b1, .int .i64 c1, .bool s1] 46)) := (Below.refl _ _).alloc (Nat.le_refl _) _
              have B3 := Lib.hid (Hb2.out.trans ((bA.trans (hb3.mono bA.size)).mono hz2))
              have z3 := (bA.trans (hb3.mono bA.size)).size
              have st0 : w3.cell? ⟨wr.heap.size, 0, none⟩ = some (.int .i64 10) := KX.out.cell 0
              have st1 : w3.cell? ⟨wr.heap.size, 1, none⟩ = some (.int .i64 a) := KX.out.cell 1
              have st2 : w3.cell? ⟨wr.heap.size, 2, none⟩ = some (.int .i64 b1) := KX.out.cell 2
              have st3 : w3.cell? ⟨wr.heap.size, 3, none⟩ = some (.int .i64 c1) := KX.out.cell 3
              have st4 : w3.cell? ⟨wr.heap.size, 4, none⟩ = some (.bool s1) := KX.out.cell 4
              have lx := KX.out.lt
              clear hb3 bA
              have HFG := Lib.hid (fun (V : World) => show Calls Try.prog 24 #[.bool false] V fun e w' => e = .returned (.int .i64 0) ∧ w' = V from figure_any false V)
              go_wp2_with fail
              refine (HPL.out _).mono ?_
              rintro e w4 ⟨rfl, hb4⟩
              have B4 := Lib.hid (below_on B3.out hb4)
              have z4 := hb4.size
              clear hb4 st0 st1 st2 st3 st4 lx
              go_wp2_with (go_at_call 24; refine (HFG.out _).mono ?_; rintro e w' ⟨rfl, rfl⟩)
              go_roundw
              case rel => exact ⟨m + 1, s2 + 0, by omega, by go_num, by go_num, by omega, B4.out, Lib.hid (by
                have := hrest3.out
                rw [Hd'.out, List.all_cons, e2, simN_cons, e1] at this
                rw [← this]; simp [Nat.add_assoc])⟩
              case measure => simp [intOf]; omega
            · replace e2 : simO ⟨q, a, b1, c1, s1⟩ = false := by rw [e2, beq_eq_false_iff_ne.2 h0, beq_eq_false_iff_ne.2 h1]; rfl
              have g0 : (q == 0) = false := beq_eq_false_iff_ne.2 h0
              have g1 : (q == 10) = false := beq_eq_false_iff_ne.2 h1
              have n0 : (q != 0) = true := by rw [bne, g0]; rfl
              have n1 : (q != 10) = true := by rw [bne, g1]; rfl
              have HPL := Lib.hid (fun (V : World) => show Calls Try.prog 23 #[.agg #[.int .i64 q, .int .i64 a, .int .i64 b1, .int .i64 c1, .bool s1]] V fun e w' => e = .returned (.int .i64 (-1)) ∧ Below V.heap.size V w' by
                have := iplace_any q a b1 c1 s1 V
                rw [hp] at this
                exact this)
              go_wp2_with fail
              refine (HPL.out _).mono ?_
              rintro e w3 ⟨rfl, hb3⟩
              have KX := Lib.hid (show Bk w3 wr.heap.size 46 #[.int .i64 q, .int .i64 a, .int .i64 b1, .int .i64 c1, .bool s1] from (Bk.new wr #[.int .i64 q, .int .i64 a, .int .i64 b1, .int .i64 c1, .bool s1] 46).below hb3 (by simp))
              have bA : Below wr.heap.size wr (wr.alloc (.cells #[.int .i64 q, .int .i64 a, .int .i64 b1, .int .i64 c1, .bool s1] 46)) := (Below.refl _ _).alloc (Nat.le_refl _) _
              have B3 := Lib.hid (Hb2.out.trans ((bA.trans (hb3.mono bA.size)).mono hz2))
              have z3 := (bA.trans (hb3.mono bA.size)).size
              have st0 : w3.cell? ⟨wr.heap.size, 0, none⟩ = some (.int .i64 q) := KX.out.cell 0
              have st1 : w3.cell? ⟨wr.heap.size, 1, none⟩ = some (.int .i64 a) := KX.out.cell 1
              have st2 : w3.cell? ⟨wr.heap.size, 2, none⟩ = some (.int .i64 b1) := KX.out.cell 2
              have st3 : w3.cell? ⟨wr.heap.size, 3, none⟩ = some (.int .i64 c1) := KX.out.cell 3
              have st4 : w3.cell? ⟨wr.heap.size, 4, none⟩ = some (.bool s1) := KX.out.cell 4
              have lx := KX.out.lt
              clear hb3 bA
              dsimp only
              go_wp2
              go_ret
              refine ⟨?_, below_on B1.out (below_on Hb.out B3.out)⟩
              have := hrest3.out
              rw [Hd'.out, List.all_cons, e2] at this
              rw [← this]; rfl
          · obtain ⟨e1, e2⟩ := simO_plc hp
            obtain ⟨q, a, b1, c1, s1⟩ := x
            dsimp only at hp hx0' hx1' hx2' hx3' hx4'
            have hq : q = q := rfl
            have g0 : ((p : Int) == -1) = false := beq_eq_false_iff_ne.2 (by omega)
            have g1 : (0 : Int) ≤ (p : Int) := by omega
            have HPL := Lib.hid (fun (V : World) => show Calls Try.prog 23 #[.agg #[.int .i64 q, .int .i64 a, .int .i64 b1, .int .i64 c1, .bool s1]] V fun e w' => e = .returned (.int .i64 p) ∧ Below V.heap.size V w' by
              have := iplace_any q a b1 c1 s1 V
              rw [hp] at this
              exact this)
            go_wp2_with fail
            refine (HPL.out _).mono ?_
            rintro e w3 ⟨rfl, hb3⟩
            have KX := Lib.hid (show Bk w3 wr.heap.size 46 #[.int .i64 q, .int .i64 a, .int .i64 b1, .int .i64 c1, .bool s1] from (Bk.new wr #[.int .i64 q, .int .i64 a, .int .i64 b1, .int .i64 c1, .bool s1] 46).below hb3 (by simp))
            have bA : Below wr.heap.size wr (wr.alloc (.cells #[.int .i64 q, .int .i64 a, .int .i64 b1, .int .i64 c1, .bool s1] 46)) := (Below.refl _ _).alloc (Nat.le_refl _) _
            have B3 := Lib.hid (Hb2.out.trans ((bA.trans (hb3.mono bA.size)).mono hz2))
            have z3 := (bA.trans (hb3.mono bA.size)).size
            have st0 : w3.cell? ⟨wr.heap.size, 0, none⟩ = some (.int .i64 q) := KX.out.cell 0
            have st1 : w3.cell? ⟨wr.heap.size, 1, none⟩ = some (.int .i64 a) := KX.out.cell 1
            have st2 : w3.cell? ⟨wr.heap.size, 2, none⟩ = some (.int .i64 b1) := KX.out.cell 2
            have st3 : w3.cell? ⟨wr.heap.size, 3, none⟩ = some (.int .i64 c1) := KX.out.cell 3
            have st4 : w3.cell? ⟨wr.heap.size, 4, none⟩ = some (.bool s1) := KX.out.cell 4
            have lx := KX.out.lt
            clear hb3 bA
            have HFG := Lib.hid (fun (V : World) => show Calls Try.prog 24 #[.bool ((p : Int) != -1)] V fun e w' => e = .returned (.int .i64 1) ∧ w' = V by
              have := figure_any ((p : Int) != -1) V
              have e0 : ((p : Int) != -1) = true := by rw [bne, g0]; rfl
              rw [e0] at this ⊢
              exact this)
            go_wp2_with fail
            refine (HPL.out _).mono ?_
            rintro e w4 ⟨rfl, hb4⟩
            have B4 := Lib.hid (below_on B3.out hb4)
            have z4 := hb4.size
            clear hb4 st0 st1 st2 st3 st4 lx
            go_wp2_with (go_at_call 24; refine (HFG.out _).mono ?_; rintro e w' ⟨rfl, rfl⟩)
            go_roundw
            case rel => exact ⟨m + 1, s2 + 1, by omega, by go_num, by go_num, by omega, B4.out, Lib.hid (by
              have := hrest3.out
              rw [Hd'.out, List.all_cons, e2, simN_cons, e1] at this
              rw [← this]; simp [Nat.add_assoc])⟩
            case measure => simp [intOf]; omega
        · have hlast : Hid ((R && (true && decide (s2 + T ≤ 5))) = r) := Lib.hid (by
            have := hrest3.out
            rw [List.drop_eq_nil_of_le (by omega)] at this
            exact this)
          have hmi : ¬ (m : Int) < (xs.length : Int) := by omega
          have Hb2 := Lib.hid hb2
          clear hrest3 hx0 hb2
          go_wp2_with fail
          go_roundw
          case rel => exact ⟨k + 1, s2, by omega, by go_num, by go_num, by omega, below_on Hb.out Hb2.out, Lib.hid (by have h9 := hlast.out; rw [← HRR.out, ← HTT.out] at h9; exact h9)⟩
          case measure => simp [intOf]; omega
    · have hlast : Hid (r = decide (s ≤ 5)) := Lib.hid (by
        have := hrest.out
        rw [List.drop_eq_nil_of_le (by omega)] at this
        rw [← this]; simp [simT])
      have hki : ¬ (k : Int) < (L.length : Int) := by omega
      have Hb := Lib.hid hbel
      clear hrest hbel
      go_wp2
      go_ret
      refine ⟨?_, below_on B1.out Hb.out⟩
      rw [hlast.out]
      simp
      try omega
theorem ssimple_any (h : PgH) (L : Pg) (w : World) (B : Nat) (hP : PgR w B h L) (hB : B ≤ w.heap.size) (SP : PgS L) (r : Bool) (hr : Hid (simB L = r)) :
    Calls Try.prog 7 #[PgV h L] w fun e w' => e = .returned (.bool r) ∧ Below w.heap.size w w' := by
  have hl := SP.l
  have HE := Lib.hid SP.e
  obtain ⟨W, hW⟩ : ∃ W, W = w.alloc (.cells #[.slice h.A L.length h.c] 29) := ⟨_, rfl⟩
  have bW : Below w.heap.size w W := by rw [hW]; go_grown
  have sW : W.heap.size = w.heap.size + 1 := by rw [hW]; simp
  have kW : Bk W w.heap.size 29 #[.slice h.A L.length h.c] := by rw [hW]; exact Bk.new _ _ _
  have BW := Lib.hid bW
  have KW := Lib.hid kW
  have HR := Lib.hid (hP.below bW hB)
  have hBW : B ≤ W.heap.size := by omega
  have HW := Lib.hid hW
  obtain ⟨g, hg⟩ : ∃ g, progB L = g := ⟨_, rfl⟩
  have HG := Lib.hid hg
  have hfin : Hid ((L.all (fun xs => xs.all simO) && (g && decide (0 + simT L ≤ 5))) = r) := Lib.hid (by rw [← hr.out, simB, hg, Nat.zero_add])
  clear hW bW kW hP hr hg
  have c0 : W.cell? ⟨w.heap.size, 0, none⟩ = some (.slice h.A L.length h.c) := KW.out.cell 0
  have l0 := KW.out.lt
  go_enter Try.func7, Try.ntmps7
  go_wp2_with fail
  rw [← HW.out]
  obtain ⟨w1, hw1⟩ : ∃ w1 : World, w1 = W := ⟨_, rfl⟩
  rw [← hw1] at HR KW BW HW ⊢
  have B1 := Lib.hid BW.out
  have z1 := Nat.le_of_eq (congrArg (fun v : World => v.heap.size) hw1.symm)
  have R1 := Lib.hid HR.out
  have K1 := Lib.hid KW.out
  clear c0 l0
  go_loopw [3, 4] (fun t i wr => ∃ k s : Nat, k ≤ L.length ∧ i = .int .i64 k ∧ t = .int .i64 s ∧ s ≤ 1048576 * k ∧ Below w1.heap.size w1 wr ∧ Hid (((L.drop k).all (fun xs => xs.all simO) && (g && decide (s + simT (L.drop k) ≤ 5))) = r)) (fun _ i _ => L.length - (intOf i).toNat)
  case atStart => exact ⟨0, 0, Nat.zero_le _, rfl, rfl, by omega, Below.refl _ _, by simpa using hfin⟩
  case round =>
    obtain ⟨k, s, hk, rfl, rfl, hs6, hbel, hrest⟩ := hrel
    clear hfin
    have hz := hbel.size
    have Kr := Lib.hid (K1.out.below hbel K1.out.lt)
    have cr : wr.cell? ⟨w.heap.size, 0, none⟩ = some (.slice h.A L.length h.c) := Kr.out.cell 0
    have lr := Kr.out.lt
    by_cases hlt : k < L.length
    · obtain ⟨b, off, xs, Ai, ci, hA, hb, hx, hd, hx0, hlx, hmx, hrow⟩ := (R1.out.below hbel (by omega)).at_ hlt
      have hxl : xs.length ≤ 1048576 := HE.out xs (List.mem_of_getElem? hx)
      have hki : (k : Int) < (L.length : Int) := by omega
      obtain ⟨R, hR⟩ : ∃ R, (L.drop (k + 1)).all (fun xs => xs.all simO) = R := ⟨_, rfl⟩
      obtain ⟨T, hT⟩ : ∃ T, simT (L.drop (k + 1)) = T := ⟨_, rfl⟩
      have hrest2 : Hid (((xs.drop 0).all simO && (R && (g && decide (s + simN (xs.drop 0) + T ≤ 5)))) = r) := Lib.hid (by
        have := hrest.out
        rw [hd, List.all_cons, simT_cons, hR, hT, ← Nat.add_assoc] at this
        rw [← this, Bool.and_assoc]; rfl)
      have HRR := Lib.hid hR
      have HTT := Lib.hid hT
      have hbw : b < wr.heap.size := by omega
      have Rw := Lib.hid hrow
      have Hb := Lib.hid hbel
      clear hd hx hrest hR hT hrow hbel
      rw [hA] at cr
      go_wp2_with fail
      obtain ⟨wo, rfl⟩ : ∃ wo : World, wo = wr := ⟨_, rfl⟩
      go_loopw [3, 5] (fun t j w2 => ∃ m s2 : Nat, m ≤ xs.length ∧ j = .int .i64 m ∧ t = .int .i64 s2 ∧ s2 ≤ 1048576 * k + m ∧ Below wo.heap.size wo w2 ∧ Hid (((xs.drop m).all simO && (R && (g && decide (s2 + simN (xs.drop m) + T ≤ 5)))) = r)) (fun _ j _ => xs.length - (intOf j).toNat)
      case atStart => exact ⟨0, s, Nat.zero_le _, rfl, rfl, by omega, Below.refl _ _, hrest2⟩
      case round =>
        obtain ⟨m, s2, hm, rfl, rfl, hs7, hb2, hrest3⟩ := hrel
        clear hrest2
        have hz2 := hb2.size
        have cq : wr.cell? ⟨w.heap.size, 0, none⟩ = some (.slice (some ⟨b, off, none⟩) L.length h.c) := (hb2.cell (p := ⟨w.heap.size, 0, none⟩) lr).trans cr
        have cx : wr.cell? ⟨b, off + k, none⟩ = some (.slice Ai xs.length ci) := (hb2.cell (p := ⟨b, off + k, none⟩) hbw).trans hx0
        by_cases hlm : m < xs.length
        · obtain ⟨b', off', x, hA', hb', hx', hd', hx0', hx1', hx2', hx3', hx4'⟩ := (Rw.out.below hb2 (by omega)).at_ hlm
          have hmi : (m : Int) < (xs.length : Int) := by omega
          have hb2w : b' < wr.heap.size := by omega
          have Hd' := Lib.hid hd'
          have Hb2 := Lib.hid hb2
          subst hA'
          clear hd' hx' cr hx0 hb2
          rcases place_two x with hp | ⟨p, hp3, hp⟩
          · obtain ⟨e1, e2⟩ := simO_no (x := x) (by rw [hp]; decide)
            obtain ⟨q, a, b1, c1, s1⟩ := x
            dsimp only at hp hx0' hx1' hx2' hx3' hx4' e2
            have hc : q = 0 ∨ q = 10 ∨ (¬ q = 0 ∧ ¬ q = 10) := by omega
            rcases hc with rfl | rfl | ⟨h0, h1⟩
            · replace e2 : simO ⟨0, a, b1, c1, s1⟩ = true := e2
              have HPL := Lib.hid (fun (V : World) => show Calls Try.prog 19 #[.agg #[.int .i64 0, .int .i64 a, .int .i64 b1, .int .i64 c1, .bool s1]] V fun e w' => e = .returned (.int .i64 (-1)) ∧ Below V.heap.size V w' by
                have := splace_any 0 a b1 c1 s1 V
                rw [hp] at this
                exact this)
              go_wp2_with fail
              refine (HPL.out _).mono ?_
              rintro e w3 ⟨rfl, hb3⟩
              have KX := Lib.hid (show Bk w3 wr.heap.size 46 #[.int .i64 0, .int .i64 a, .int .i64 b1, .int .i64 c1, .bool s1] from (Bk.new wr #[.int .i64 0, .int .i64 a, .int .i64 b1, .int .i64 c1, .bool s1] 46).below hb3 (by simp))
              have bA : Below wr.heap.size wr (wr.alloc (.cells #[.int .i64 0, .int .i64 a, .int .i64 b1, .int .i64 c1, .bool s1] 46)) := (Below.refl _ _).alloc (Nat.le_refl _) _
              have B3 := Lib.hid (Hb2.out.trans ((bA.trans (hb3.mono bA.size)).mono hz2))
              have z3 := (bA.trans (hb3.mono bA.size)).size
              have st0 : w3.cell? ⟨wr.heap.size, 0, none⟩ = some (.int .i64 0) := KX.out.cell 0
              have st1 : w3.cell? ⟨wr.heap.size, 1, none⟩ = some (.int .i64 a) := KX.out.cell 1
              have st2 : w3.cell? ⟨wr.heap.size, 2, none⟩ = some (.int .i64 b1) := KX.out.cell 2
              have st3 : w3.cell? ⟨wr.heap.size, 3, none⟩ = some (.int .i64 c1) := KX.out.cell 3
              have st4 : w3.cell? ⟨wr.heap.size, 4, none⟩ = some (.bool s1) := KX.out.cell 4
              have lx := KX.out.lt
              clear hb3 bA
              go_wp2
              go_roundw
              case rel => exact ⟨m + 1, s2 + 0, by omega, by go_num, by first | go_num | (simp; done), by omega, B3.out, Lib.hid (by
                have := hrest3.out
                rw [Hd'.out, List.all_cons, e2, simN_cons, e1] at this
                rw [← this]; simp [Nat.add_assoc])⟩
              case measure => simp [intOf]; omega
            · replace e2 : simO ⟨10, a, b1, c1, s1⟩ = true := e2
              have HPL := Lib.hid (fun (V : World) => show Calls Try.prog 19 #[.agg #[.int .i64 10, .int .i64 a, .int .i64 b1, .int .i64 c1, .bool s1]] V fun e w' => e = .returned (.int .i64 (-1)) ∧ Below V.heap.size V w' by
                have := splace_any 10 a b1 c1 s1 V
                rw [hp] at this
                exact this)
              go_wp2_with fail
              refine (HPL.out _).mono ?_
              rintro e w3 ⟨rfl, hb3⟩
              have KX := Lib.hid (show Bk w3 wr.heap.size 46 #[.int .i64 10, .int .i64 a, .int .i64 b1, .int .i64 c1, .bool s1] from (Bk.new wr #[.int .i64 10, .int .i64 a, .int .i64 b1, .int .i64 c1, .bool s1] 46).below hb3 (by simp))
              have bA : Below wr.heap.size wr (wr.alloc (.cells #[.int .i64 10, .int .i64 a, .int .i64 b1, .int .i64 c1, .bool s1] 46)) := (Below.refl _ _).alloc (Nat.le_refl _) _
              have B3 := Lib.hid (Hb2.out.trans ((bA.trans (hb3.mono bA.size)).mono hz2))
              have z3 := (bA.trans (hb3.mono bA.size)).size
              have st0 : w3.cell? ⟨wr.heap.size, 0, none⟩ = some (.int .i64 10) := KX.out.cell 0
              have st1 : w3.cell? ⟨wr.heap.size, 1, none⟩ = some (.int .i64 a) := KX.out.cell 1
              have st2 : w3.cell? ⟨wr.heap.size, 2, none⟩ = some (.int .i64 b1) := KX.out.cell 2
              have st3 : w3.cell? ⟨wr.heap.size, 3, none⟩ = some (.int .i64 c1) := KX.out.cell 3
              have st4 : w3.cell? ⟨wr.heap.size, 4, none⟩ = some (.bool s1) := KX.out.cell 4
              have lx := KX.out.lt
              clear hb3 bA
              go_wp2
              go_roundw
              case rel => exact ⟨m + 1, s2 + 0, by omega, by go_num, by first | go_num | (simp; done), by omega, B3.out, Lib.hid (by
                have := hrest3.out
                rw [Hd'.out, List.all_cons, e2, simN_cons, e1] at this
                rw [← this]; simp [Nat.add_assoc])⟩
              case measure => simp [intOf]; omega
            · replace e2 : simO ⟨q, a, b1, c1, s1⟩ = false := by rw [e2, beq_eq_false_iff_ne.2 h0, beq_eq_false_iff_ne.2 h1]; rfl
              have g0 : (q == 0) = false := beq_eq_false_iff_ne.2 h0
              have g1 : (q == 10) = false := beq_eq_false_iff_ne.2 h1
              have n0 : (q != 0) = true := by rw [bne, g0]; rfl
              have n1 : (q != 10) = true := by rw [bne, g1]; rfl
              have HPL := Lib.hid (fun (V : World) => show Calls Try.prog 19 #[.agg #[.int .i64 q, .int .i64 a, .int .i64 b1, .int .i64 c1, .bool s1]] V fun e w' => e = .returned (.int .i64 (-1)) ∧ Below V.heap.size V w' by
                have := splace_any q a b1 c1 s1 V
                rw [hp] at this
                exact this)
              go_wp2_with fail
              refine (HPL.out _).mono ?_
              rintro e w3 ⟨rfl, hb3⟩
              have KX := Lib.hid (show Bk w3 wr.heap.size 46 #[.int .i64 q, .int .i64 a, .int .i64 b1, .int .i64 c1, .bool s1] from (Bk.new wr #[.int .i64 q, .int .i64 a, .int .i64 b1, .int .i64 c1, .bool s1] 46).below hb3 (by simp))
              have bA : Below wr.heap.size wr (wr.alloc (.cells #[.int .i64 q, .int .i64 a, .int .i64 b1, .int .i64 c1, .bool s1] 46)) := (Below.refl _ _).alloc (Nat.le_refl _) _
              have B3 := Lib.hid (Hb2.out.trans ((bA.trans (hb3.mono bA.size)).mono hz2))
              have z3 := (bA.trans (hb3.mono bA.size)).size
              have st0 : w3.cell? ⟨wr.heap.size, 0, none⟩ = some (.int .i64 q) := KX.out.cell 0
              have st1 : w3.cell? ⟨wr.heap.size, 1, none⟩ = some (.int .i64 a) := KX.out.cell 1
              have st2 : w3.cell? ⟨wr.heap.size, 2, none⟩ = some (.int .i64 b1) := KX.out.cell 2
              have st3 : w3.cell? ⟨wr.heap.size, 3, none⟩ = some (.int .i64 c1) := KX.out.cell 3
              have st4 : w3.cell? ⟨wr.heap.size, 4, none⟩ = some (.bool s1) := KX.out.cell 4
              have lx := KX.out.lt
              clear hb3 bA
              dsimp only
              go_wp2
              go_ret
              refine ⟨?_, below_on B1.out (below_on Hb.out B3.out)⟩
              have := hrest3.out
              rw [Hd'.out, List.all_cons, e2] at this
              rw [← this]; rfl
          · obtain ⟨e1, e2⟩ := simO_plc hp
            obtain ⟨q, a, b1, c1, s1⟩ := x
            dsimp only at hp hx0' hx1' hx2' hx3' hx4'
            have hq : q = q := rfl
            have g0 : ((p : Int) == -1) = false := beq_eq_false_iff_ne.2 (by omega)
            have g1 : (0 : Int) ≤ (p : Int) := by omega
            have HPL := Lib.hid (fun (V : World) => show Calls Try.prog 19 #[.agg #[.int .i64 q, .int .i64 a, .int .i64 b1, .int .i64 c1, .bool s1]] V fun e w' => e = .returned (.int .i64 p) ∧ Below V.heap.size V w' by
              have := splace_any q a b1 c1 s1 V
              rw [hp] at this
              exact this)
            go_wp2_with fail
            refine (HPL.out _).mono ?_
            rintro e w3 ⟨rfl, hb3⟩
            have KX := Lib.hid (show Bk w3 wr.heap.size 46 #[.int .i64 q, .int .i64 a, .int .i64 b1, .int .i64 c1, .bool s1] from (Bk.new wr #[.int .i64 q, .int .i64 a, .int .i64 b1, .int .i64 c1, .bool s1] 46).below hb3 (by simp))
            have bA : Below wr.heap.size wr (wr.alloc (.cells #[.int .i64 q, .int .i64 a, .int .i64 b1, .int .i64 c1, .bool s1] 46)) := (Below.refl _ _).alloc (Nat.le_refl _) _
            have B3 := Lib.hid (Hb2.out.trans ((bA.trans (hb3.mono bA.size)).mono hz2))
            have z3 := (bA.trans (hb3.mono bA.size)).size
            have st0 : w3.cell? ⟨wr.heap.size, 0, none⟩ = some (.int .i64 q) := KX.out.cell 0
            have st1 : w3.cell? ⟨wr.heap.size, 1, none⟩ = some (.int .i64 a) := KX.out.cell 1
            have st2 : w3.cell? ⟨wr.heap.size, 2, none⟩ = some (.int .i64 b1) := KX.out.cell 2
            have st3 : w3.cell? ⟨wr.heap.size, 3, none⟩ = some (.int .i64 c1) := KX.out.cell 3
            have st4 : w3.cell? ⟨wr.heap.size, 4, none⟩ = some (.bool s1) := KX.out.cell 4
            have lx := KX.out.lt
            clear hb3 bA
            go_wp2
            go_roundw
            case rel => exact ⟨m + 1, s2 + 1, by omega, by go_num, by first | go_num | (simp; done), by omega, B3.out, Lib.hid (by
              have := hrest3.out
              rw [Hd'.out, List.all_cons, e2, simN_cons, e1] at this
              rw [← this]; simp [Nat.add_assoc])⟩
            case measure => simp [intOf]; omega
        · have hlast : Hid ((R && (g && decide (s2 + T ≤ 5))) = r) := Lib.hid (by
            have := hrest3.out
            rw [List.drop_eq_nil_of_le (by omega)] at this
            exact this)
          have hmi : ¬ (m : Int) < (xs.length : Int) := by omega
          have Hb2 := Lib.hid hb2
          clear hrest3 cr hx0 hb2
          go_wp2_with fail
          go_roundw
          case rel => exact ⟨k + 1, s2, by omega, by go_num, by go_num, by omega, below_on Hb.out Hb2.out, Lib.hid (by have h9 := hlast.out; rw [← HRR.out, ← HTT.out] at h9; exact h9)⟩
          case measure => simp [intOf]; omega
    · have hlast : Hid (r = (g && decide (s ≤ 5))) := Lib.hid (by
        have := hrest.out
        rw [List.drop_eq_nil_of_le (by omega)] at this
        rw [← this]; simp [simT])
      have hki : ¬ (k : Int) < (L.length : Int) := by omega
      have Hb := Lib.hid hbel
      have Rk := Lib.hid (R1.out.below hbel (by omega))
      clear hrest hbel
      go_wp2_with fail
      refine (sprog_any h.A L h.c wr B Rk.out (by omega) hl HE g HG).mono ?_
      rintro e w5 ⟨rfl, hb5⟩
      have B5 := Lib.hid (below_on Hb.out hb5)
      clear hb5 cr
      cases g
      all_goals
        go_wp2
        go_ret
        refine ⟨?_, below_on B1.out B5.out⟩
        rw [hlast.out]
        simp
        try omega
end Go.Proofs.Ytaghidaamcnpkaa
