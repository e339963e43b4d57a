/-
  In which ways a thread can do its next statement, on a machine with views: what the program's waysOf comes to where a place is touched.
-/
import Derived.Test.YtaghidaamcnpkabNPk
import Derived.Test.YtaghidaamcnpkabNev
import Derived.Test.YtaghidaamcnpkabPack
import Derived.Test.YtaghidaamcnpkabCopy
import Derived.Test.YtaghidaamcnpkabIl
import Derived.Test.YtaghidaamcnpkabOpen
namespace Go.Proofs.Ytaghidaamcnpkab
open Go.RowKit Pl Go.BigFrame
set_option maxHeartbeats 8000000
set_option maxRecDepth 100000
set_option linter.unusedVariables false

def AnsIlW (w : World) (o : List Int) (e : Ending) (w' : World) : Prop :=
  ∃ k : IlH, e = .returned (IlV k o) ∧ Below w.heap.size w w' ∧ w.heap.size ≤ w'.heap.size ∧ IlO w' w.heap.size w'.heap.size k o
def mayB (S : List (Nat → Nat)) (c : Bool) (i : Nat) : Bool := !c || mpB S i
/-- The indexes from i0 on, n of them looked at, behind which a store may stand. -/
def way9 (S : List (Nat → Nat)) (c : Bool) (i0 : Nat) : Nat → List Int
  | 0 => []
  | n + 1 => way9 S c i0 n ++ (if mayB S c (i0 + n) then [((i0 + n : Nat) : Int)] else [])
theorem way9_len (S : List (Nat → Nat)) (c : Bool) (i0 : Nat) : ∀ n, (way9 S c i0 n).length ≤ n := by
  intro n
  induction n with
  | zero => exact Nat.le_refl _
  | succ n ih =>
    unfold way9
    rw [List.length_append]
    split <;> simp <;> omega
theorem way9_yes {S : List (Nat → Nat)} {c : Bool} {i0 n : Nat} (h : mayB S c (i0 + n) = true) : way9 S c i0 (n + 1) = way9 S c i0 n ++ [((i0 + n : Nat) : Int)] := by
  rw [way9, if_pos h]
theorem way9_no {S : List (Nat → Nat)} {c : Bool} {i0 n : Nat} (h : mayB S c (i0 + n) = false) : way9 S c i0 (n + 1) = way9 S c i0 n := by
  rw [way9, if_neg (by simp [h]), List.append_nil]
theorem iways_at (h : PgH) (L : Pg) (H : SgH) (s : Sg) (t : Nat) (w : World) (B : Nat) (hP : PgR w B h L) (hS : SgR w B H s) (hB : B ≤ w.heap.size) (hL : progB L = true) (hf : Good L s.f) (hok : SgOk s) (ht : t < L.length) (hcn : s.f (0 + t) = 1) (hml : s.f (3 + t) < (L.getD t []).length)
    (x : Sm) (hx : smAt L t (s.f (3 + t)) = x) (p : Nat) (hp : placeZ x.k x.a x.b x.c x.s = (p : Int)) (hp3 : p < 3) (c : Bool) (hcw : writesB x.k x.a x.b x.c x.s = c) (i0 : Nat) (hi0 : idxF (s.S p) p (s.V t (2 + p)) = i0) :
    Calls Try.prog 53 #[PgV h L, SgV H s, .int .i64 t] w (AnsIlW w (way9 (s.S p) c i0 ((s.S p).length - i0))) := by
  obtain ⟨h31, h32⟩ := prog_len hL
  obtain ⟨q0, hi, iz0, iz1, iz2⟩ := info_parts Try.info3
  obtain ⟨W, hW⟩ : ∃ W, W = (w.alloc (.cells #[.slice h.A L.length h.c] 32)).alloc (.cells (mkG H s) TG) := ⟨_, rfl⟩
  have bW : Below w.heap.size w W := by rw [hW]; go_grown
  have k0 : Bk W w.heap.size 32 #[.slice h.A L.length h.c] := by rw [hW]; exact (Bk.new w _ _).alloc _
  have k1 : Bk W (w.heap.size + 1) TG (mkG H s) := by
    rw [hW]; have := Bk.new (w.alloc (.cells #[.slice h.A L.length h.c] 32)) (mkG H s) TG
    rwa [World.size_alloc] at this
  have P0 := Lib.hid (hP.below bW hB)
  have S0 := Lib.hid (hS.below bW hB)
  have K0 := Lib.hid k0
  have K1 := Lib.hid k1
  have B0 := Lib.hid bW
  have z0 := bW.size
  have HW := Lib.hid hW
  have hB0 : B ≤ W.heap.size := by omega
  have HA := Lib.hid (able_any h L s.f (t : Int) W hok.f h31 h32 true (Lib.hid (by
    have e1 : inB (t : Int) 0 ((L.length : Int) - 1) = true := by simp [inB]; omega
    rw [e1, Int.toNat_natCast, hcn]; rfl)))
  have HNX := Lib.hid (fun (V : World) (hV : PgR V B h L) (hBV : B ≤ V.heap.size) => show Calls Try.prog 73 #[PgV h L, .int .u64 (enc WS s.f : Nat), .int .i64 t] V fun e w' => e = .returned (Ev t (s.f (3 + t)) x.k x.a x.b x.c x.s) ∧ Below V.heap.size V w' by
    have := nextev_any h L s.f t V B hV hBV hL hf ht hml
    unfold evV at this
    rw [hx] at this
    exact this)
  have HPL := Lib.hid (fun (V : World) => show Calls Try.prog 93 #[St x.k x.a x.b x.c x.s] V fun e w' => e = .returned (.int .i64 p) ∧ Below V.heap.size V w' by
    have := iplace_any x.k x.a x.b x.c x.s V
    rw [hp] at this
    exact this)
  have HWR := Lib.hid (fun (V : World) => show Calls Try.prog 95 #[St x.k x.a x.b x.c x.s] V fun e w' => e = .returned (.bool c) ∧ Below V.heap.size V w' by
    have := iwrites_any x.k x.a x.b x.c x.s V
    rw [hcw] at this
    exact this)
  have hl16 := hok.l p hp3
  have hokS := hok.S p hp3
  have HIX := Lib.hid (fun (V : World) (hV : Vs V B (H.A p) (vsW (s.S p))) (hBV : B ≤ V.heap.size) => indexin_any (H.A p) (s.S p) (H.c p) p (s.V t) V B hV hBV hokS (hok.V t (by omega)) hp3 hl16 i0 (Lib.hid hi0))
  have HMP := Lib.hid (fun (V : World) (hV : Vs V B (H.A p) (vsW (s.S p))) (hBV : B ≤ V.heap.size) (i : Nat) (hi : i < (s.S p).length) (r : Bool) (hr : mpB (s.S p) i = r) => mayputin_any (H.A p) (s.S p) (H.c p) i V B hV hBV hokS hi hl16 r (Lib.hid hr))
  have hi0l : i0 ≤ (s.S p).length := by rw [← hi0]; exact idxF_le _ _ _
  have hfd := ev_stmt (t : Int) (s.f (3 + t) : Nat) x.k x.a x.b x.c x.s
  obtain ⟨E, hE⟩ : ∃ E, enc WS s.f = E := ⟨_, rfl⟩
  obtain ⟨Et, hEt⟩ : ∃ E, enc WV (s.V t) = E := ⟨_, rfl⟩
  have Y0 : (mkG H s)[0]? = some (.int .u64 (E : Nat)) := by rw [mkG_0, hE]
  have Yp : (mkG H s)[1 + p]? = some (.slice (H.A p) (s.S p).length (H.c p)) := mkG_s H s hp3
  have Yt : (mkG H s)[4 + t]? = some (.int .u64 (Et : Nat)) := by rw [mkG_v H s (show t < 8 by omega), hEt]
  rw [hE] at HA HNX
  rw [hEt] at HIX
  have hpm : ¬ (p : Int) = -1 := by omega
  have c0 : W.cell? ⟨w.heap.size, 0, none⟩ = some (.slice h.A L.length h.c) := K0.out.cell 0
  have y0 : W.cell? ⟨w.heap.size + 1, 0, none⟩ = some (.int .u64 (E : Nat)) := (K1.out.cell 0).trans Y0
  have l0 := K0.out.lt
  have l1 := K1.out.lt
  clear hW bW k0 k1 hP hS hok hokS hE hEt hx hp hcw hi0 hcn hml hf
  go_enter Try.func53, Try.ntmps53
  go_wp2_with (rw [← HW.out])
  refine HA.out.mono ?_
  rintro e w1 ⟨rfl, hb1⟩
  have B1 := Lib.hid (below_on B0.out hb1)
  have z1 := hb1.size
  have P1 := Lib.hid (P0.out.below hb1 hB0)
  have S1 := Lib.hid (S0.out.below hb1 hB0)
  have K01 := Lib.hid (K0.out.below hb1 K0.out.lt)
  have K11 := Lib.hid (K1.out.below hb1 K1.out.lt)
  clear hb1 c0 y0 K0 K1 P0 S0 HA l0 l1 B0
  have c0 : w1.cell? ⟨w.heap.size, 0, none⟩ = some (.slice h.A L.length h.c) := K01.out.cell 0
  have y0 : w1.cell? ⟨w.heap.size + 1, 0, none⟩ = some (.int .u64 (E : Nat)) := (K11.out.cell 0).trans Y0
  have l0 := K01.out.lt
  have l1 := K11.out.lt
  go_wp2_with fail
  refine (HNX.out w1 P1.out (by omega)).mono ?_
  rintro e w2 ⟨rfl, hb2⟩
  have B2 := Lib.hid (below_on B1.out hb2)
  have z2 := hb2.size
  have S2 := Lib.hid (S1.out.below hb2 (show B ≤ w1.heap.size by omega))
  have K12 := Lib.hid (K11.out.below hb2 K11.out.lt)
  clear hb2 c0 y0 K01 K11 P1 S1 HNX l0 l1 B1
  have yp : w2.cell? ⟨w.heap.size + 1, 1 + p, none⟩ = some (.slice (H.A p) (s.S p).length (H.c p)) := (K12.out.cell (1 + p)).trans Yp
  have yt : w2.cell? ⟨w.heap.size + 1, 4 + t, none⟩ = some (.int .u64 (Et : Nat)) := (K12.out.cell (4 + t)).trans Yt
  have l1 := K12.out.lt
  go_wp2_with fail
  refine (HPL.out _).mono ?_
  rintro e w3 ⟨rfl, hb3⟩
  have bA : Below w2.heap.size w2 (w2.alloc (.cells #[.int .i64 x.k, .int .i64 x.a, .int .i64 x.b, .int .i64 x.c, .bool x.s] 107)) := (Below.refl _ _).alloc (Nat.le_refl _) _
  have b23 : Below w2.heap.size w2 w3 := bA.trans (hb3.mono bA.size)
  have z3 := b23.size
  have B3 := Lib.hid (below_on B2.out b23)
  have KX := Lib.hid (show Bk w3 w2.heap.size 107 #[.int .i64 x.k, .int .i64 x.a, .int .i64 x.b, .int .i64 x.c, .bool x.s] from (Bk.new w2 #[.int .i64 x.k, .int .i64 x.a, .int .i64 x.b, .int .i64 x.c, .bool x.s] 107).below hb3 (by simp))
  have S3 := Lib.hid (S2.out.below b23 (show B ≤ w2.heap.size by omega))
  have K13 := Lib.hid (K12.out.below b23 K12.out.lt)
  clear hb3 bA b23 yp yt l1 K12 S2 B2 HPL
  have yp : w3.cell? ⟨w.heap.size + 1, 1 + p, none⟩ = some (.slice (H.A p) (s.S p).length (H.c p)) := (K13.out.cell (1 + p)).trans Yp
  have yt : w3.cell? ⟨w.heap.size + 1, 4 + t, none⟩ = some (.int .u64 (Et : Nat)) := (K13.out.cell (4 + t)).trans Yt
  have l1 := K13.out.lt
  have lx := KX.out.lt
  have pp : (p : Int) < 3 := by omega
  have tt : (t : Int) < 8 := by omega
  have hpm2 : ((p : Int) == -1) = false := beq_eq_false_iff_ne.2 hpm
  dsimp only
  go_wp2_with fail
  have bM : Below w3.heap.size w3 (w3.alloc (.cells #[] 3)) := (Below.refl _ _).alloc (Nat.le_refl _) _
  have hst0 : (w3.alloc (.cells #[] 3)).ownsRow w3.heap.size 3 1 (.slice (some ⟨w3.heap.size, 0, none⟩) 0 0) 0 (ints []) := World.ownsRow_made w3 #[] 0 (Nat.le_refl w3.heap.size) (by decide) (by simp)
  refine (HIX.out _ ((S3.out.below bM (by omega)) p hp3) (by simp; omega)).mono ?_
  rintro e w4 ⟨rfl, hb4⟩
  have b34 : Below w3.heap.size w3 w4 := bM.trans (hb4.mono bM.size)
  have z4 := b34.size
  have B4 := Lib.hid (below_on B3.out b34)
  have KX4 := Lib.hid (KX.out.below b34 KX.out.lt)
  have S4 := Lib.hid (S3.out.below b34 (show B ≤ w3.heap.size by omega))
  have O4 := Lib.hid (World.ownsRow.kept hst0 (grown_of_below hb4 none) (by simp [Value.ownBlock]))
  have zB := B3.out.size
  have hx3 := KX.out.lt
  clear bM hst0 hb4 b34 yp yt l1 lx KX S3 B3 K13 HIX
  go_wp2_with fail
  go_loopw [9, 11] (fun ov iv wr => ∃ n g cap : Nat, i0 + n ≤ (s.S p).length ∧ iv = .int .i64 ((i0 + n : Nat) : Int) ∧ ov = .slice (some ⟨g, 0, none⟩) (way9 (s.S p) c i0 n).length cap ∧ w3.heap.size ≤ g ∧ wr.ownsRow w3.heap.size 3 1 (.slice (some ⟨g, 0, none⟩) (way9 (s.S p) c i0 n).length cap) (way9 (s.S p) c i0 n).length (ints (way9 (s.S p) c i0 n)) ∧ Below w3.heap.size w4 wr) (fun _ iv _ => (s.S p).length - (intOf iv).toNat)
  case atStart => exact ⟨0, w3.heap.size, 0, by omega, rfl, rfl, Nat.le_refl _, O4.out, Below.refl _ _⟩
  case round =>
    obtain ⟨n, g, cap, hn, rfl, rfl, hgg, hown, hbel⟩ := hrel
    clear O4
    have hz := hbel.size
    have hz3 : w3.heap.size ≤ wr.heap.size := by omega
    have Hown := Lib.hid hown
    have Hb := Lib.hid hbel
    have hwl := way9_len (s.S p) c i0 n
    clear hown
    by_cases hlt : i0 + n < (s.S p).length
    · have hi1 : ((i0 + n : Nat) : Int) < ((s.S p).length : Int) := by omega
      have VR := Lib.hid ((S4.out.below hbel (by omega)) p hp3)
      have KR := KX4.out.below hbel hx3
      have st0 : wr.cell? ⟨w2.heap.size, 0, none⟩ = some (.int .i64 x.k) := KR.cell 0
      have st1 : wr.cell? ⟨w2.heap.size, 1, none⟩ = some (.int .i64 x.a) := KR.cell 1
      have st2 : wr.cell? ⟨w2.heap.size, 2, none⟩ = some (.int .i64 x.b) := KR.cell 2
      have st3 : wr.cell? ⟨w2.heap.size, 3, none⟩ = some (.int .i64 x.c) := KR.cell 3
      have st4 : wr.cell? ⟨w2.heap.size, 4, none⟩ = some (.bool x.s) := KR.cell 4
      have lxr := KR.lt
      clear hbel KR
      cases c
      · have hm : mayB (s.S p) false (i0 + n) = true := rfl
        have EK := Lib.hid (show ints (way9 (s.S p) false i0 (n + 1)) = ints (way9 (s.S p) false i0 n) ++ [.int .i64 ((i0 + n : Nat) : Int)] by rw [way9_yes hm]; simp [ints])
        have EL := Lib.hid (show (way9 (s.S p) false i0 (n + 1)).length = (way9 (s.S p) false i0 n).length + 1 by rw [way9_yes hm]; simp)
        clear hm
        go_wp2_with fail
        refine (HWR.out _).mono ?_
        rintro e wa ⟨rfl, hba⟩
        have Oa := Lib.hid (World.ownsRow.kept Hown.out (grown_of_below hba none) (by simp [Value.ownBlock]))
        have Ha := Lib.hid (Hb.out.trans (hba.mono hz3))
        have za := hba.size
        clear hba
        go_wp2_with (at_builtin; refine wpList_append_own _ rfl (.tmp 55) (.tmp 57) 25 rfl w3.heap.size 3 q0 _ 1 8 Try.underlying25 hi iz0 iz1 iz2 rfl (by decide) _ (way9 (s.S p) _ i0 n).length _ rfl (Oa.out.alloc _) ⟨_, 0, none⟩ 1 1 [.int .i64 _] rfl rfl (cell1_new _ _ _) (by intro u hu; simp at hu; subst hu; rfl) (by unfold maxLen; omega) (by omega) (by simp; omega) ?_; intro v' w7 own7 grow7 _; obtain ⟨g7, cap7, rfl, hg7, hlt7⟩ := own7.form (by omega); have Own7 := Lib.hid own7; have B7 := Lib.hid ((Ha.out.alloc (show w3.heap.size ≤ wa.heap.size by omega) _).grown grow7 (by simp; omega) (by intro q hq; cases hq; exact hgg)); clear own7 grow7)
        go_roundw
        case rel => exact ⟨n + 1, g7, cap7, by omega, by go_num, by rw [EL.out], hg7, by rw [EL.out, EK.out]; exact Own7.out, B7.out⟩
        case measure => simp [intOf]; omega
      · obtain ⟨r, hr⟩ : ∃ r, mpB (s.S p) (i0 + n) = r := ⟨_, rfl⟩
        have HM := Lib.hid (fun (V : World) (hV : Vs V B (H.A p) (vsW (s.S p))) (hBV : B ≤ V.heap.size) => HMP.out V hV hBV (i0 + n) hlt r hr)
        cases r
        · have hm : mayB (s.S p) true (i0 + n) = false := by unfold mayB; rw [hr]; rfl
          have EL := Lib.hid (way9_no hm)
          clear hm
          go_wp2_with fail
          refine (HWR.out _).mono ?_
          rintro e wa ⟨rfl, hba⟩
          have Oa := World.ownsRow.kept Hown.out (grown_of_below hba none) (by simp [Value.ownBlock])
          have Ha := Hb.out.trans (hba.mono hz3)
          have za := hba.size
          have Va := VR.out.below hba (show B ≤ wr.heap.size by omega)
          clear hba
          go_wp2_with fail
          refine (HM.out wa Va (by omega)).mono ?_
          rintro e wb ⟨rfl, hbb⟩
          have Ob := Lib.hid (World.ownsRow.kept Oa (grown_of_below hbb none) (by simp [Value.ownBlock]))
          have Hc := Lib.hid (Ha.trans (hbb.mono (show w3.heap.size ≤ wa.heap.size by omega)))
          have zb := hbb.size
          clear hbb Oa Ha Va
          go_wp2
          go_roundw
          case rel => exact ⟨n + 1, g, cap, by omega, by go_num, by rw [EL.out], hgg, by rw [EL.out]; exact Ob.out, Hc.out⟩
          case measure => simp [intOf]; omega
        · have hm : mayB (s.S p) true (i0 + n) = true := by unfold mayB; rw [hr]; rfl
          have EK := Lib.hid (show ints (way9 (s.S p) true i0 (n + 1)) = ints (way9 (s.S p) true i0 n) ++ [.int .i64 ((i0 + n : Nat) : Int)] by rw [way9_yes hm]; simp [ints])
          have EL := Lib.hid (show (way9 (s.S p) true i0 (n + 1)).length = (way9 (s.S p) true i0 n).length + 1 by rw [way9_yes hm]; simp)
          clear hm
          go_wp2_with fail
          refine (HWR.out _).mono ?_
          rintro e wa ⟨rfl, hba⟩
          have Oa := World.ownsRow.kept Hown.out (grown_of_below hba none) (by simp [Value.ownBlock])
          have Ha := Hb.out.trans (hba.mono hz3)
          have za := hba.size
          have Va := VR.out.below hba (show B ≤ wr.heap.size by omega)
          clear hba
          go_wp2_with fail
          refine (HM.out wa Va (by omega)).mono ?_
          rintro e wb ⟨rfl, hbb⟩
          have Ob := Lib.hid (World.ownsRow.kept Oa (grown_of_below hbb none) (by simp [Value.ownBlock]))
          have Hc := Lib.hid (Ha.trans (hbb.mono (show w3.heap.size ≤ wa.heap.size by omega)))
          have zb := hbb.size
          clear hbb Oa Ha Va
          go_wp2_with (at_builtin; refine wpList_append_own _ rfl (.tmp 55) (.tmp 57) 25 rfl w3.heap.size 3 q0 _ 1 8 Try.underlying25 hi iz0 iz1 iz2 rfl (by decide) _ (way9 (s.S p) _ i0 n).length _ rfl (Ob.out.alloc _) ⟨_, 0, none⟩ 1 1 [.int .i64 _] rfl rfl (cell1_new _ _ _) (by intro u hu; simp at hu; subst hu; rfl) (by unfold maxLen; omega) (by omega) (by simp; omega) ?_; intro v' w7 own7 grow7 _; obtain ⟨g7, cap7, rfl, hg7, hlt7⟩ := own7.form (by omega); have Own7 := Lib.hid own7; have B7 := Lib.hid ((Hc.out.alloc (show w3.heap.size ≤ wb.heap.size by omega) _).grown grow7 (by simp; omega) (by intro q hq; cases hq; exact hgg)); clear own7 grow7)
          go_roundw
          case rel => exact ⟨n + 1, g7, cap7, by omega, by go_num, by rw [EL.out], hg7, by rw [EL.out, EK.out]; exact Own7.out, B7.out⟩
          case measure => simp [intOf]; omega
    · have hkl : i0 + n = (s.S p).length := by omega
      have hi1 : ¬ ((i0 + n : Nat) : Int) < ((s.S p).length : Int) := by omega
      have hns : (s.S p).length - i0 = n := by omega
      have hfb := Lib.hid ((B4.out.trans (hbel.mono (show w.heap.size ≤ w3.heap.size by omega))))
      clear hbel
      go_wp2
      go_ret
      exact ⟨⟨some ⟨g, 0, none⟩, cap⟩, rfl, hfb.out, hfb.out.size, ⟨(own_vs Hown.out rfl).more (by omega) (Nat.le_refl _)⟩⟩
theorem iways_none (h : PgH) (L : Pg) (H : SgH) (s : Sg) (t : Nat) (w : World) (B : Nat) (hP : PgR w B h L) (hS : SgR w B H s) (hB : B ≤ w.heap.size) (hL : progB L = true) (hf : Good L s.f) (hok : SgOk s) (ht : t < L.length) (hcn : s.f (0 + t) = 1) (hml : s.f (3 + t) < (L.getD t []).length)
    (x : Sm) (hx : smAt L t (s.f (3 + t)) = x) (hp : placeZ x.k x.a x.b x.c x.s = -1) :
    Calls Try.prog 53 #[PgV h L, SgV H s, .int .i64 t] w (AnsIlW w [0]) := by
  obtain ⟨h31, h32⟩ := prog_len hL
  obtain ⟨q0, hi, iz0, iz1, iz2⟩ := info_parts Try.info3
  obtain ⟨W, hW⟩ : ∃ W, W = (w.alloc (.cells #[.slice h.A L.length h.c] 32)).alloc (.cells (mkG H s) TG) := ⟨_, rfl⟩
  have bW : Below w.heap.size w W := by rw [hW]; go_grown
  have k0 : Bk W w.heap.size 32 #[.slice h.A L.length h.c] := by rw [hW]; exact (Bk.new w _ _).alloc _
  have k1 : Bk W (w.heap.size + 1) TG (mkG H s) := by
    rw [hW]; have := Bk.new (w.alloc (.cells #[.slice h.A L.length h.c] 32)) (mkG H s) TG
    rwa [World.size_alloc] at this
  have P0 := Lib.hid (hP.below bW hB)
  have S0 := Lib.hid (hS.below bW hB)
  have K0 := Lib.hid k0
  have K1 := Lib.hid k1
  have B0 := Lib.hid bW
  have z0 := bW.size
  have HW := Lib.hid hW
  have hB0 : B ≤ W.heap.size := by omega
  have HA := Lib.hid (able_any h L s.f (t : Int) W hok.f h31 h32 true (Lib.hid (by
    have e1 : inB (t : Int) 0 ((L.length : Int) - 1) = true := by simp [inB]; omega
    rw [e1, Int.toNat_natCast, hcn]; rfl)))
  have HNX := Lib.hid (fun (V : World) (hV : PgR V B h L) (hBV : B ≤ V.heap.size) => show Calls Try.prog 73 #[PgV h L, .int .u64 (enc WS s.f : Nat), .int .i64 t] V fun e w' => e = .returned (Ev t (s.f (3 + t)) x.k x.a x.b x.c x.s) ∧ Below V.heap.size V w' by
    have := nextev_any h L s.f t V B hV hBV hL hf ht hml
    unfold evV at this
    rw [hx] at this
    exact this)
  have HPL := Lib.hid (fun (V : World) => show Calls Try.prog 93 #[St x.k x.a x.b x.c x.s] V fun e w' => e = .returned (.int .i64 (-1)) ∧ Below V.heap.size V w' by
    have := iplace_any x.k x.a x.b x.c x.s V
    rw [hp] at this
    exact this)
  have hfd := ev_stmt (t : Int) (s.f (3 + t) : Nat) x.k x.a x.b x.c x.s
  obtain ⟨E, hE⟩ : ∃ E, enc WS s.f = E := ⟨_, rfl⟩
  have Y0 : (mkG H s)[0]? = some (.int .u64 (E : Nat)) := by rw [mkG_0, hE]
  rw [hE] at HA HNX
  have c0 : W.cell? ⟨w.heap.size, 0, none⟩ = some (.slice h.A L.length h.c) := K0.out.cell 0
  have y0 : W.cell? ⟨w.heap.size + 1, 0, none⟩ = some (.int .u64 (E : Nat)) := (K1.out.cell 0).trans Y0
  have l0 := K0.out.lt
  have l1 := K1.out.lt
  clear hW bW k0 k1 hP hS hok hE hx hp hcn hml hf
  go_enter Try.func53, Try.ntmps53
  go_wp2_with (rw [← HW.out])
  refine HA.out.mono ?_
  rintro e w1 ⟨rfl, hb1⟩
  have B1 := Lib.hid (below_on B0.out hb1)
  have z1 := hb1.size
  have P1 := Lib.hid (P0.out.below hb1 hB0)
  have S1 := Lib.hid (S0.out.below hb1 hB0)
  have K01 := Lib.hid (K0.out.below hb1 K0.out.lt)
  have K11 := Lib.hid (K1.out.below hb1 K1.out.lt)
  clear hb1 c0 y0 K0 K1 P0 S0 HA l0 l1 B0
  have c0 : w1.cell? ⟨w.heap.size, 0, none⟩ = some (.slice h.A L.length h.c) := K01.out.cell 0
  have y0 : w1.cell? ⟨w.heap.size + 1, 0, none⟩ = some (.int .u64 (E : Nat)) := (K11.out.cell 0).trans Y0
  have l0 := K01.out.lt
  have l1 := K11.out.lt
  go_wp2_with fail
  refine (HNX.out w1 P1.out (by omega)).mono ?_
  rintro e w2 ⟨rfl, hb2⟩
  have B2 := Lib.hid (below_on B1.out hb2)
  have z2 := hb2.size
  have S2 := Lib.hid (S1.out.below hb2 (show B ≤ w1.heap.size by omega))
  have K12 := Lib.hid (K11.out.below hb2 K11.out.lt)
  clear hb2 c0 y0 K01 K11 P1 S1 HNX l0 l1 B1
  have l1 := K12.out.lt
  go_wp2_with fail
  refine (HPL.out _).mono ?_
  rintro e w3 ⟨rfl, hb3⟩
  have bA : Below w2.heap.size w2 (w2.alloc (.cells #[.int .i64 x.k, .int .i64 x.a, .int .i64 x.b, .int .i64 x.c, .bool x.s] 107)) := (Below.refl _ _).alloc (Nat.le_refl _) _
  have b23 : Below w2.heap.size w2 w3 := bA.trans (hb3.mono bA.size)
  have B3 := Lib.hid (below_on B2.out b23)
  have z3 := B3.out.size
  clear hb3 bA b23 K12 S2 B2 HPL l1
  dsimp only
  go_wp2
  go_ret
  refine ⟨⟨some ⟨w3.heap.size, 0, none⟩, 1⟩, rfl, B3.out.alloc z3 _, by simp; omega, ⟨fun _ => ⟨w3.heap.size, #[.int .i64 0], rfl, z3, by simp, Bk.new _ _ _, fun j v hv => by simpa [ints] using hv⟩⟩⟩
theorem iways_no (h : PgH) (L : Pg) (H : SgH) (s : Sg) (th : Int) (w : World) (hok : SgOk s) (h31 : 1 ≤ L.length) (h32 : L.length ≤ 3) (hr : Hid ((inB th 0 ((L.length : Int) - 1) && (s.f (0 + th.toNat) == 1)) = false)) :
    Calls Try.prog 53 #[PgV h L, SgV H s, .int .i64 th] w (AnsIlW w []) := by
  obtain ⟨W, hW⟩ : ∃ W, W = (w.alloc (.cells #[.slice h.A L.length h.c] 32)).alloc (.cells (mkG H s) TG) := ⟨_, rfl⟩
  have bW : Below w.heap.size w W := by rw [hW]; go_grown
  have k0 : Bk W w.heap.size 32 #[.slice h.A L.length h.c] := by rw [hW]; exact (Bk.new w _ _).alloc _
  have k1 : Bk W (w.heap.size + 1) TG (mkG H s) := by
    rw [hW]; have := Bk.new (w.alloc (.cells #[.slice h.A L.length h.c] 32)) (mkG H s) TG
    rwa [World.size_alloc] at this
  have B0 := Lib.hid bW
  have z0 := bW.size
  have HW := Lib.hid hW
  have HA := Lib.hid (able_any h L s.f th W hok.f h31 h32 false hr)
  obtain ⟨E, hE⟩ : ∃ E, enc WS s.f = E := ⟨_, rfl⟩
  have Y0 : (mkG H s)[0]? = some (.int .u64 (E : Nat)) := by rw [mkG_0, hE]
  rw [hE] at HA
  have c0 : W.cell? ⟨w.heap.size, 0, none⟩ = some (.slice h.A L.length h.c) := k0.cell 0
  have y0 : W.cell? ⟨w.heap.size + 1, 0, none⟩ = some (.int .u64 (E : Nat)) := (k1.cell 0).trans Y0
  have l0 := k0.lt
  have l1 := k1.lt
  clear hW bW k0 k1 hok hE hr
  go_enter Try.func53, Try.ntmps53
  go_wp2_with (rw [← HW.out])
  refine HA.out.mono ?_
  rintro e w1 ⟨rfl, hb1⟩
  have B1 := Lib.hid (below_on B0.out hb1)
  clear hb1 c0 y0
  go_wp2
  go_ret
  exact ⟨⟨none, 0⟩, rfl, B1.out, B1.out.size, ⟨OwnVs.nil _ _ _ _ _⟩⟩
end Go.Proofs.Ytaghidaamcnpkab
