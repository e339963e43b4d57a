/-
  The record Spread in memory: the same cells as Buffered; what the laws' helpers on it come to.
-/
import Derived.Test.YtnadihepgmbhaaaBuf
import Derived.Test.YtnadihepgmbhaaaSt
import Derived.Test.YtnadihepgmbhaaaIssA
namespace Go.Proofs.Ytnadihepgmbhaaa
open Go.RowKit Pl
set_option maxHeartbeats 1000000
set_option maxRecDepth 100000
set_option linter.unusedVariables false

abbrev Spr := Buf
abbrev SprH := BufH
abbrev SprV := BufV
abbrev SprN := BufN
abbrev SprE := BufE
abbrev SprR := BufR
abbrev SprL := BufL
abbrev SprS := BufS
abbrev SprI := BufI
abbrev SprO := BufO
theorem SprS_L {o : Spr} (s : SprS o) : SprL o maxLen := BufS_L s
abbrev szSpr := szBuf
theorem szSpr_ge (a : Int) (o : Spr) (ha : 0 ≤ a) : -1 ≤ szSpr a o ∧ szSpr a o ≤ a := szBuf_ge a o ha
theorem szSpr_small {a : Int} {o : Spr} (h : 0 ≤ szSpr a o) (ha : 0 ≤ a) (ha2 : a ≤ 1048576) : SprS o := szBuf_small h ha ha2
abbrev upSpr := upBuf
abbrev allSpr := allBuf
abbrev AnsSpr := AnsBuf
abbrev AnsISpr := AnsIBuf
theorem szSpr_any (h : BufH) (o : Buf) (left : Int) (w : World) (B : Nat) (hR : BufR w B h o) (hB : B ≤ w.heap.size) (hL : BufL o maxLen) (h0 : 0 ≤ left) (h1 : left ≤ 1048576) (r : Int) (hr : Hid (szBuf left o = r)) :
    Calls Try.prog 22 #[BufV h o, .int .i64 left] w fun e w' => e = .returned (.int .i64 r) ∧ Below w.heap.size w w' := by
  obtain ⟨Ls, Lb⟩ := hL
  obtain ⟨q, hq⟩ : ∃ q, szSta left o.st = q := ⟨_, rfl⟩
  have uq : -1 ≤ q ∧ q ≤ left := by rw [← hq]; exact szSta_ge _ _ h0
  have Q := Lib.hid hq
  obtain ⟨W, hW⟩ : ∃ W, W = w.alloc (.cells #[.slice h.h.A0 o.st.f0.length h.h.c0, .slice h.h.A1 o.st.f1.length h.h.c1, .slice h.h.A2 o.st.f2.length h.h.c2, .slice h.h.A3 o.st.f3.length h.h.c3, .slice h.h.A4 o.st.f4.length h.h.c4, .slice h.k.A o.bs.length h.k.c] 45) := ⟨_, rfl⟩
  have bW : Below w.heap.size w W := by rw [hW]; go_grown
  have k0 : Bk W w.heap.size 45 #[.slice h.h.A0 o.st.f0.length h.h.c0, .slice h.h.A1 o.st.f1.length h.h.c1, .slice h.h.A2 o.st.f2.length h.h.c2, .slice h.h.A3 o.st.f3.length h.h.c3, .slice h.h.A4 o.st.f4.length h.h.c4, .slice h.k.A o.bs.length h.k.c] := by rw [hW]; exact Bk.new w _ _
  have zW := bW.size
  have HR := Lib.hid (hR.below bW hB)
  have K0 := Lib.hid k0
  have BW := Lib.hid bW
  have HW := Lib.hid hW
  clear hW bW k0 hR hq
  by_cases n0 : q < 0
  · have hfin : Hid (r = -1) := Lib.hid (by rw [← hr.out, szBuf, Q.out, if_pos n0])
    clear hr
    go_enter Try.func22, Try.ntmps22
    go_wp2_with fail
    rw [← HW.out]
    refine (szSta_any h.h o.st left W B HR.out.s (by omega) Ls h0 h1 q Q).mono ?_
    rintro e w1 ⟨rfl, hb1⟩
    have B1 := Lib.hid (below_on BW.out hb1)
    clear hb1
    go_wp2
    go_ret
    exact ⟨by rw [hfin.out]; rfl, B1.out⟩
  · have hfin : Hid (szIss q o.bs = r) := Lib.hid (by rw [← hr.out, szBuf, Q.out, if_neg n0])
    clear hr
    have ur : -1 ≤ r ∧ r ≤ q := by rw [← hfin.out]; exact szIss_ge _ _ (by omega)
    by_cases n1 : r < 0
    all_goals
      have hend : Hid (r < 0 → r = -1) := Lib.hid (by omega)
      go_enter Try.func22, Try.ntmps22
      go_wp2_with fail
      rw [← HW.out]
      refine (szSta_any h.h o.st left W B HR.out.s (by omega) Ls h0 h1 q Q).mono ?_
      rintro e w1 ⟨rfl, hb1⟩
      have B1 := Lib.hid (below_on BW.out hb1)
      have K1 := Lib.hid (K0.out.below hb1 K0.out.lt)
      have R1 := Lib.hid (HR.out.below hb1 (by omega))
      clear hb1
      have c5 : w1.cell? ⟨w.heap.size, 5, none⟩ = some (.slice h.k.A o.bs.length h.k.c) := K1.out.cell 5
      go_wp2_with fail
      refine (szIss_any h.k o.bs q w1 B R1.out.b Lb (by omega) (by omega) r hfin).mono ?_
      rintro e w2 ⟨rfl, rfl⟩
      clear c5
      go_wp2
      go_ret
      first | exact ⟨rfl, B1.out⟩ | exact ⟨by rw [hend.out n1]; rfl, B1.out⟩
theorem toSpr_any (h : BufH) (o : Buf) (w : World) (B : Nat) (hR : BufR w B h o) (hB : B ≤ w.heap.size) (hL : BufS o) :
    Calls Try.prog 24 #[BufV h o] w (ToBuf w o) := by
  obtain ⟨Ls, Lb⟩ := hL
  obtain ⟨W, hW⟩ : ∃ W, W = ((w.alloc (.cells #[.slice h.h.A0 o.st.f0.length h.h.c0, .slice h.h.A1 o.st.f1.length h.h.c1, .slice h.h.A2 o.st.f2.length h.h.c2, .slice h.h.A3 o.st.f3.length h.h.c3, .slice h.h.A4 o.st.f4.length h.h.c4, .slice h.k.A o.bs.length h.k.c] 45)).alloc (.cells #[.slice none 0 0, .slice none 0 0, .slice none 0 0, .slice none 0 0, .slice none 0 0, .slice none 0 0] 31)).alloc (.cells #[.slice none 0 0, .slice none 0 0, .slice none 0 0, .slice none 0 0, .slice none 0 0, .slice none 0 0] 31) := ⟨_, rfl⟩
  have bW : Below w.heap.size w W := by rw [hW]; go_grown
  have sW : W.heap.size = w.heap.size + 1 + 1 + 1 := by rw [hW]; simp
  have k0 : Bk W w.heap.size 45 #[.slice h.h.A0 o.st.f0.length h.h.c0, .slice h.h.A1 o.st.f1.length h.h.c1, .slice h.h.A2 o.st.f2.length h.h.c2, .slice h.h.A3 o.st.f3.length h.h.c3, .slice h.h.A4 o.st.f4.length h.h.c4, .slice h.k.A o.bs.length h.k.c] := by rw [hW]; exact ((Bk.new w _ _).alloc _).alloc _
  have k1 : Bk W (w.heap.size + 1) 31 #[.slice none 0 0, .slice none 0 0, .slice none 0 0, .slice none 0 0, .slice none 0 0, .slice none 0 0] := by
    rw [hW]; have := (Bk.new (w.alloc (.cells #[.slice h.h.A0 o.st.f0.length h.h.c0, .slice h.h.A1 o.st.f1.length h.h.c1, .slice h.h.A2 o.st.f2.length h.h.c2, .slice h.h.A3 o.st.f3.length h.h.c3, .slice h.h.A4 o.st.f4.length h.h.c4, .slice h.k.A o.bs.length h.k.c] 45)) #[.slice none 0 0, .slice none 0 0, .slice none 0 0, .slice none 0 0, .slice none 0 0, .slice none 0 0] 31).alloc (.cells #[.slice none 0 0, .slice none 0 0, .slice none 0 0, .slice none 0 0, .slice none 0 0, .slice none 0 0] 31)
    rwa [World.size_alloc] at this
  have k2 : Bk W (w.heap.size + 1 + 1) 31 #[.slice none 0 0, .slice none 0 0, .slice none 0 0, .slice none 0 0, .slice none 0 0, .slice none 0 0] := by
    rw [hW]; have := Bk.new ((w.alloc (.cells #[.slice h.h.A0 o.st.f0.length h.h.c0, .slice h.h.A1 o.st.f1.length h.h.c1, .slice h.h.A2 o.st.f2.length h.h.c2, .slice h.h.A3 o.st.f3.length h.h.c3, .slice h.h.A4 o.st.f4.length h.h.c4, .slice h.k.A o.bs.length h.k.c] 45)).alloc (.cells #[.slice none 0 0, .slice none 0 0, .slice none 0 0, .slice none 0 0, .slice none 0 0, .slice none 0 0] 31)) #[.slice none 0 0, .slice none 0 0, .slice none 0 0, .slice none 0 0, .slice none 0 0, .slice none 0 0] 31
    rwa [World.size_alloc, World.size_alloc] at this
  have HR := Lib.hid (hR.below bW hB)
  have K0 := Lib.hid k0
  have K1 := Lib.hid k1
  have K2 := Lib.hid k2
  have BW := Lib.hid bW
  have sWl : w.heap.size + 3 ≤ W.heap.size := by omega
  have HW := Lib.hid hW
  clear hW bW sW k0 k1 k2 hR
  go_enter Try.func24, Try.ntmps24
  go_wp2_with fail
  rw [← HW.out]
  refine (toSta_any h.h o.st W B HR.out.s (by omega) Ls).mono ?_
  rintro e w1 ⟨hs, rfl, hb1, hl1, own⟩
  have Own1 := Lib.hid own
  have B1 := Lib.hid (below_on BW.out hb1)
  have Hb1 := Lib.hid hb1
  have R1 := Lib.hid (HR.out.below hb1 (by omega))
  have K01 := Lib.hid (K0.out.below hb1 K0.out.lt)
  have K11 := Lib.hid (K1.out.below hb1 K1.out.lt)
  have K21 := Lib.hid (K2.out.below hb1 K2.out.lt)
  clear HR K0 K1 K2 own hb1
  have y0 := K21.out.free 0
  have x0 : w1.cell? ⟨w.heap.size + 1 + 1, 0, none⟩ = some (.slice none 0 0) := K21.out.cell 0
  have y1 := K21.out.free 1
  have x1 : w1.cell? ⟨w.heap.size + 1 + 1, 1, none⟩ = some (.slice none 0 0) := K21.out.cell 1
  have y2 := K21.out.free 2
  have x2 : w1.cell? ⟨w.heap.size + 1 + 1, 2, none⟩ = some (.slice none 0 0) := K21.out.cell 2
  have y3 := K21.out.free 3
  have x3 : w1.cell? ⟨w.heap.size + 1 + 1, 3, none⟩ = some (.slice none 0 0) := K21.out.cell 3
  have y4 := K21.out.free 4
  have x4 : w1.cell? ⟨w.heap.size + 1 + 1, 4, none⟩ = some (.slice none 0 0) := K21.out.cell 4
  have v5 : w1.cell? ⟨w.heap.size, 5, none⟩ = some (.slice h.k.A o.bs.length h.k.c) := K01.out.cell 5
  go_wp2_with fail
  obtain ⟨X1, hX⟩ : ∃ V, V = (((((w1.setCell ⟨w.heap.size + 1 + 1, 0, none⟩ (.slice hs.A0 o.st.f0.length hs.c0)).setCell ⟨w.heap.size + 1 + 1, 1, none⟩ (.slice hs.A1 o.st.f1.length hs.c1)).setCell ⟨w.heap.size + 1 + 1, 2, none⟩ (.slice hs.A2 o.st.f2.length hs.c2)).setCell ⟨w.heap.size + 1 + 1, 3, none⟩ (.slice hs.A3 o.st.f3.length hs.c3)).setCell ⟨w.heap.size + 1 + 1, 4, none⟩ (.slice hs.A4 o.st.f4.length hs.c4)) := ⟨_, rfl⟩
  rw [← hX]
  have bX : Below w.heap.size w1 X1 := by rw [hX]; exact ((((((Below.refl _ _).setCell (by show _ ≤ w.heap.size + 1 + 1; omega) _).setCell (by show _ ≤ w.heap.size + 1 + 1; omega) _).setCell (by show _ ≤ w.heap.size + 1 + 1; omega) _).setCell (by show _ ≤ w.heap.size + 1 + 1; omega) _).setCell (by show _ ≤ w.heap.size + 1 + 1; omega) _)
  have sX : X1.heap.size = w1.heap.size := by rw [hX]; simp
  have nX : ∀ q, q ≠ w.heap.size + 1 + 1 → X1.heap[q]? = w1.heap[q]? := fun q hq => by rw [hX]; exact (Below.heap_setCell _ _ _ q hq).trans ((Below.heap_setCell _ _ _ q hq).trans ((Below.heap_setCell _ _ _ q hq).trans ((Below.heap_setCell _ _ _ q hq).trans (Below.heap_setCell _ _ _ q hq))))
  have K12 := Lib.hid (show Bk X1 (w.heap.size + 1) _ _ from (nX _ (by omega)).trans K11.out)
  have K22 : Hid (Bk X1 (w.heap.size + 1 + 1) 31 #[.slice hs.A0 o.st.f0.length hs.c0, .slice hs.A1 o.st.f1.length hs.c1, .slice hs.A2 o.st.f2.length hs.c2, .slice hs.A3 o.st.f3.length hs.c3, .slice hs.A4 o.st.f4.length hs.c4, .slice none 0 0]) := Lib.hid (by rw [hX]; have := (((((K21.out.set 0 (.slice hs.A0 o.st.f0.length hs.c0)).set 1 (.slice hs.A1 o.st.f1.length hs.c1)).set 2 (.slice hs.A2 o.st.f2.length hs.c2)).set 3 (.slice hs.A3 o.st.f3.length hs.c3)).set 4 (.slice hs.A4 o.st.f4.length hs.c4)); simpa using this)
  have R2 := Lib.hid (show BufR X1 B h o from R1.out.below bX (by omega))
  have Own2 := Lib.hid (Own1.out.keep (Nat.le_refl _) (Nat.le_refl _) fun q h1 h2 => nX q (by omega))
  have B2 := Lib.hid (B1.out.trans bX)
  have sXl := Nat.le_of_eq sX
  have sXr := Nat.le_of_eq sX.symm
  clear v5 R1 K01 K11 K21 Own1 hX sX nX bX Hb1 x0 y0 x1 y1 x2 y2 x3 y3 x4 y4
  refine (toIss_any h.k o.bs X1 B R2.out.b (by omega) Lb).mono ?_
  rintro e w2 ⟨hk, rfl, hb2, hl2, own⟩
  have Own3 := Lib.hid own
  have Own4 := Lib.hid (Own2.out.below hb2 (by omega))
  have B3 := Lib.hid (B2.out.trans (hb2.mono (by omega)))
  have K13 := Lib.hid (K12.out.below hb2 K12.out.lt)
  have K23 := Lib.hid (K22.out.below hb2 K22.out.lt)
  clear own Own2 B2 K12 K22 R2 hb2
  have fr0 := K13.out.free 0
  have xr0 : w2.cell? ⟨w.heap.size + 1, 0, none⟩ = some (.slice none 0 0) := K13.out.cell 0
  have fr1 := K13.out.free 1
  have xr1 : w2.cell? ⟨w.heap.size + 1, 1, none⟩ = some (.slice none 0 0) := K13.out.cell 1
  have fr2 := K13.out.free 2
  have xr2 : w2.cell? ⟨w.heap.size + 1, 2, none⟩ = some (.slice none 0 0) := K13.out.cell 2
  have fr3 := K13.out.free 3
  have xr3 : w2.cell? ⟨w.heap.size + 1, 3, none⟩ = some (.slice none 0 0) := K13.out.cell 3
  have fr4 := K13.out.free 4
  have xr4 : w2.cell? ⟨w.heap.size + 1, 4, none⟩ = some (.slice none 0 0) := K13.out.cell 4
  have fr5 := K13.out.free 5
  have xr5 : w2.cell? ⟨w.heap.size + 1, 5, none⟩ = some (.slice none 0 0) := K13.out.cell 5
  have xo0 : w2.cell? ⟨w.heap.size + 1 + 1, 0, none⟩ = some (.slice hs.A0 o.st.f0.length hs.c0) := K23.out.cell 0
  have xo1 : w2.cell? ⟨w.heap.size + 1 + 1, 1, none⟩ = some (.slice hs.A1 o.st.f1.length hs.c1) := K23.out.cell 1
  have xo2 : w2.cell? ⟨w.heap.size + 1 + 1, 2, none⟩ = some (.slice hs.A2 o.st.f2.length hs.c2) := K23.out.cell 2
  have xo3 : w2.cell? ⟨w.heap.size + 1 + 1, 3, none⟩ = some (.slice hs.A3 o.st.f3.length hs.c3) := K23.out.cell 3
  have xo4 : w2.cell? ⟨w.heap.size + 1 + 1, 4, none⟩ = some (.slice hs.A4 o.st.f4.length hs.c4) := K23.out.cell 4
  have y5 := K23.out.free 5
  have x5 : w2.cell? ⟨w.heap.size + 1 + 1, 5, none⟩ = some (.slice none 0 0) := K23.out.cell 5
  obtain ⟨F, hF⟩ : ∃ F, F = (((((((w2.setCell ⟨w.heap.size + 1 + 1, 5, none⟩ (.slice hk.A o.bs.length hk.c)).setCell ⟨w.heap.size + 1, 0, none⟩ (.slice hs.A0 o.st.f0.length hs.c0)).setCell ⟨w.heap.size + 1, 1, none⟩ (.slice hs.A1 o.st.f1.length hs.c1)).setCell ⟨w.heap.size + 1, 2, none⟩ (.slice hs.A2 o.st.f2.length hs.c2)).setCell ⟨w.heap.size + 1, 3, none⟩ (.slice hs.A3 o.st.f3.length hs.c3)).setCell ⟨w.heap.size + 1, 4, none⟩ (.slice hs.A4 o.st.f4.length hs.c4)).setCell ⟨w.heap.size + 1, 5, none⟩ (.slice hk.A o.bs.length hk.c)) := ⟨_, rfl⟩
  have kF : Bk F (w.heap.size + 1) 31 #[.slice hs.A0 o.st.f0.length hs.c0, .slice hs.A1 o.st.f1.length hs.c1, .slice hs.A2 o.st.f2.length hs.c2, .slice hs.A3 o.st.f3.length hs.c3, .slice hs.A4 o.st.f4.length hs.c4, .slice hk.A o.bs.length hk.c] := by
    rw [hF]; have a0 := K13.out.far (p := ⟨w.heap.size + 1 + 1, 5, none⟩) (by show w.heap.size + 1 ≠ w.heap.size + 1 + 1; omega) (.slice hk.A o.bs.length hk.c)
    have a1 := a0.set 0 (.slice hs.A0 o.st.f0.length hs.c0)
    have a2 := a1.set 1 (.slice hs.A1 o.st.f1.length hs.c1)
    have a3 := a2.set 2 (.slice hs.A2 o.st.f2.length hs.c2)
    have a4 := a3.set 3 (.slice hs.A3 o.st.f3.length hs.c3)
    have a5 := a4.set 4 (.slice hs.A4 o.st.f4.length hs.c4)
    have a6 := a5.set 5 (.slice hk.A o.bs.length hk.c)
    simpa using a6
  have bF : Below w.heap.size w2 F := by rw [hF]; exact ((((((((Below.refl _ _).setCell (by show _ ≤ w.heap.size + 1 + 1; omega) _).setCell (by show _ ≤ w.heap.size + 1; omega) _).setCell (by show _ ≤ w.heap.size + 1; omega) _).setCell (by show _ ≤ w.heap.size + 1; omega) _).setCell (by show _ ≤ w.heap.size + 1; omega) _).setCell (by show _ ≤ w.heap.size + 1; omega) _).setCell (by show _ ≤ w.heap.size + 1; omega) _)
  have nF : ∀ q, w.heap.size + 1 + 1 < q → F.heap[q]? = w2.heap[q]? := fun q hq => by rw [hF]; exact (Below.heap_setCell _ _ _ q (by show q ≠ w.heap.size + 1; omega)).trans ((Below.heap_setCell _ _ _ q (by show q ≠ w.heap.size + 1; omega)).trans ((Below.heap_setCell _ _ _ q (by show q ≠ w.heap.size + 1; omega)).trans ((Below.heap_setCell _ _ _ q (by show q ≠ w.heap.size + 1; omega)).trans ((Below.heap_setCell _ _ _ q (by show q ≠ w.heap.size + 1; omega)).trans ((Below.heap_setCell _ _ _ q (by show q ≠ w.heap.size + 1; omega)).trans (Below.heap_setCell _ _ _ q (by show q ≠ w.heap.size + 1 + 1; omega)))))))
  have sF : w2.heap.size ≤ F.heap.size := by rw [hF]; simp
  have cF0 := kF.cell 0
  have cF1 := kF.cell 1
  have cF2 := kF.cell 2
  have cF3 := kF.cell 3
  have cF4 := kF.cell 4
  have cF5 := kF.cell 5
  simp only [List.getElem?_toArray, List.getElem?_cons_zero, List.getElem?_cons_succ] at cF0 cF1 cF2 cF3 cF4 cF5
  have HF := Lib.hid hF
  clear hF kF
  have CF0 := Lib.hid cF0
  clear cF0
  have CF1 := Lib.hid cF1
  clear cF1
  have CF2 := Lib.hid cF2
  clear cF2
  have CF3 := Lib.hid cF3
  clear cF3
  have CF4 := Lib.hid cF4
  clear cF4
  have CF5 := Lib.hid cF5
  clear cF5
  have NF := Lib.hid nF
  have BF := Lib.hid bF
  clear nF bF
  go_wp2
  rw [← HF.out]
  have cF0 := CF0.out
  have cF1 := CF1.out
  have cF2 := CF2.out
  have cF3 := CF3.out
  have cF4 := CF4.out
  have cF5 := CF5.out
  refine bodyPost_ret (v := .agg #[.slice hs.A0 o.st.f0.length hs.c0, .slice hs.A1 o.st.f1.length hs.c1, .slice hs.A2 o.st.f2.length hs.c2, .slice hs.A3 o.st.f3.length hs.c3, .slice hs.A4 o.st.f4.length hs.c4, .slice hk.A o.bs.length hk.c]) (by simp [results, Try.results24, cF0, cF1, cF2, cF3, cF4, cF5, go_sem]) rfl ?_
  exact ⟨⟨hs, hk⟩, rfl, B3.out.trans BF.out, by omega, W.heap.size, w1.heap.size, X1.heap.size, w2.heap.size, by omega, by omega, by omega, by omega, Or.inl (by omega), Own4.out.keep (Nat.le_refl _) (Nat.le_refl _) fun q h1 h2 => NF.out q (by omega), Own3.out.keep (Nat.le_refl _) (Nat.le_refl _) fun q h1 h2 => NF.out q (by omega)⟩
theorem eqSpr_any (h1 h2 : BufH) (o1 o2 : Buf) (w : World) (B : Nat) (r1 : BufR w B h1 o1) (r2 : BufR w B h2 o2) (hB : B ≤ w.heap.size) (L1 : BufL o1 maxLen) (L2 : BufL o2 maxLen) (r : Bool) (hr : Hid (decide (o1 = o2) = r)) :
    Calls Try.prog 17 #[BufV h1 o1, BufV h2 o2] w fun e w' => e = .returned (.bool r) ∧ Below w.heap.size w w' := by
  obtain ⟨l0, l1⟩ := L1
  obtain ⟨m0, m1⟩ := L2
  obtain ⟨W, hW⟩ : ∃ W, W = (w.alloc (.cells #[.slice h1.h.A0 o1.st.f0.length h1.h.c0, .slice h1.h.A1 o1.st.f1.length h1.h.c1, .slice h1.h.A2 o1.st.f2.length h1.h.c2, .slice h1.h.A3 o1.st.f3.length h1.h.c3, .slice h1.h.A4 o1.st.f4.length h1.h.c4, .slice h1.k.A o1.bs.length h1.k.c] 31)).alloc (.cells #[.slice h2.h.A0 o2.st.f0.length h2.h.c0, .slice h2.h.A1 o2.st.f1.length h2.h.c1, .slice h2.h.A2 o2.st.f2.length h2.h.c2, .slice h2.h.A3 o2.st.f3.length h2.h.c3, .slice h2.h.A4 o2.st.f4.length h2.h.c4, .slice h2.k.A o2.bs.length h2.k.c] 31) := ⟨_, rfl⟩
  have bW : Below w.heap.size w W := by rw [hW]; go_grown
  have k0 : Bk W w.heap.size 31 #[.slice h1.h.A0 o1.st.f0.length h1.h.c0, .slice h1.h.A1 o1.st.f1.length h1.h.c1, .slice h1.h.A2 o1.st.f2.length h1.h.c2, .slice h1.h.A3 o1.st.f3.length h1.h.c3, .slice h1.h.A4 o1.st.f4.length h1.h.c4, .slice h1.k.A o1.bs.length h1.k.c] := by rw [hW]; exact (Bk.new w _ _).alloc _
  have k1 : Bk W (w.heap.size + 1) 31 #[.slice h2.h.A0 o2.st.f0.length h2.h.c0, .slice h2.h.A1 o2.st.f1.length h2.h.c1, .slice h2.h.A2 o2.st.f2.length h2.h.c2, .slice h2.h.A3 o2.st.f3.length h2.h.c3, .slice h2.h.A4 o2.st.f4.length h2.h.c4, .slice h2.k.A o2.bs.length h2.k.c] := by
    rw [hW]; have := Bk.new (w.alloc (.cells #[.slice h1.h.A0 o1.st.f0.length h1.h.c0, .slice h1.h.A1 o1.st.f1.length h1.h.c1, .slice h1.h.A2 o1.st.f2.length h1.h.c2, .slice h1.h.A3 o1.st.f3.length h1.h.c3, .slice h1.h.A4 o1.st.f4.length h1.h.c4, .slice h1.k.A o1.bs.length h1.k.c] 31)) #[.slice h2.h.A0 o2.st.f0.length h2.h.c0, .slice h2.h.A1 o2.st.f1.length h2.h.c1, .slice h2.h.A2 o2.st.f2.length h2.h.c2, .slice h2.h.A3 o2.st.f3.length h2.h.c3, .slice h2.h.A4 o2.st.f4.length h2.h.c4, .slice h2.k.A o2.bs.length h2.k.c] 31
    rwa [World.size_alloc] at this
  have P0 := Lib.hid (r1.below bW hB)
  have Q0 := Lib.hid (r2.below bW hB)
  have K00 := Lib.hid k0
  have K10 := Lib.hid k1
  have B0 := Lib.hid bW
  have z0 := bW.size
  have HW := Lib.hid hW
  clear hW bW k0 k1 r1 r2
  by_cases q0 : o1.st = o2.st
  rotate_left
  · have Y0 := Lib.hid q0
    have hfin : Hid (r = false) := Lib.hid (by rw [← hr.out]; exact decide_eq_false (fun e => Y0.out (by rw [e])))
    clear hr q0
    go_enter Try.func17, Try.ntmps17
    go_wp2_with fail
    rw [← HW.out]
    refine (eqSta_any h1.h h2.h o1.st o2.st W B P0.out.s Q0.out.s (by omega) l0 m0 false (Lib.hid (by simpa using Y0.out))).mono ?_
    rintro e u1 ⟨rfl, hb⟩
    have B1 := Lib.hid (below_on B0.out hb)
    clear hb
    go_wp2
    go_ret
    exact ⟨by rw [hfin.out]; rfl, B1.out⟩
  have Y0 := Lib.hid q0
  clear q0
  obtain ⟨r1, hr1⟩ : ∃ r1, decide (o1.bs = o2.bs) = r1 := ⟨_, rfl⟩
  have R1 := Lib.hid hr1
  have hfin : Hid (r = r1) := Lib.hid (by
    rw [← hr.out, ← hr1]
    cases o1; cases o2
    have := Y0.out
    simp only at this
    subst this
    simp)
  clear hr hr1
  rcases Bool.eq_false_or_eq_true r1 with h | h
  all_goals
    subst h
    go_enter Try.func17, Try.ntmps17
    go_wp2_with fail
    rw [← HW.out]
    refine (eqSta_any h1.h h2.h o1.st o2.st W B P0.out.s Q0.out.s (by omega) l0 m0 true (Lib.hid (by simpa using Y0.out))).mono ?_
    rintro e u1 ⟨rfl, hb⟩
    have B1 := Lib.hid (below_on B0.out hb)
    have P1 := Lib.hid (P0.out.below hb (by omega))
    have Q1 := Lib.hid (Q0.out.below hb (by omega))
    have K01 := Lib.hid (K00.out.below hb K00.out.lt)
    have K11 := Lib.hid (K10.out.below hb K10.out.lt)
    have z1 := hb.size
    clear hb
    have ca : u1.cell? ⟨w.heap.size, 5, none⟩ = some (.slice h1.k.A o1.bs.length h1.k.c) := K01.out.cell 5
    have cb : u1.cell? ⟨w.heap.size + 1, 5, none⟩ = some (.slice h2.k.A o2.bs.length h2.k.c) := K11.out.cell 5
    go_wp2_with fail
    refine (eqIss_m h1.k h2.k o1.bs o2.bs u1 B P1.out.b Q1.out.b (by omega) l1 m1 _ R1).mono ?_
    rintro e u2 ⟨rfl, hb⟩
    have B2 := Lib.hid (below_on B1.out hb)
    clear hb ca cb
    go_wp2
    go_ret
    exact ⟨by rw [hfin.out]; rfl, B2.out⟩
theorem markSpr_any (h : BufH) (o : Buf) (K : Int) (w : World) (lo hi : Nat) (hO : BufO w lo hi h o) (hhi : hi ≤ w.heap.size) (hL : BufS o) (hK : 0 ≤ K) (hK2 : K ≤ 90000000) :
    Calls Try.prog 20 #[BufV h o, .int .i64 K] w fun e w' => e = .returned (.int .i64 (K + allBuf o)) ∧ Only lo hi w w' ∧ BufO w' lo hi h (upBuf K o) := by
  obtain ⟨l0, l1⟩ := hL
  obtain ⟨a, b, c, d, e1, e2, e3, e4, e5, oS, oB⟩ := hO
  have ual := allSta_le l0
  obtain ⟨W, hW⟩ : ∃ W, W = w.alloc (.cells #[.slice h.h.A0 o.st.f0.length h.h.c0, .slice h.h.A1 o.st.f1.length h.h.c1, .slice h.h.A2 o.st.f2.length h.h.c2, .slice h.h.A3 o.st.f3.length h.h.c3, .slice h.h.A4 o.st.f4.length h.h.c4, .slice h.k.A o.bs.length h.k.c] 31) := ⟨_, rfl⟩
  have bW : Below w.heap.size w W := by rw [hW]; go_grown
  have k0 : Bk W w.heap.size 31 #[.slice h.h.A0 o.st.f0.length h.h.c0, .slice h.h.A1 o.st.f1.length h.h.c1, .slice h.h.A2 o.st.f2.length h.h.c2, .slice h.h.A3 o.st.f3.length h.h.c3, .slice h.h.A4 o.st.f4.length h.h.c4, .slice h.k.A o.bs.length h.k.c] := by rw [hW]; exact Bk.new w _ _
  have zW := bW.size
  have JS := Lib.hid (oS.below bW (by omega))
  have JB := Lib.hid (oB.below bW (by omega))
  have On0 := Lib.hid (Only.of_below (lo := lo) (hi := hi) bW)
  have K0 := Lib.hid k0
  have HW := Lib.hid hW
  clear hW bW k0 oS oB
  go_enter Try.func20, Try.ntmps20
  go_wp2_with fail
  rw [← HW.out]
  refine (markSta_any h.h o.st K W a b JS.out (by omega) l0 hK (by omega)).mono ?_
  rintro e u1 ⟨rfl, on, own⟩
  have On1 := Lib.hid (On0.out.trans (on.mono e1 e2))
  have z1 := on.size
  have K1 := Lib.hid (only_bk K0.out on (by omega))
  have J1 := Lib.hid (JB.out.keep (Nat.le_refl _) (Nat.le_refl _) fun i p q => on.block i (by omega) (by omega))
  have S1 := Lib.hid own
  clear on own
  have c5 : u1.cell? ⟨w.heap.size, 5, none⟩ = some (.slice h.k.A o.bs.length h.k.c) := K1.out.cell 5
  go_wp2_with fail
  clear c5
  refine (markIss_any h.k o.bs (K + allSta o.st) u1 c d J1.out (by omega) l1 (by omega) (by omega)).mono ?_
  rintro e u2 ⟨rfl, on, own⟩
  have On2 := Lib.hid (On1.out.trans (on.mono e3 e4))
  have S2 := Lib.hid (S1.out.keep (Nat.le_refl _) (Nat.le_refl _) fun i p q => on.block i (by omega) (by omega))
  have J2 := Lib.hid own
  clear on own
  go_wp2
  go_ret
  exact ⟨by rw [allBuf, Int.add_assoc]; rfl, On2.out, a, b, c, d, e1, e2, e3, e4, e5, S2.out, J2.out⟩
theorem heldSpr_any (h : BufH) (o : Buf) (K : Int) (w : World) (B : Nat) (hR : BufR w B h (upBuf K o)) (hB : B ≤ w.heap.size) (hL : BufS o) (hK : 0 ≤ K) (hK2 : K ≤ 90000000) :
    Calls Try.prog 21 #[BufV h o, .int .i64 K] w fun e w' => e = .returned (.int .i64 (K + allBuf o)) ∧ Below w.heap.size w w' := by
  obtain ⟨l0, l1⟩ := hL
  have ual := allSta_le l0
  have uil : 0 ≤ allIss o.bs := by unfold allIss; omega
  obtain ⟨W, hW⟩ : ∃ W, W = w.alloc (.cells #[.slice h.h.A0 o.st.f0.length h.h.c0, .slice h.h.A1 o.st.f1.length h.h.c1, .slice h.h.A2 o.st.f2.length h.h.c2, .slice h.h.A3 o.st.f3.length h.h.c3, .slice h.h.A4 o.st.f4.length h.h.c4, .slice h.k.A o.bs.length h.k.c] 31) := ⟨_, rfl⟩
  have bW : Below w.heap.size w W := by rw [hW]; go_grown
  have k0 : Bk W w.heap.size 31 #[.slice h.h.A0 o.st.f0.length h.h.c0, .slice h.h.A1 o.st.f1.length h.h.c1, .slice h.h.A2 o.st.f2.length h.h.c2, .slice h.h.A3 o.st.f3.length h.h.c3, .slice h.h.A4 o.st.f4.length h.h.c4, .slice h.k.A o.bs.length h.k.c] := by rw [hW]; exact Bk.new w _ _
  have zW := bW.size
  have R0 := Lib.hid (hR.below bW hB)
  have K0 := Lib.hid k0
  have B0 := Lib.hid bW
  have HW := Lib.hid hW
  clear hW bW k0 hR
  go_enter Try.func21, Try.ntmps21
  go_wp2_with fail
  rw [← HW.out]
  refine (heldSta_any h.h o.st K W B R0.out.s (by omega) l0 hK (by omega)).mono ?_
  rintro e u1 ⟨rfl, hb⟩
  have B1 := Lib.hid (below_on B0.out hb)
  have R1 := Lib.hid (R0.out.below hb (by omega))
  have K1 := Lib.hid (K0.out.below hb K0.out.lt)
  have z1 := hb.size
  clear hb
  have c5 : u1.cell? ⟨w.heap.size, 5, none⟩ = some (.slice h.k.A o.bs.length h.k.c) := K1.out.cell 5
  go_wp2_with fail
  clear c5
  refine (heldIss_any h.k o.bs (K + allSta o.st) u1 B R1.out.b (by omega) l1 (by omega) (by omega)).mono ?_
  rintro e u2 ⟨rfl, hb⟩
  have B2 := Lib.hid (below_on B1.out hb)
  clear hb
  go_wp2
  go_ret
  exact ⟨by rw [allBuf, Int.add_assoc]; rfl, B2.out⟩
end Go.Proofs.Ytnadihepgmbhaaa
