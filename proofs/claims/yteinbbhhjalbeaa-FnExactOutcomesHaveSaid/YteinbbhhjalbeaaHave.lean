/-
  Contracts of OutcomesHave, of the program and of the reference model: both say whether a list has an outcome of the same.
-/
import Derived.Test.YteinbbhhjalbeaaOcs
import Derived.Test.YteinbbhhjalbeaaOrdO
namespace Go.Proofs.Yteinbbhhjalbeaa
open Go.RowKit Pl Go.BigFrame
set_option maxHeartbeats 2000000
set_option maxRecDepth 100000
set_option linter.unusedVariables false

def haveB (L : Ocs) (o : Oc) : Bool := L.any fun x => ordO x o == 0
theorem ihave_any (h : OcsH) (L : Ocs) (k : OcH) (o : Oc) (w : World) (B : Nat) (hL : OcsR w B h L) (hO : OcR w B k o) (hB : B ≤ w.heap.size) (SL : OcsS L) (SO : OcS o) (r : Bool) (hr : Hid (haveB L o = r)) :
    Calls Try.prog 57 #[OcsV h L, OcV k o] w fun e w' => e = .returned (.bool r) ∧ Below w.heap.size w w' := by
  obtain ⟨A, c⟩ := h
  show Calls Try.prog 57 #[.slice A L.length c, OcV k o] w _
  have hl := SL.l
  have HE := Lib.hid SL.e
  obtain ⟨W, hW⟩ : ∃ W, W = w.alloc (.cells #[.slice k.A0 o.f0.length k.c0, .slice k.A1 o.f1.length k.c1, .slice k.A2 o.f2.length k.c2] 68) := ⟨_, rfl⟩
  have bW : Below w.heap.size w W := by rw [hW]; go_grown
  have kW : Bk W w.heap.size 68 #[.slice k.A0 o.f0.length k.c0, .slice k.A1 o.f1.length k.c1, .slice k.A2 o.f2.length k.c2] := by rw [hW]; exact Bk.new _ _ _
  have PL := Lib.hid (hL.below bW hB)
  have PO := Lib.hid (hO.below bW hB)
  have KW := Lib.hid kW
  have BW := Lib.hid bW
  have hBW : B ≤ W.heap.size := Nat.le_trans hB bW.size
  have lW : w.heap.size < W.heap.size := kW.lt
  have HW := Lib.hid hW
  clear hW bW kW hL hO SL
  go_enter Try.func57, Try.ntmps57
  go_wp2
  rw [← HW.out]
  go_loopw [9] (fun i wr => ∃ j : Nat, j ≤ L.length ∧ i = .int .i64 j ∧ Below W.heap.size W wr ∧ Hid (haveB (L.drop j) o = r)) (fun i _ => L.length - (intOf i).toNat)
  case atStart => exact ⟨0, Nat.zero_le _, rfl, Below.refl _ _, by simpa using hr⟩
  case round =>
    obtain ⟨j, hj, rfl, hbel, hrest⟩ := hrel
    clear hr
    by_cases hlt : j < L.length
    · obtain ⟨b, off, x, q, hA, hb, hx, hd, ⟨c0, c1, c2⟩, hrx⟩ := (PL.out.below hbel hBW).at_ hlt
      have HLx := Lib.hid (HE.out x (List.mem_of_getElem? hx))
      have hz := hbel.size
      have hbw : b < wr.heap.size := by omega
      have hwr : w.heap.size < wr.heap.size := by omega
      have hji : (j : Int) < (L.length : Int) := by omega
      have d0 : wr.cell? ⟨w.heap.size, 0, none⟩ = some (.slice k.A0 o.f0.length k.c0) := (KW.out.below hbel lW).cell 0
      have d1 : wr.cell? ⟨w.heap.size, 1, none⟩ = some (.slice k.A1 o.f1.length k.c1) := (KW.out.below hbel lW).cell 1
      have d2 : wr.cell? ⟨w.heap.size, 2, none⟩ = some (.slice k.A2 o.f2.length k.c2) := (KW.out.below hbel lW).cell 2
      obtain ⟨z, hz0⟩ : ∃ z, ordO x o = z := ⟨_, rfl⟩
      have hr2 := hrest.out
      rw [hd, haveB, List.any_cons, hz0] at hr2
      have HZ := Lib.hid hz0
      obtain ⟨U, hU⟩ : ∃ U, U = wr.alloc (.cells #[.slice q.A0 x.f0.length q.c0, .slice q.A1 x.f1.length q.c1, .slice q.A2 x.f2.length q.c2] 68) := ⟨_, rfl⟩
      have bU : Below wr.heap.size wr U := by rw [hU]; go_grown
      have Rx := Lib.hid (hrx.below bU (by omega))
      have Ro := Lib.hid ((PO.out.below hbel hBW).below bU (by omega))
      have BU := Lib.hid (below_on hbel bU)
      have zU : wr.heap.size ≤ U.heap.size := bU.size
      have HU := Lib.hid hU
      clear hx hd hrx hz0 hrest bU hU hbel
      have hA' : A = _ := hA
      subst hA'
      clear hA
      by_cases h0 : z = 0
      · subst h0
        have hlast : Hid (r = true) := Lib.hid (by rw [← hr2]; simp)
        clear hr2
        go_wp2_with fail
        rw [← HU.out]
        refine (iord_any q k x o U B Rx.out Ro.out (by omega) (OcS_L HLx.out) (OcS_L SO) 0 HZ).mono ?_
        rintro e w1 ⟨rfl, hb1⟩
        have hB1 := below_on BW.out (below_on BU.out hb1)
        clear hb1 c0 c1 c2 d0 d1 d2
        go_wp2
        go_ret
        exact ⟨by rw [hlast.out]; rfl, hB1⟩
      · have h0' : (z == 0) = false := by simp [h0]
        have hnext : Hid (haveB (L.drop (j + 1)) o = r) := Lib.hid (by rw [← hr2, h0']; rfl)
        clear hr2 h0
        go_wp2_with fail
        rw [← HU.out]
        refine (iord_any q k x o U B Rx.out Ro.out (by omega) (OcS_L HLx.out) (OcS_L SO) z HZ).mono ?_
        rintro e w1 ⟨rfl, hb1⟩
        have hB1 := below_on BU.out hb1
        clear hb1 c0 c1 c2 d0 d1 d2
        go_wp2
        go_roundw
        case rel => exact ⟨j + 1, by omega, by go_num, hB1, hnext⟩
        case measure => simp [intOf]; omega
    · have hlast : Hid (r = false) := Lib.hid (by rw [← hrest.out, List.drop_eq_nil_of_le (by omega)]; rfl)
      go_wp2
      go_ret
      exact ⟨by rw [hlast.out]; rfl, below_on BW.out hbel⟩

theorem shave_any (h : OcsH) (L : Ocs) (k : OcH) (o : Oc) (w : World) (B : Nat) (hL : OcsR w B h L) (hO : OcR w B k o) (hB : B ≤ w.heap.size) (SL : OcsS L) (SO : OcS o) (r : Bool) (hr : Hid (haveB L o = r)) :
    Calls Try.prog 55 #[OcsV h L, OcV k o] w fun e w' => e = .returned (.bool r) ∧ Below w.heap.size w w' := by
  obtain ⟨A, c⟩ := h
  show Calls Try.prog 55 #[.slice A L.length c, OcV k o] w _
  have hl := SL.l
  have HE := Lib.hid SL.e
  obtain ⟨W, hW⟩ : ∃ W, W = w.alloc (.cells #[.slice k.A0 o.f0.length k.c0, .slice k.A1 o.f1.length k.c1, .slice k.A2 o.f2.length k.c2] 68) := ⟨_, rfl⟩
  have bW : Below w.heap.size w W := by rw [hW]; go_grown
  have kW : Bk W w.heap.size 68 #[.slice k.A0 o.f0.length k.c0, .slice k.A1 o.f1.length k.c1, .slice k.A2 o.f2.length k.c2] := by rw [hW]; exact Bk.new _ _ _
  have PL := Lib.hid (hL.below bW hB)
  have PO := Lib.hid (hO.below bW hB)
  have KW := Lib.hid kW
  have BW := Lib.hid bW
  have hBW : B ≤ W.heap.size := Nat.le_trans hB bW.size
  have lW : w.heap.size < W.heap.size := kW.lt
  have HW := Lib.hid hW
  clear hW bW kW hL hO SL
  go_enter Try.func55, Try.ntmps55
  go_wp2
  rw [← HW.out]
  go_loopw [5] (fun i wr => ∃ j : Nat, j ≤ L.length ∧ i = .int .i64 j ∧ Below W.heap.size W wr ∧ Hid (haveB (L.drop j) o = r)) (fun i _ => L.length - (intOf i).toNat)
  case atStart => exact ⟨0, Nat.zero_le _, rfl, Below.refl _ _, by simpa using hr⟩
  case round =>
    obtain ⟨j, hj, rfl, hbel, hrest⟩ := hrel
    clear hr
    by_cases hlt : j < L.length
    · obtain ⟨b, off, x, q, hA, hb, hx, hd, ⟨c0, c1, c2⟩, hrx⟩ := (PL.out.below hbel hBW).at_ hlt
      have HLx := Lib.hid (HE.out x (List.mem_of_getElem? hx))
      have hz := hbel.size
      have hwr : w.heap.size < wr.heap.size := by omega
      have hji : (j : Int) < (L.length : Int) := by omega
      have hro := PO.out.below hbel hBW
      have Gx := Lib.hid (fun z : Ws (Fr wr []) => hrx.below z.ok.below (by omega))
      have Go_ := Lib.hid (fun z : Ws (Fr wr []) => hro.below z.ok.below (by omega))
      have Gz : Hid (∀ z : Ws (Fr wr []), B ≤ z.val.heap.size) := Lib.hid (fun z => by have := z.ok.below.size; omega)
      have gx0 := Ws.same (bs := []) (by omega) c0
      have gx1 := Ws.same (bs := []) (by omega) c1
      have gx2 := Ws.same (bs := []) (by omega) c2
      have gy0 : ∀ z : Ws (Fr wr []), z.val.cell? ⟨w.heap.size, 0, none⟩ = some (.slice k.A0 o.f0.length k.c0) := Ws.same (bs := []) hwr ((KW.out.below hbel lW).cell 0)
      have gy1 : ∀ z : Ws (Fr wr []), z.val.cell? ⟨w.heap.size, 1, none⟩ = some (.slice k.A1 o.f1.length k.c1) := Ws.same (bs := []) hwr ((KW.out.below hbel lW).cell 1)
      have gy2 : ∀ z : Ws (Fr wr []), z.val.cell? ⟨w.heap.size, 2, none⟩ = some (.slice k.A2 o.f2.length k.c2) := Ws.same (bs := []) hwr ((KW.out.below hbel lW).cell 2)
      have HS := Lib.hid (fr_none wr)
      haveI hne := Nonempty.intro (Ws.mk _ (fr_none wr))
      obtain ⟨z, hz0⟩ : ∃ z, ordO x o = z := ⟨_, rfl⟩
      have hr2 := hrest.out
      rw [hd, haveB, List.any_cons, hz0] at hr2
      have HZ := Lib.hid hz0
      clear hx hd hrx hro hz0 hrest c0 c1 c2
      have hA' : A = _ := hA
      subst hA'
      clear hA
      by_cases h0 : z = 0
      · subst h0
        have hlast : Hid (r = true) := Lib.hid (by rw [← hr2]; simp)
        clear hr2
        go_wp2_with fail
        refine region_in (by kernel_rfl) HS.out.drew ?_
        repeat (go_big_quiet_step ((go_at_call 51; exact call_in (sord_any q k x o _ B (Gx.out _) (Go_.out _) (Gz.out _) HLx.out SO _ HZ))))
        refine wpQuiet_nil ?_
        rintro w2 ⟨⟨_, hw2⟩, rfl⟩
        have hB2 := below_on BW.out (below_on hbel hw2.below)
        clear gx0 gx1 gx2 gy0 gy1 gy2
        go_wp2
        go_ret
        exact ⟨by rw [hlast.out]; rfl, hB2⟩
      · have h0' : (z == 0) = false := by simp [h0]
        have hnext : Hid (haveB (L.drop (j + 1)) o = r) := Lib.hid (by rw [← hr2, h0']; rfl)
        clear hr2 h0
        go_wp2_with fail
        refine region_in (by kernel_rfl) HS.out.drew ?_
        repeat (go_big_quiet_step ((go_at_call 51; exact call_in (sord_any q k x o _ B (Gx.out _) (Go_.out _) (Gz.out _) HLx.out SO _ HZ))))
        refine wpQuiet_nil ?_
        rintro w2 ⟨⟨_, hw2⟩, rfl⟩
        have hB2 := below_on hbel hw2.below
        clear gx0 gx1 gx2 gy0 gy1 gy2
        go_wp2
        go_roundw
        case rel => exact ⟨j + 1, by omega, by go_num, hB2, hnext⟩
        case measure => simp [intOf]; omega
    · have hlast : Hid (r = false) := Lib.hid (by rw [← hrest.out, List.drop_eq_nil_of_le (by omega)]; rfl)
      go_wp2
      go_ret
      exact ⟨by rw [hlast.out]; rfl, below_on BW.out hbel⟩
end Go.Proofs.Yteinbbhhjalbeaa
