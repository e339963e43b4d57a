/-
  The walk of the law on ProgramOk: it comes to true, whatever the program and the memory, and leaves all memory that was there as it was.
-/
import Derived.Test.YtjbgjhcljmikcaaSpecOk
import Derived.Test.YtjbgjhcljmikcaaSize
import Derived.Test.YtjbgjhcljmikcaaEq
import Derived.Test.YtjbgjhcljmikcaaCopy
import Derived.Deep.RegionHeld3
namespace Go.Proofs.Ytjbgjhcljmikcaa
open Go.RowKit Pl Go.BigFrame
set_option maxHeartbeats 400000
set_option linter.unusedVariables false

theorem box_kept {W V : World} {b : Nat} {v : Value} {t : TypeId} (k : Bk W b t #[v]) (h : Below W.heap.size W V) : V.cell? ⟨b, 0, none⟩ = some v := (k.below h k.lt).cell 0

theorem lawprog (A : Option Addr) (c : Nat) (L : List (List Sm)) (w : World) (hR : Rows2 w w.heap.size A L) (hn : L.length ≤ maxLen) :
    Calls Try.prog 5 #[.agg #[.slice A L.length c]] w fun e w' => e = .returned (.bool true) ∧ Below w.heap.size w w' := by
  obtain ⟨W, hW⟩ : ∃ W, W = w.alloc (.cells #[.slice A L.length c] 45) := ⟨_, rfl⟩
  have hbW : Below w.heap.size w W := by rw [hW]; go_grown
  have hsW : W.heap.size = w.heap.size + 1 := by rw [hW]; simp
  have kW : Bk W w.heap.size 45 #[.slice A L.length c] := by rw [hW]; exact Bk.new _ _ _
  have cW : W.cell? ⟨w.heap.size, 0, none⟩ = some (.slice A L.length c) := kW.cell 0
  have HbW := Lib.hid hbW
  have HsW := Lib.hid hsW
  have KW := Lib.hid kW
  have HR := Lib.hid (hR.below hbW (Nat.le_refl _))
  have HBW : Hid (w.heap.size ≤ W.heap.size) := Lib.hid (by omega)
  have HW := Lib.hid hW
  obtain ⟨z, hz⟩ : ∃ z, sz2 1048576 L = z := ⟨_, rfl⟩
  have Hz := Lib.hid hz
  have hz1 : -1 ≤ z := by rw [← hz]; exact sz2_ge _ _
  clear hW hsW kW hR hz
  by_cases h0 : z < 0
  · go_enter Try.func5, Try.ntmps5
    go_wp2_with fail
    rw [← HW.out]
    refine (szP_any A L c 1048576 W _ HR.out HBW.out hn (by omega) (by omega) z Hz hz1).mono ?_
    rintro e w1 ⟨rfl, hb⟩
    have hB := below_on hbW hb
    clear hb hbW cW
    go_wp2
    go_ret
    exact ⟨rfl, hB⟩
  · obtain ⟨hl, hl2⟩ := small_of_sz (L := L) (by rw [Hz.out]; omega)
    have Hl2 := Lib.hid hl2
    obtain ⟨r, hr⟩ : ∃ r, progB L = r := ⟨_, rfl⟩
    have Hr := Lib.hid hr
    clear hl2 hr hbW
    go_enter Try.func5, Try.ntmps5
    go_wp2_with fail
    rw [← HW.out]
    refine (szP_any A L c 1048576 W _ HR.out HBW.out hn (by omega) (by omega) z Hz hz1).mono ?_
    rintro e w1 ⟨rfl, hb1⟩
    have hc1 := box_kept KW.out hb1
    have B1 := Lib.hid hb1
    clear hb1 cW
    go_wp2_with fail
    refine (toP_any A L c w1 _ (HR.out.below B1.out HBW.out) (by have := B1.out.size; have := HBW.out; omega) hl Hl2).mono ?_
    rintro e w2 ⟨A2, c2, rfl, hb2, own2⟩
    have B2 := Lib.hid (below_on B1.out hb2)
    have O2 := Lib.hid own2.rows
    clear hb2 own2 hc1
    go_wp2_with fail
    refine (sprog_any A2 L c2 w2 _ O2.out (Nat.le_refl _) hl Hl2 r Hr).mono ?_
    rintro e w3 ⟨rfl, hb3⟩
    have B3 := Lib.hid (below_on B2.out hb3)
    have hc3 := box_kept KW.out B3.out
    clear hb3
    go_wp2_with fail
    refine (toP_any A L c w3 _ (HR.out.below B3.out HBW.out) (by have := B3.out.size; have := HBW.out; omega) hl Hl2).mono ?_
    rintro e w4 ⟨A4, c4, rfl, hb4, own4⟩
    have B4 := Lib.hid (below_on B3.out hb4)
    have O4 := Lib.hid own4.rows
    clear hb4 own4 hc3
    go_wp2_with fail
    obtain ⟨W5, hW5⟩ : ∃ V, V = w4.alloc (.cells #[.slice A4 L.length c4] 25) := ⟨_, rfl⟩
    have b5 : Below w4.heap.size w4 W5 := by rw [hW5]; go_grown
    have k5 : Bk W5 w4.heap.size 25 #[.slice A4 L.length c4] := by rw [hW5]; exact Bk.new _ _ _
    rw [← hW5]
    have K5 := Lib.hid k5
    have B5 := Lib.hid (below_on B4.out b5)
    have O5 := Lib.hid (O4.out.below b5 (Nat.le_refl _))
    have hz5 : w4.heap.size ≤ W5.heap.size := b5.size
    clear hW5 b5 k5
    refine (iprog_any A4 L c4 W5 w4.heap.size O5.out hz5 hn r Hr).mono ?_
    rintro e w6 ⟨rfl, hb6⟩
    have hx6 := box_kept K5.out hb6
    have B56 := Lib.hid hb6
    have O6 := Lib.hid (O5.out.below hb6 hz5)
    have B6 := Lib.hid (below_on B5.out hb6)
    have hc6 := box_kept KW.out B6.out
    have hz6 := Nat.le_trans hz5 hb6.size
    clear hb6
    go_wp2_with fail
    go_region_held3 (fun w' => w'.cell? ⟨w4.heap.size, 0, none⟩ = some (.slice A4 L.length c4) ∧ w'.cell? ⟨w.heap.size, 0, none⟩ = some (.slice A L.length c)) (first | (exact ⟨hx6, hc6⟩) | (exact ⟨hx7, hc7⟩) | (exact ⟨hx8, hc8⟩)) (first | (go_at_call 26; refine (toP_any A L c w6.drew _ (HR.out.below B6.out.drew HBW.out) (show w.heap.size ≤ w6.heap.size from Nat.le_trans HBW.out B6.out.size) hl Hl2).mono ?_; rintro e w7 ⟨A7, c7, rfl, hb7, own7⟩; have B7 := Lib.hid (below_on B6.out.drew hb7); have B57 := Lib.hid (below_on B56.out.drew hb7); have hx7 := box_kept K5.out B57.out; have hc7 := box_kept KW.out B7.out; have O47 := Lib.hid (O6.out.up (B'' := w7.heap.size) ((Below.refl w6.heap.size w6).drew.trans hb7) hz6 (Nat.le_trans hz6 (show w6.heap.size ≤ w7.heap.size from hb7.size))); have O7 := Lib.hid own7.rows; clear hb7 own7) | (go_at_call 27; refine (eqP_any A4 A7 L L c4 c7 w7 w7.heap.size O47.out O7.out (Nat.le_refl _) hn hn true (Lib.hid (by simp))).mono ?_; rintro e w8 ⟨rfl, hb8⟩; have B8 := Lib.hid (below_on B7.out hb8); have hx8 := box_kept K5.out (below_on B57.out hb8); have hc8 := box_kept KW.out B8.out; clear hb8))
    have hfin := below_on HbW.out B8.out
    go_wp2
    go_ret
    exact ⟨rfl, hfin⟩
end Go.Proofs.Ytjbgjhcljmikcaa
