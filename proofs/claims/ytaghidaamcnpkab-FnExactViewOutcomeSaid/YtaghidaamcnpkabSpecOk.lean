/-
  The contract of the reference model's ProgramOk: it comes to the same plain function as the program's, and makes memory alone.
-/
import Derived.Test.YtaghidaamcnpkabIsProg
namespace Go.Proofs.Ytaghidaamcnpkab
open Go.RowKit Pl
set_option maxHeartbeats 400000
set_option linter.unusedVariables false

/-- A program's answer: a program of the call's own, and whether there is one. -/
def Answer (w : World) (E : List (List Sm)) (ok : Bool) (e : Ending) (w' : World) : Prop :=
  ∃ A c, e = .returned (.tuple #[.agg #[.slice A E.length c], .bool ok]) ∧ Below w.heap.size w w' ∧ OwnRows2 w' w.heap.size w'.heap.size A E
def hasB (L : List (List Sm)) (th : Int) : Bool := progB L && inB th 0 ((L.length : Int) - 1)
def woB (L : List (List Sm)) (th at_ : Int) : Bool := hasB L th && inB at_ 0 (((L.getD th.toNat []).length : Int) - 1)
def woE (L : List (List Sm)) (th at_ : Int) : List (List Sm) := if woB L th at_ then L.set th.toNat ((L.getD th.toNat []).eraseIdx at_.toNat) else []

theorem inB_iff {n lo hi : Int} : inB n lo hi = true ↔ lo ≤ n ∧ n ≤ hi := by simp [inB]
theorem prog_small {L : List (List Sm)} (h : progB L = true) : 1 ≤ L.length ∧ L.length ≤ 3 ∧ ∀ xs ∈ L, xs.length ≤ 6 := by
  simp only [progB, Bool.and_eq_true, decide_eq_true_eq, List.all_eq_true] at h
  exact ⟨h.1.1, h.1.2, fun xs hx => thr_len (h.2.1 xs hx)⟩

theorem splice_erase (xs : List Sm) (a : Nat) : splice xs a (a + 1) [] = xs.eraseIdx a := by
  rw [splice, List.nil_append, List.eraseIdx_eq_take_drop_succ]

end Go.Proofs.Ytaghidaamcnpkab
namespace Go.Proofs.Ytaghidaamcnpkab
open Go.RowKit Pl
set_option maxHeartbeats 400000
set_option linter.unusedVariables false

theorem sprog_any (A : Option Addr) (L : List (List Sm)) (c : Nat) (w : World) (B : Nat) (h : Rows2 w B A L) (hB : B ≤ w.heap.size) (hm : L.length ≤ 1048576) (hm2 : Hid (∀ xs ∈ L, xs.length ≤ 1048576)) (r : Bool) (hr : Hid (progB L = r)) :
    Calls Try.prog 66 #[.agg #[.slice A L.length c]] w fun e w' => e = .returned (.bool r) ∧ Below w.heap.size w w' := by
  have hfin : Hid (((L.all thrB) && (inB (L.length : Int) 1 3 && decide (0 + total L ≤ 9))) = r) := Lib.hid (by
    rw [← hr.out, progB, inB]
    rw [show decide ((1 : Int) ≤ (L.length : Int)) = decide (1 ≤ L.length) from by rw [decide_eq_decide]; omega, show decide ((L.length : Int) ≤ 3) = decide (L.length ≤ 3) from by rw [decide_eq_decide]; omega, Nat.zero_add]
    cases L.all thrB <;> cases decide (1 ≤ L.length) <;> cases decide (L.length ≤ 3) <;> rfl)
  clear hr
  obtain ⟨W, hW⟩ : ∃ W, W = w.alloc (.cells #[.slice A L.length c] 32) := ⟨_, rfl⟩
  have hbW : Below w.heap.size w W := by rw [hW]; go_grown
  have hsW : W.heap.size = w.heap.size + 1 := by rw [hW]; simp
  have kW : Bk W w.heap.size 32 #[.slice A L.length c] := by rw [hW]; exact Bk.new _ _ _
  have HbW := Lib.hid hbW
  have HsW := Lib.hid hsW
  have KW := Lib.hid kW
  have HR := Lib.hid (h.below hbW hB)
  have HBW : Hid (B ≤ W.heap.size) := Lib.hid (by omega)
  have HW := Lib.hid hW
  clear hW hbW hsW kW h
  go_enter Try.func66, Try.ntmps66
  go_wp2
  rw [← HW.out]
  go_loopw [3, 4] (fun t i wr => ∃ k s : Nat, k ≤ L.length ∧ i = .int .i64 k ∧ t = .int .i64 s ∧ s ≤ 6 * k ∧ Below W.heap.size W wr ∧ Hid (((L.drop k).all thrB && (inB (L.length : Int) 1 3 && decide (s + total (L.drop k) ≤ 9))) = r)) (fun _ i _ => L.length - (intOf i).toNat)
  case atStart => exact ⟨0, 0, Nat.zero_le _, rfl, rfl, by omega, Below.refl _ _, by simpa using hfin⟩
  case round =>
    obtain ⟨k, s, hk, rfl, rfl, hs6, hbel, hrest⟩ := hrel
    clear hfin
    have hz := hbel.size
    have hbox : wr.cell? ⟨w.heap.size, 0, none⟩ = some (.slice A L.length c) := (KW.out.below hbel KW.out.lt).cell 0
    by_cases hlt : k < L.length
    · obtain ⟨b, off, xs, Ai, ci, rfl, hb, hx, hd, hx0, hlx, hmx, hrow⟩ := (HR.out.below hbel HBW.out).at_ hlt
      have Hd := Lib.hid hd
      have hlen : xs.length ≤ 1048576 := hm2.out xs (List.mem_of_getElem? hx)
      clear hd hx
      by_cases h6 : 6 < xs.length
      · go_wp2
        go_ret
        refine ⟨?_, below_on HbW.out hbel⟩
        have := hrest.out
        rw [Hd.out, List.all_cons, show thrB xs = false from by simp [thrB]; omega] at this
        rw [← this]; rfl
      · have hrest2 : Hid (((xs.drop 0).all Sm.okb && ((L.drop (k + 1)).all thrB && (inB (L.length : Int) 1 3 && decide (s + xs.length + total (L.drop (k + 1)) ≤ 9)))) = r) := Lib.hid (by
          have := hrest.out
          rw [Hd.out, List.all_cons, thrB, decide_eq_true (show xs.length ≤ 6 by omega), total_cons] at this
          rw [← this, Nat.add_assoc]; simp [Bool.and_assoc])
        clear hrest
        obtain ⟨R, hR⟩ : ∃ R, ((L.drop (k + 1)).all thrB && (inB (L.length : Int) 1 3 && decide (s + xs.length + total (L.drop (k + 1)) ≤ 9))) = R := ⟨_, rfl⟩
        rw [hR] at hrest2
        have HR2 := Lib.hid hR
        clear hR
        have hgw : w.heap.size < wr.heap.size := by have := HsW.out; omega
        have hbw : b < wr.heap.size := by have := HBW.out; omega
        go_wp2_with fail
        obtain ⟨wo, rfl⟩ : ∃ wo : World, wo = wr := ⟨_, rfl⟩
        go_loopw [5] (fun j w2 => ∃ m : Nat, m ≤ xs.length ∧ j = .int .i64 m ∧ Below wo.heap.size wo w2 ∧ Hid (((xs.drop m).all Sm.okb && R) = r)) (fun j _ => xs.length - (intOf j).toNat)
        case atStart => exact ⟨0, Nat.zero_le _, rfl, Below.refl _ _, hrest2⟩
        case round =>
          obtain ⟨m, hmm, rfl, hb2, hrest3⟩ := hrel
          clear hrest2
          have hz2 := hb2.size
          have hbox2 := (hb2.cell (p := ⟨w.heap.size, 0, none⟩) hgw).trans hbox
          have hx02 := (hb2.cell (p := ⟨b, off + k, none⟩) hbw).trans hx0
          by_cases hlm : m < xs.length
          · obtain ⟨b', off', x, rfl, hb', hx', hd', hx0', hx1', hx2', hx3', hx4'⟩ := (hrow.below hb2 (by have := HBW.out; omega)).at_ hlm
            have Hd' := Lib.hid hd'
            clear hd' hx' hbox hx0
            rcases Bool.eq_false_or_eq_true x.okb with he | he
            all_goals
              have He : Hid (okB x.k x.a x.b x.c x.s = _) := Lib.hid he
              clear he
              go_wp2_with (go_at_call 111; refine (ret_bool He.out (sok_any x.k x.a x.b x.c x.s _)).mono ?_; rintro e w3 ⟨rfl, hb3⟩; have hB3 : Below wo.heap.size wo w3 := below_on hb2 hb3; clear hb3)
            · go_roundw
              case rel => exact ⟨m + 1, by omega, by go_num, hB3, Lib.hid (by
                have := hrest3.out
                rw [Hd'.out, List.all_cons, show x.okb = true from He.out] at this
                simpa using this)⟩
              case measure => simp [intOf]; omega
            · go_ret
              refine ⟨?_, below_on HbW.out (below_on hbel hB3)⟩
              have := hrest3.out
              rw [Hd'.out, List.all_cons, show x.okb = false from He.out] at this
              rw [← this]; rfl
          · have hlast : Hid (R = r) := Lib.hid (by
              have := hrest3.out
              rw [List.drop_eq_nil_of_le (by omega)] at this
              simpa using this)
            clear hrest3
            go_wp2
            go_roundw
            case rel => exact ⟨k + 1, s + xs.length, by omega, by go_num, by go_num, by omega, below_on hbel hb2, Lib.hid (HR2.out.trans hlast.out)⟩
            case measure => simp [intOf]; omega
    · have hlast : Hid (r = (inB (L.length : Int) 1 3 && decide (s ≤ 9))) := Lib.hid (by
        have := hrest.out
        rw [List.drop_eq_nil_of_le (by omega)] at this
        rw [← this]; simp [total])
      go_wp2_with (go_at_call 47; refine (l1In_any _ _ _ _).mono ?_; rintro e w' ⟨rfl, rfl⟩)
      all_goals
        go_ret
        refine ⟨?_, below_on HbW.out hbel⟩
        rw [hlast.out]
        first | (simp [*]; done) | (simp [*]; omega)
end Go.Proofs.Ytaghidaamcnpkab
