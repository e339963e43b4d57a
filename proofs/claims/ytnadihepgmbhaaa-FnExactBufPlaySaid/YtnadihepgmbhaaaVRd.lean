/-
  What BufReads and SpreadReads come to, in the program and in the reference model.
-/
import Derived.Test.YtnadihepgmbhaaaVPk
import Derived.Test.YtnadihepgmbhaaaWithout
import Derived.Deep.RegionHeld3
namespace Go.Proofs.Ytnadihepgmbhaaa
open Go.RowKit Pl Go.BigFrame
set_option maxHeartbeats 4000000
set_option maxRecDepth 100000
set_option linter.unusedVariables false

theorem s7reads_any (k : BufH) (o : Buf) (t p : Nat) (w : World) (B : Nat) (hS : BufR w B k o) (hB : B ≤ w.heap.size) (cs : List Nat) (hrow : o.bs[t]? = some (rowS cs)) (hc : okS cs) (hl : cs.length ≤ 1000) (m : Nat) (hm : o.st.f2[p]? = some (m : Int)) (r : Nat) (hr : Hid (rdC cs p m = r)) :
    Calls Try.prog 87 #[BufV k o, .int .i64 t, .int .i64 p] w fun e w' => e = .returned (.int .i64 r) ∧ Below w.heap.size w w' := by
  obtain ⟨W, hW⟩ : ∃ W, W = w.alloc (.cells #[.slice k.h.A0 o.st.f0.length k.h.c0, .slice k.h.A1 o.st.f1.length k.h.c1, .slice k.h.A2 o.st.f2.length k.h.c2, .slice k.h.A3 o.st.f3.length k.h.c3, .slice k.h.A4 o.st.f4.length k.h.c4, .slice k.k.A o.bs.length k.k.c] 59) := ⟨_, rfl⟩
  have bW : Below w.heap.size w W := by rw [hW]; go_grown
  have k0 : Bk W w.heap.size 59 #[.slice k.h.A0 o.st.f0.length k.h.c0, .slice k.h.A1 o.st.f1.length k.h.c1, .slice k.h.A2 o.st.f2.length k.h.c2, .slice k.h.A3 o.st.f3.length k.h.c3, .slice k.h.A4 o.st.f4.length k.h.c4, .slice k.k.A o.bs.length k.k.c] := by rw [hW]; exact Bk.new _ _ _
  have Q := hS.below bW hB
  have zW := bW.size
  obtain ⟨rb, ro, Ai, ci, hA, hrb, hx0, hrw⟩ := Q.b.v.at_ (vsIss_at hrow)
  rw [ints_length] at hx0
  obtain ⟨mb, mo, hM, hmb, hmc⟩ := Q.s.r2 (by rw [ints_length]; have := (List.getElem?_eq_some_iff.1 hm).1; omega)
  have cm : W.cell? ⟨mb, mo + p, none⟩ = some (.int .i64 (m : Int)) := hmc p _ (ints_at hm)
  have hti : (t : Int) < (o.bs.length : Int) := by have := (List.getElem?_eq_some_iff.1 hrow).1; omega
  have hpi : (p : Int) < (o.st.f2.length : Int) := by have := (List.getElem?_eq_some_iff.1 hm).1; omega
  have c2 : W.cell? ⟨w.heap.size, 2, none⟩ = some (.slice (some ⟨mb, mo, none⟩) o.st.f2.length k.h.c2) := by rw [← hM]; exact k0.cell 2
  have c5 : W.cell? ⟨w.heap.size, 5, none⟩ = some (.slice (some ⟨rb, ro, none⟩) o.bs.length k.k.c) := by rw [← hA]; exact k0.cell 5
  have lk := k0.lt
  have lrb : rb < W.heap.size := by omega
  have lmb : mb < W.heap.size := by omega
  obtain ⟨n, hn⟩ : ∃ n, (rowS cs).length = n := ⟨_, rfl⟩
  have hn2 : n = 2 * cs.length := by rw [← hn, rowS_length]
  rw [hn] at hx0
  have HRow := Lib.hid hrw
  have BW := Lib.hid bW
  have HW := Lib.hid hW
  have HN := Lib.hid hn2
  have hx0l := hx0
  have c2l := c2
  have c5l := c5
  have cml := cm
  rw [hW] at hx0l c2l c5l cml
  have HX := Lib.hid hx0
  have HM := Lib.hid cm
  have H2 := Lib.hid c2
  clear hW bW k0 hrow hm hS Q hM hA hmc hrw hn hx0 c2 c5 cm
  go_enter Try.func87, Try.ntmps87
  go_wp2_with fail
  rw [← HW.out]
  clear hx0l c2l c5l cml
  go_loopw [8] (fun i wr => ∃ j : Nat, W = wr ∧ j ≤ cs.length ∧ i = .int .i64 (2 * (j : Int) - 2) ∧ Hid (rdC (cs.take j) p m = r)) (fun i _ => (intOf i + 2).toNat)
  case atStart => exact ⟨cs.length, rfl, Nat.le_refl _, by first | rfl | (rw [hn2]; congr 1; omega), by rw [List.take_length]; exact hr⟩
  case round =>
    obtain ⟨j, rfl, hj, rfl, hrest⟩ := hrel
    clear hr
    cases j with
    | zero =>
      have e : 2 * ((0 : Nat) : Int) - 2 = -2 := rfl
      rw [e]
      have hfin : Hid (m = r) := Lib.hid (by rw [← hrest.out]; rfl)
      have c2 := H2.out
      have cm := HM.out
      go_wp2
      go_ret
      exact ⟨by rw [← hfin.out]; rfl, BW.out⟩
    | succ q =>
      have e : 2 * ((q + 1 : Nat) : Int) - 2 = ((2 * q : Nat) : Int) := by omega
      rw [e]
      obtain ⟨x, hx, -⟩ := drop_at (show q < cs.length by omega)
      have hx12 := hc x (List.mem_of_getElem? hx)
      have htk : cs.take (q + 1) = cs.take q ++ [x] := by rw [List.take_add_one, hx]; rfl
      obtain ⟨ab, ao, hAi, hab, hcell⟩ := HRow.out (by rw [ints_length, rowS_length]; omega)
      subst hAi
      have c0 : W.cell? ⟨ab, ao + 2 * q, none⟩ = some (.int .i64 ((x / 4 : Nat) : Int)) := hcell _ _ (ints_at (rowS_at0 hx))
      have c1 : W.cell? ⟨ab, ao + (2 * q + 1), none⟩ = some (.int .i64 ((x % 4 : Nat) : Int)) := hcell _ _ (ints_at (rowS_at1 hx))
      have habw : ab < W.heap.size := by omega
      have hi1 : ((2 * q : Nat) : Int) < (n : Int) := by omega
      have hi2 : ((2 * q : Nat) : Int) + 1 < (n : Int) := by omega
      have hr2 : Hid ((if x / 4 = p then x % 4 else rdC (cs.take q) p m) = r) := Lib.hid (by rw [← rdC_snoc, ← htk]; exact hrest.out)
      clear hcell hx htk hrest
      by_cases he : x / 4 = p
      · have heq : (((x / 4 : Nat) : Int) == (p : Int)) = true := by rw [beq_iff_eq]; omega
        have hfin : Hid (x % 4 = r) := Lib.hid (by rw [← hr2.out, if_pos he])
        clear he
        go_wp2
        go_ret
        exact ⟨by rw [← hfin.out]; rfl, BW.out⟩
      · have heq : (((x / 4 : Nat) : Int) == (p : Int)) = false := by rw [beq_eq_false_iff_ne]; omega
        have hfin : Hid (rdC (cs.take q) p m = r) := Lib.hid (by rw [← hr2.out, if_neg he])
        clear he
        go_wp2
        go_roundw
        case rel => exact ⟨q, by first | rfl | trivial, by omega, by first | (congr 1; omega) | (go_num), hfin⟩
        case measure => simp [intOf]; omega

/-- What BufReads answers. -/
def brdZ (L : Pg) (o : Buf) (th pl : Int) : Int := if (bufB L o && inB th 0 ((L.length : Int) - 1)) && inB pl 0 2 then (rdC (cdsB o th.toNat) pl.toNat (o.st.f2.getD pl.toNat 0).toNat : Nat) else -1
structure BfP (L : Pg) (o : Buf) : Prop where
  P : StP L o.st
  n : o.bs.length = L.length
  ok : ∀ xs ∈ o.bs, lokB xs = true
theorem bufB_parts {L : Pg} {o : Buf} (h : bufB L o = true) : BfP L o := by
  simp only [bufB, Bool.and_eq_true, decide_eq_true_eq, List.all_eq_true] at h
  exact ⟨stB_parts h.1.1, h.1.2, h.2⟩
theorem BfP.row {L : Pg} {o : Buf} (h : BfP L o) {t : Nat} (ht : t < L.length) : o.bs[t]? = some (rowS (cdsB o t)) ∧ okS (cdsB o t) ∧ (cdsB o t).length ≤ 6 := by
  have hl : t < o.bs.length := by have := h.n; omega
  have hx : o.bs[t]? = some o.bs[t] := List.getElem?_eq_getElem hl
  obtain ⟨h1, h2, h3⟩ := cdsB_row h.ok hx
  exact ⟨by rw [h1]; exact hx, h2, h3⟩
/-- What SpreadReads answers. -/
def vrdZ (L : Pg) (o : Buf) (th pl : Int) : Int := if (sprB L o && inB th 0 ((L.length : Int) - 1)) && inB pl 0 2 then (rdC (cdsV o (bfi 3 th.toNat pl.toNat)) pl.toNat (o.st.f2.getD pl.toNat 0).toNat : Nat) else -1
structure SfP (L : Pg) (o : Buf) : Prop where
  P : StP L o.st
  n : o.bs.length = L.length * 3
  ok : ∀ xs ∈ o.bs, vokB xs = true
theorem SfP.row {L : Pg} {o : Buf} (h : SfP L o) {t : Nat} (ht : t < L.length * 3) : o.bs[t]? = some (rowV (cdsV o t)) ∧ okS (cdsV o t) ∧ (cdsV o t).length ≤ 6 ∧ ∀ c ∈ cdsV o t, c / 4 = t % 3 := by
  have hl : t < o.bs.length := by have := h.n; omega
  have hx : o.bs[t]? = some o.bs[t] := List.getElem?_eq_getElem hl
  obtain ⟨h1, h2, h3, h4, _⟩ := cdsV_row h.ok hx
  exact ⟨by rw [h1]; exact hx, h2, h3, h4⟩
end Go.Proofs.Ytnadihepgmbhaaa
