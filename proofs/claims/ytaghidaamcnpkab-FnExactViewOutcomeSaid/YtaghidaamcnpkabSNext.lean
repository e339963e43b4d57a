/-
  Contracts of the reference model's l2Can, l2Next and Can.
-/
import Derived.Test.YtaghidaamcnpkabICan
namespace Go.Proofs.Ytaghidaamcnpkab
open Go.RowKit Pl Go.BigFrame
set_option maxHeartbeats 4000000
set_option maxRecDepth 100000
set_option linter.unusedVariables false

def okZ (s : Sta) (t : Nat) (x : Sm) : Bool :=
  if x.k = 6 then decide (s.f3.getD x.a.toNat 0 < 0)
  else if x.k = 7 then s.f3.getD x.a.toNat 0 == (t : Int)
  else if x.k = 8 then decide (s.f4.getD x.a.toNat 0 < 0)
  else if x.k = 9 then decide (0 ≤ s.f4.getD x.b.toNat 0)
  else true
theorem getD_at {xs : List Int} {k : Nat} {x d : Int} (h : xs[k]? = some x) : xs.getD k d = x := by rw [List.getD, h]; rfl
theorem l2can_any (k : StaH) (s : Sta) (t : Nat) (x : Sm) (w : World) (B : Nat) (hS : StaR w B k s) (hB : B ≤ w.heap.size) (m3 : s.f3.length = 2) (m4 : s.f4.length = 2) (hx : x.okb = true) (r : Bool) (hr : Hid (okZ s t x = r)) :
    Calls Try.prog 123 #[StaV k s, .int .i64 t, x.val] w fun e w' => e = .returned (.bool r) ∧ Below w.heap.size w w' := by
  obtain ⟨q, a, b, c, d⟩ := x
  have e3 := Nat.le_of_eq m3.symm
  have e4 := Nat.le_of_eq m4.symm
  clear m3 m4
  by_cases h6 : q = 6
  · subst h6
    obtain ⟨n, hn, rfl⟩ := ok_lock hx (Or.inl rfl)
    obtain ⟨bb, off, v, hA, hb, hv, -, hc⟩ := hS.r3.int_ (k := n) (by omega)
    have hnn : (n : Int) < (s.f3.length : Int) := by omega
    have hbw : bb < w.heap.size := by omega
    have hr' : (decide (v < 0)) = r := by rw [← hr.out]; simp only [okZ, Int.toNat_natCast, getD_at hv]; rfl
    have hfin := Lib.hid hr'
    clear hr hr' hx hv hS e3 e4
    go_enter Try.func123, Try.ntmps123
    go_wp2
    go_ret
    refine ⟨?_, by go_grown⟩
    rw [← hfin.out]
    simp
  by_cases h7 : q = 7
  · subst h7
    obtain ⟨n, hn, rfl⟩ := ok_lock hx (Or.inr (Or.inl rfl))
    obtain ⟨bb, off, v, hA, hb, hv, -, hc⟩ := hS.r3.int_ (k := n) (by omega)
    have hnn : (n : Int) < (s.f3.length : Int) := by omega
    have hbw : bb < w.heap.size := by omega
    have hr' : (v == (t : Int)) = r := by rw [← hr.out]; simp only [okZ, Int.toNat_natCast, getD_at hv]; rfl
    have hfin := Lib.hid hr'
    clear hr hr' hx hv hS e3 e4
    go_enter Try.func123, Try.ntmps123
    go_wp2
    go_ret
    refine ⟨?_, by go_grown⟩
    rw [← hfin.out]
    simp
  by_cases h8 : q = 8
  · subst h8
    obtain ⟨n, hn, rfl⟩ := ok_lock hx (Or.inr (Or.inr rfl))
    obtain ⟨bb, off, v, hA, hb, hv, -, hc⟩ := hS.r4.int_ (k := n) (by omega)
    have hnn : (n : Int) < (s.f4.length : Int) := by omega
    have hbw : bb < w.heap.size := by omega
    have hr' : (decide (v < 0)) = r := by rw [← hr.out]; simp only [okZ, Int.toNat_natCast, getD_at hv]; rfl
    have hfin := Lib.hid hr'
    clear hr hr' hx hv hS e3 e4
    go_enter Try.func123, Try.ntmps123
    go_wp2
    go_ret
    refine ⟨?_, by go_grown⟩
    rw [← hfin.out]
    simp
  by_cases h9 : q = 9
  · subst h9
    obtain ⟨n, hn, rfl⟩ := ok_get hx rfl
    obtain ⟨bb, off, v, hA, hb, hv, -, hc⟩ := hS.r4.int_ (k := n) (by omega)
    have hnn : (n : Int) < (s.f4.length : Int) := by omega
    have hbw : bb < w.heap.size := by omega
    have hr' : (decide (0 ≤ v)) = r := by rw [← hr.out]; simp only [okZ, Int.toNat_natCast, getD_at hv]; rfl
    have hfin := Lib.hid hr'
    clear hr hr' hx hv hS e3 e4
    go_enter Try.func123, Try.ntmps123
    go_wp2
    go_ret
    refine ⟨?_, by go_grown⟩
    rw [← hfin.out]
    simp
  have hfin : Hid (r = true) := Lib.hid (by rw [← hr.out]; simp [okZ, h6, h7, h8, h9])
  have k6 : (q == 6) = false := by simp [h6]
  have k7 : (q == 7) = false := by simp [h7]
  have k8 : (q == 8) = false := by simp [h8]
  have k9 : (q == 9) = false := by simp [h9]
  clear hr hx h6 h7 h8 h9 hS
  go_enter Try.func123, Try.ntmps123
  go_wp2
  go_ret
  exact ⟨by rw [hfin.out]; rfl, by go_grown⟩

/-- What a state's thread does next, in the reference model. -/
def nxZ (L : Pg) (s : Sta) (t : Nat) : Bool := decide (s.f0.getD t 0 < ((L.getD t []).length : Int)) && okZ s t (smAt L t (s.f0.getD t 0).toNat)

theorem snext_no (h : PgH) (L : Pg) (k : StaH) (s : Sta) (t : Nat) (w : World) (B : Nat) (hP : PgR w B h L) (hS : StaR w B k s) (hB : B ≤ w.heap.size) (P : StP L s) (ht : t < L.length) (hd : ((L.getD t []).length : Int) ≤ s.f0.getD t 0) :
    Calls Try.prog 84 #[PgV h L, StaV k s, .int .i64 t] w fun e w' => e = .returned (.tuple #[Sm.val ⟨0, 0, 0, 0, false⟩, .bool false]) ∧ Below w.heap.size w w' := by
  obtain ⟨W, hW⟩ : ∃ W, W = ((w.alloc (.cells #[.slice h.A L.length h.c] 32)).alloc (.cells #[.slice k.A0 s.f0.length k.c0, .slice k.A1 s.f1.length k.c1, .slice k.A2 s.f2.length k.c2, .slice k.A3 s.f3.length k.c3, .slice k.A4 s.f4.length k.c4] 50)).alloc (.cells #[.int .i64 0, .int .i64 0, .int .i64 0, .int .i64 0, .bool false] 107) := ⟨_, rfl⟩
  have bW : Below w.heap.size w W := by rw [hW]; go_grown
  have sW : W.heap.size = w.heap.size + 1 + 1 + 1 := by rw [hW]; simp
  have k0 : Bk W w.heap.size 32 #[.slice h.A L.length h.c] := by rw [hW]; exact ((Bk.new w _ _).alloc _).alloc _
  have k1 : Bk W (w.heap.size + 1) 50 #[.slice k.A0 s.f0.length k.c0, .slice k.A1 s.f1.length k.c1, .slice k.A2 s.f2.length k.c2, .slice k.A3 s.f3.length k.c3, .slice k.A4 s.f4.length k.c4] := by
    rw [hW]; have := (Bk.new (w.alloc (.cells #[.slice h.A L.length h.c] 32)) #[.slice k.A0 s.f0.length k.c0, .slice k.A1 s.f1.length k.c1, .slice k.A2 s.f2.length k.c2, .slice k.A3 s.f3.length k.c3, .slice k.A4 s.f4.length k.c4] 50).alloc (.cells #[.int .i64 0, .int .i64 0, .int .i64 0, .int .i64 0, .bool false] 107)
    rwa [World.size_alloc] at this
  have k2 : Bk W (w.heap.size + 1 + 1) 107 #[.int .i64 0, .int .i64 0, .int .i64 0, .int .i64 0, .bool false] := by
    rw [hW]; have := Bk.new ((w.alloc (.cells #[.slice h.A L.length h.c] 32)).alloc (.cells #[.slice k.A0 s.f0.length k.c0, .slice k.A1 s.f1.length k.c1, .slice k.A2 s.f2.length k.c2, .slice k.A3 s.f3.length k.c3, .slice k.A4 s.f4.length k.c4] 50)) #[.int .i64 0, .int .i64 0, .int .i64 0, .int .i64 0, .bool false] 107
    rwa [World.size_alloc, World.size_alloc] at this
  have P0 := hP.below bW hB
  have Q0 := hS.below bW hB
  obtain ⟨b, off, xs, Ai, ci, hA, hb, hx, hc, -, hmi, hrow⟩ := pg_at P0 ht
  have m0 := P.m0
  obtain ⟨b2, off2, i, hA2, hb2, hi, -, hc2⟩ := Q0.r0.int_ (k := t) (by omega)
  obtain ⟨y, hy, hy0, hyl⟩ := atZ_at P.at_ hx
  obtain rfl : i = y := by rw [hi] at hy; injection hy
  have hgx : L.getD t [] = xs := getD_some hx
  have hgi : s.f0.getD t 0 = i := getD_at hi
  have hbw : b < W.heap.size := by have := bW.size; omega
  have hb2w : b2 < W.heap.size := by have := bW.size; omega
  have hti : (t : Int) < (L.length : Int) := by omega
  have hti2 : (t : Int) < (s.f0.length : Int) := by omega
  have e0 := k0.cell 0
  have e1 := k1.cell 0
  simp only [List.getElem?_toArray, List.getElem?_cons_zero] at e0 e1
  rw [hA] at e0
  rw [hA2] at e1
  have l0 := k0.lt
  have l1 := k1.lt
  have l2 := k2.lt
  have sWa := Nat.le_of_eq sW
  have sWb := Nat.le_of_eq sW.symm
  unfold maxLen at hmi
  rw [hgx, hgi] at hd
  have cr0 : W.cell? ⟨w.heap.size + 1 + 1, 0, none⟩ = some (.int .i64 0) := k2.cell 0
  have fr0 : W.frozen? ⟨w.heap.size + 1 + 1, 0, none⟩ = false := k2.free 0
  have cr1 : W.cell? ⟨w.heap.size + 1 + 1, 1, none⟩ = some (.int .i64 0) := k2.cell 1
  have fr1 : W.frozen? ⟨w.heap.size + 1 + 1, 1, none⟩ = false := k2.free 1
  have cr2 : W.cell? ⟨w.heap.size + 1 + 1, 2, none⟩ = some (.int .i64 0) := k2.cell 2
  have fr2 : W.frozen? ⟨w.heap.size + 1 + 1, 2, none⟩ = false := k2.free 2
  have cr3 : W.cell? ⟨w.heap.size + 1 + 1, 3, none⟩ = some (.int .i64 0) := k2.cell 3
  have fr3 : W.frozen? ⟨w.heap.size + 1 + 1, 3, none⟩ = false := k2.free 3
  have cr4 : W.cell? ⟨w.heap.size + 1 + 1, 4, none⟩ = some (.bool false) := k2.cell 4
  have fr4 : W.frozen? ⟨w.heap.size + 1 + 1, 4, none⟩ = false := k2.free 4
  have K2 := Lib.hid k2
  have BW := Lib.hid bW
  have HW := Lib.hid hW
  clear hW k0 k1 k2 bW sW hP hS P0 Q0 hx hi hy hyl hrow hgx hgi m0 hA hA2
  go_enter Try.func84, Try.ntmps84
  go_wp2_with fail
  rw [← HW.out]
  go_quiet (fail)
  clear cr0 cr1 cr2 cr3 cr4 fr0 fr1 fr2 fr3 fr4
  obtain ⟨V, hV⟩ : ∃ V, V = W.drewN nq := ⟨_, rfl⟩
  rw [← hV]
  have KV := Lib.hid (show Bk V (w.heap.size + 1 + 1) 107 #[.int .i64 0, .int .i64 0, .int .i64 0, .int .i64 0, .bool false] from by rw [hV]; exact K2.out)
  have BV := Lib.hid (show Below w.heap.size w V from by rw [hV]; exact below_drewN BW.out nq)
  have zV : V.heap.size = W.heap.size := by rw [hV]; rfl
  have zVa := Nat.le_of_eq zV
  have zVb := Nat.le_of_eq zV.symm
  clear hV zV
  have cr0 : V.cell? ⟨w.heap.size + 1 + 1, 0, none⟩ = some (.int .i64 0) := KV.out.cell 0
  have fr0 : V.frozen? ⟨w.heap.size + 1 + 1, 0, none⟩ = false := KV.out.free 0
  have cr1 : V.cell? ⟨w.heap.size + 1 + 1, 1, none⟩ = some (.int .i64 0) := KV.out.cell 1
  have fr1 : V.frozen? ⟨w.heap.size + 1 + 1, 1, none⟩ = false := KV.out.free 1
  have cr2 : V.cell? ⟨w.heap.size + 1 + 1, 2, none⟩ = some (.int .i64 0) := KV.out.cell 2
  have fr2 : V.frozen? ⟨w.heap.size + 1 + 1, 2, none⟩ = false := KV.out.free 2
  have cr3 : V.cell? ⟨w.heap.size + 1 + 1, 3, none⟩ = some (.int .i64 0) := KV.out.cell 3
  have fr3 : V.frozen? ⟨w.heap.size + 1 + 1, 3, none⟩ = false := KV.out.free 3
  have cr4 : V.cell? ⟨w.heap.size + 1 + 1, 4, none⟩ = some (.bool false) := KV.out.cell 4
  have fr4 : V.frozen? ⟨w.heap.size + 1 + 1, 4, none⟩ = false := KV.out.free 4
  go_wp2
  clear cr0 cr1 cr2 cr3 cr4 fr0 fr1 fr2 fr3 fr4
  have kF : Bk (((((V.setCell ⟨w.heap.size + 1 + 1, 0, none⟩ (.int .i64 0)).setCell ⟨w.heap.size + 1 + 1, 1, none⟩ (.int .i64 0)).setCell ⟨w.heap.size + 1 + 1, 2, none⟩ (.int .i64 0)).setCell ⟨w.heap.size + 1 + 1, 3, none⟩ (.int .i64 0)).setCell ⟨w.heap.size + 1 + 1, 4, none⟩ (.bool false)) (w.heap.size + 1 + 1) 107 #[.int .i64 0, .int .i64 0, .int .i64 0, .int .i64 0, .bool false] := by
    have a0 := KV.out
    have a1 := a0.set 0 (.int .i64 0)
    have a2 := a1.set 1 (.int .i64 0)
    have a3 := a2.set 2 (.int .i64 0)
    have a4 := a3.set 3 (.int .i64 0)
    have a5 := a4.set 4 (.bool false)
    simpa using a5
  have bF : Below w.heap.size w (((((V.setCell ⟨w.heap.size + 1 + 1, 0, none⟩ (.int .i64 0)).setCell ⟨w.heap.size + 1 + 1, 1, none⟩ (.int .i64 0)).setCell ⟨w.heap.size + 1 + 1, 2, none⟩ (.int .i64 0)).setCell ⟨w.heap.size + 1 + 1, 3, none⟩ (.int .i64 0)).setCell ⟨w.heap.size + 1 + 1, 4, none⟩ (.bool false)) := (((((BV.out.setCell (p := ⟨w.heap.size + 1 + 1, 0, none⟩) (show w.heap.size ≤ w.heap.size + 1 + 1 by omega) _).setCell (p := ⟨w.heap.size + 1 + 1, 1, none⟩) (show w.heap.size ≤ w.heap.size + 1 + 1 by omega) _).setCell (p := ⟨w.heap.size + 1 + 1, 2, none⟩) (show w.heap.size ≤ w.heap.size + 1 + 1 by omega) _).setCell (p := ⟨w.heap.size + 1 + 1, 3, none⟩) (show w.heap.size ≤ w.heap.size + 1 + 1 by omega) _).setCell (p := ⟨w.heap.size + 1 + 1, 4, none⟩) (show w.heap.size ≤ w.heap.size + 1 + 1 by omega) _)
  have nF : ∀ q, w.heap.size + 1 + 1 < q → (((((V.setCell ⟨w.heap.size + 1 + 1, 0, none⟩ (.int .i64 0)).setCell ⟨w.heap.size + 1 + 1, 1, none⟩ (.int .i64 0)).setCell ⟨w.heap.size + 1 + 1, 2, none⟩ (.int .i64 0)).setCell ⟨w.heap.size + 1 + 1, 3, none⟩ (.int .i64 0)).setCell ⟨w.heap.size + 1 + 1, 4, none⟩ (.bool false)).heap[q]? = V.heap[q]? := fun q hq => (Below.heap_setCell _ _ _ q (by show q ≠ w.heap.size + 1 + 1; omega)).trans ((Below.heap_setCell _ _ _ q (by show q ≠ w.heap.size + 1 + 1; omega)).trans ((Below.heap_setCell _ _ _ q (by show q ≠ w.heap.size + 1 + 1; omega)).trans ((Below.heap_setCell _ _ _ q (by show q ≠ w.heap.size + 1 + 1; omega)).trans (Below.heap_setCell _ _ _ q (by show q ≠ w.heap.size + 1 + 1; omega)))))
  have zF : V.heap.size ≤ (((((V.setCell ⟨w.heap.size + 1 + 1, 0, none⟩ (.int .i64 0)).setCell ⟨w.heap.size + 1 + 1, 1, none⟩ (.int .i64 0)).setCell ⟨w.heap.size + 1 + 1, 2, none⟩ (.int .i64 0)).setCell ⟨w.heap.size + 1 + 1, 3, none⟩ (.int .i64 0)).setCell ⟨w.heap.size + 1 + 1, 4, none⟩ (.bool false)).heap.size := by simp
  have HF := Lib.hid kF
  have BF := Lib.hid bF
  have NF := Lib.hid nF
  obtain ⟨F, hF⟩ : ∃ F, F = (((((V.setCell ⟨w.heap.size + 1 + 1, 0, none⟩ (.int .i64 0)).setCell ⟨w.heap.size + 1 + 1, 1, none⟩ (.int .i64 0)).setCell ⟨w.heap.size + 1 + 1, 2, none⟩ (.int .i64 0)).setCell ⟨w.heap.size + 1 + 1, 3, none⟩ (.int .i64 0)).setCell ⟨w.heap.size + 1 + 1, 4, none⟩ (.bool false)) := ⟨_, rfl⟩
  rw [← hF] at HF BF NF zF
  rw [← hF]
  clear kF bF nF hF
  have c0 := HF.out.cell 0
  have c1 := HF.out.cell 1
  have c2 := HF.out.cell 2
  have c3 := HF.out.cell 3
  have c4 := HF.out.cell 4
  simp only [List.getElem?_toArray, List.getElem?_cons_zero, List.getElem?_cons_succ] at c0 c1 c2 c3 c4
  refine bodyPost_ret (v := .tuple #[.agg #[.int .i64 0, .int .i64 0, .int .i64 0, .int .i64 0, .bool false], .bool false]) (by simp [results, Try.results84, c0, c1, c2, c3, c4, go_sem]) rfl ?_
  exact ⟨rfl, BF.out⟩
theorem snext_yes (h : PgH) (L : Pg) (k : StaH) (s : Sta) (t : Nat) (w : World) (B : Nat) (hP : PgR w B h L) (hS : StaR w B k s) (hB : B ≤ w.heap.size) (P : StP L s) (ht : t < L.length) (i : Nat) (hi0 : s.f0.getD t 0 = (i : Int)) (hd : i < (L.getD t []).length) (r : Bool) (hr : Hid (okZ s t (smAt L t i) = r)) :
    Calls Try.prog 84 #[PgV h L, StaV k s, .int .i64 t] w fun e w' => e = .returned (.tuple #[Sm.val (smAt L t i), .bool r]) ∧ Below w.heap.size w w' := by
  obtain ⟨W, hW⟩ : ∃ W, W = ((w.alloc (.cells #[.slice h.A L.length h.c] 32)).alloc (.cells #[.slice k.A0 s.f0.length k.c0, .slice k.A1 s.f1.length k.c1, .slice k.A2 s.f2.length k.c2, .slice k.A3 s.f3.length k.c3, .slice k.A4 s.f4.length k.c4] 50)).alloc (.cells #[.int .i64 0, .int .i64 0, .int .i64 0, .int .i64 0, .bool false] 107) := ⟨_, rfl⟩
  have bW : Below w.heap.size w W := by rw [hW]; go_grown
  have sW : W.heap.size = w.heap.size + 1 + 1 + 1 := by rw [hW]; simp
  have k0 : Bk W w.heap.size 32 #[.slice h.A L.length h.c] := by rw [hW]; exact ((Bk.new w _ _).alloc _).alloc _
  have k1 : Bk W (w.heap.size + 1) 50 #[.slice k.A0 s.f0.length k.c0, .slice k.A1 s.f1.length k.c1, .slice k.A2 s.f2.length k.c2, .slice k.A3 s.f3.length k.c3, .slice k.A4 s.f4.length k.c4] := by
    rw [hW]; have := (Bk.new (w.alloc (.cells #[.slice h.A L.length h.c] 32)) #[.slice k.A0 s.f0.length k.c0, .slice k.A1 s.f1.length k.c1, .slice k.A2 s.f2.length k.c2, .slice k.A3 s.f3.length k.c3, .slice k.A4 s.f4.length k.c4] 50).alloc (.cells #[.int .i64 0, .int .i64 0, .int .i64 0, .int .i64 0, .bool false] 107)
    rwa [World.size_alloc] at this
  have k2 : Bk W (w.heap.size + 1 + 1) 107 #[.int .i64 0, .int .i64 0, .int .i64 0, .int .i64 0, .bool false] := by
    rw [hW]; have := Bk.new ((w.alloc (.cells #[.slice h.A L.length h.c] 32)).alloc (.cells #[.slice k.A0 s.f0.length k.c0, .slice k.A1 s.f1.length k.c1, .slice k.A2 s.f2.length k.c2, .slice k.A3 s.f3.length k.c3, .slice k.A4 s.f4.length k.c4] 50)) #[.int .i64 0, .int .i64 0, .int .i64 0, .int .i64 0, .bool false] 107
    rwa [World.size_alloc, World.size_alloc] at this
  have P0 := hP.below bW hB
  have Q0 := hS.below bW hB
  obtain ⟨b, off, xs, Ai, ci, hA, hb, hx, hc, -, hmi, hrow⟩ := pg_at P0 ht
  have m0 := P.m0
  obtain ⟨b2, off2, j, hA2, hb2, hi, -, hc2⟩ := Q0.r0.int_ (k := t) (by omega)
  obtain ⟨y, hy, hy0, hyl⟩ := atZ_at P.at_ hx
  obtain rfl : j = y := by rw [hi] at hy; injection hy
  have hgx : L.getD t [] = xs := getD_some hx
  have hgi : s.f0.getD t 0 = j := getD_at hi
  have hbw : b < W.heap.size := by have := bW.size; omega
  have hb2w : b2 < W.heap.size := by have := bW.size; omega
  have hti : (t : Int) < (L.length : Int) := by omega
  have hti2 : (t : Int) < (s.f0.length : Int) := by omega
  have e0 := k0.cell 0
  have e1 := k1.cell 0
  simp only [List.getElem?_toArray, List.getElem?_cons_zero] at e0 e1
  rw [hA] at e0
  rw [hA2] at e1
  have l0 := k0.lt
  have l1 := k1.lt
  have l2 := k2.lt
  have sWa := Nat.le_of_eq sW
  have sWb := Nat.le_of_eq sW.symm
  unfold maxLen at hmi
  obtain rfl : j = (i : Int) := by rw [← hgi, hi0]
  rw [hgx] at hd
  have hxi : xs[i]? = some xs[i] := List.getElem?_eq_getElem hd
  obtain ⟨x, hxx⟩ : ∃ x, xs[i]? = some x := ⟨_, hxi⟩
  have hsm : smAt L t i = x := by unfold smAt; rw [hgx]; exact getD_some hxx
  rw [hsm] at hr ⊢
  have hok := (prog_thr P.prog hx).2 i x hxx
  obtain ⟨b3, off3, x', hA3, hb3, hx3, -, c0, c1, c2, c3, c4⟩ := hrow.at_ hd
  obtain rfl : x = x' := by rw [hxx] at hx3; injection hx3
  subst hA3
  have hb3w : b3 < W.heap.size := by have := bW.size; omega
  have him : (i : Int) < (xs.length : Int) := by omega
  have K0 := Lib.hid k0
  have K1 := Lib.hid k1
  have K2 := Lib.hid k2
  have BW := Lib.hid bW
  have HW := Lib.hid hW
  have Q1 := Lib.hid Q0
  have hBW : B ≤ W.heap.size := by omega
  have HA := Lib.hid hA
  have HA2 := Lib.hid hA2
  clear hW k0 k1 k2 bW sW hP hS P0 Q0 hx hi hy hyl hrow hgx hgi m0 hA hA2 hi0 hxi hxx hsm hx3
  go_enter Try.func84, Try.ntmps84
  go_wp2_with fail
  rw [← HW.out]
  go_quiet (fail)
  obtain ⟨V, hV⟩ : ∃ V, V = W.drewN nq := ⟨_, rfl⟩
  rw [← hV]
  have KV := Lib.hid (show Bk V (w.heap.size + 1 + 1) 107 #[.int .i64 0, .int .i64 0, .int .i64 0, .int .i64 0, .bool false] from by rw [hV]; exact K2.out)
  have BV := Lib.hid (show Below w.heap.size w V from by rw [hV]; exact below_drewN BW.out nq)
  have zV : V.heap.size = W.heap.size := by rw [hV]; rfl
  have zVa := Nat.le_of_eq zV
  have zVb := Nat.le_of_eq zV.symm
  have g_e0 : V.cell? ⟨w.heap.size, 0, none⟩ = some (.slice (some ⟨b, off, none⟩) L.length h.c) := by rw [hV]; exact e0
  have g_e1 : V.cell? ⟨w.heap.size + 1, 0, none⟩ = some (.slice (some ⟨b2, off2, none⟩) s.f0.length k.c0) := by rw [hV]; exact e1
  have g_hc : V.cell? ⟨b, off + t, none⟩ = some (.slice (some ⟨b3, off3, none⟩) xs.length ci) := by rw [hV]; exact hc
  have g_hc2 : V.cell? ⟨b2, off2 + t, none⟩ = some (.int .i64 (i : Int)) := by rw [hV]; exact hc2
  have g_c0 : V.cell? ⟨b3, off3 + i * 5, none⟩ = some (.int .i64 x.k) := by rw [hV]; exact c0
  have g_c1 : V.cell? ⟨b3, off3 + i * 5 + 1, none⟩ = some (.int .i64 x.a) := by rw [hV]; exact c1
  have g_c2 : V.cell? ⟨b3, off3 + i * 5 + 2, none⟩ = some (.int .i64 x.b) := by rw [hV]; exact c2
  have g_c3 : V.cell? ⟨b3, off3 + i * 5 + 3, none⟩ = some (.int .i64 x.c) := by rw [hV]; exact c3
  have g_c4 : V.cell? ⟨b3, off3 + i * 5 + 4, none⟩ = some (.bool x.s) := by rw [hV]; exact c4
  have allS : ∀ w', Below V.heap.size V w' → (Below V.heap.size V w' ∧ w'.cell? ⟨w.heap.size, 0, none⟩ = some (.slice (some ⟨b, off, none⟩) L.length h.c) ∧ w'.cell? ⟨w.heap.size + 1, 0, none⟩ = some (.slice (some ⟨b2, off2, none⟩) s.f0.length k.c0) ∧ w'.cell? ⟨b, off + t, none⟩ = some (.slice (some ⟨b3, off3, none⟩) xs.length ci) ∧ w'.cell? ⟨b2, off2 + t, none⟩ = some (.int .i64 (i : Int)) ∧ w'.cell? ⟨b3, off3 + i * 5, none⟩ = some (.int .i64 x.k) ∧ w'.cell? ⟨b3, off3 + i * 5 + 1, none⟩ = some (.int .i64 x.a) ∧ w'.cell? ⟨b3, off3 + i * 5 + 2, none⟩ = some (.int .i64 x.b) ∧ w'.cell? ⟨b3, off3 + i * 5 + 3, none⟩ = some (.int .i64 x.c) ∧ w'.cell? ⟨b3, off3 + i * 5 + 4, none⟩ = some (.bool x.s)) := fun w' hb => ⟨hb, (hb.cell (p := ⟨w.heap.size, 0, none⟩) (by show w.heap.size < V.heap.size; omega)).trans g_e0, (hb.cell (p := ⟨w.heap.size + 1, 0, none⟩) (by show w.heap.size + 1 < V.heap.size; omega)).trans g_e1, (hb.cell (p := ⟨b, off + t, none⟩) (by show b < V.heap.size; omega)).trans g_hc, (hb.cell (p := ⟨b2, off2 + t, none⟩) (by show b2 < V.heap.size; omega)).trans g_hc2, (hb.cell (p := ⟨b3, off3 + i * 5, none⟩) (by show b3 < V.heap.size; omega)).trans g_c0, (hb.cell (p := ⟨b3, off3 + i * 5 + 1, none⟩) (by show b3 < V.heap.size; omega)).trans g_c1, (hb.cell (p := ⟨b3, off3 + i * 5 + 2, none⟩) (by show b3 < V.heap.size; omega)).trans g_c2, (hb.cell (p := ⟨b3, off3 + i * 5 + 3, none⟩) (by show b3 < V.heap.size; omega)).trans g_c3, (hb.cell (p := ⟨b3, off3 + i * 5 + 4, none⟩) (by show b3 < V.heap.size; omega)).trans g_c4⟩
  have AllS := Lib.hid allS
  have KV0 := Lib.hid (show Bk V w.heap.size 32 #[.slice h.A L.length h.c] from by rw [hV]; exact K0.out)
  have KV1 := Lib.hid (show Bk V (w.heap.size + 1) 50 #[.slice k.A0 s.f0.length k.c0, .slice k.A1 s.f1.length k.c1, .slice k.A2 s.f2.length k.c2, .slice k.A3 s.f3.length k.c3, .slice k.A4 s.f4.length k.c4] from by rw [hV]; exact K1.out)
  have QV := Lib.hid (show StaR V B k s from Q1.out.keepV fun b o _ => by rw [hV]; rfl)
  clear allS hV zV e0 e1 hc hc2 c0 c1 c2 c3 c4 g_e0 g_e1 g_hc g_hc2 g_c0 g_c1 g_c2 g_c3 g_c4
  go_wp2_with fail
  go_region_held3 (fun w' => Below V.heap.size V w' ∧ w'.cell? ⟨w.heap.size, 0, none⟩ = some (.slice (some ⟨b, off, none⟩) L.length h.c) ∧ w'.cell? ⟨w.heap.size + 1, 0, none⟩ = some (.slice (some ⟨b2, off2, none⟩) s.f0.length k.c0) ∧ w'.cell? ⟨b, off + t, none⟩ = some (.slice (some ⟨b3, off3, none⟩) xs.length ci) ∧ w'.cell? ⟨b2, off2 + t, none⟩ = some (.int .i64 (i : Int)) ∧ w'.cell? ⟨b3, off3 + i * 5, none⟩ = some (.int .i64 x.k) ∧ w'.cell? ⟨b3, off3 + i * 5 + 1, none⟩ = some (.int .i64 x.a) ∧ w'.cell? ⟨b3, off3 + i * 5 + 2, none⟩ = some (.int .i64 x.b) ∧ w'.cell? ⟨b3, off3 + i * 5 + 3, none⟩ = some (.int .i64 x.c) ∧ w'.cell? ⟨b3, off3 + i * 5 + 4, none⟩ = some (.bool x.s)) (first | (go_split_ands; exact AllS.out _ (by go_grown)) | (exact AllS.out _ (by go_grown))) (fail)
  obtain ⟨U, hU⟩ : ∃ U, U = (V.alloc (.cells #[.int .i64 x.k, .int .i64 x.a, .int .i64 x.b, .int .i64 x.c, .bool x.s] 107)).drew := ⟨_, rfl⟩
  rw [← hU]
  have bU : Below V.heap.size V U := by rw [hU]; exact ((Below.refl _ _).alloc (Nat.le_refl _) _).drew
  have kx : Bk U V.heap.size 107 #[.int .i64 x.k, .int .i64 x.a, .int .i64 x.b, .int .i64 x.c, .bool x.s] := by rw [hU]; exact Bk.new V _ _
  have zU := bU.size
  have kp := KV0.out.below bU KV0.out.lt
  have ks := KV1.out.below bU KV1.out.lt
  have kr := KV.out.below bU KV.out.lt
  have BU := below_on BV.out bU
  have QU := Lib.hid (QV.out.below bU (by omega))
  have lx := kx.lt
  have KX := Lib.hid kx
  have KS := Lib.hid ks
  have KR := Lib.hid kr
  have BUH := Lib.hid BU
  have lr : w.heap.size + 1 + 1 < U.heap.size := kr.lt
  have hVr : w.heap.size + 1 + 1 < V.heap.size := KV.out.lt
  clear AllS
  have allS : ∀ w', Below U.heap.size U w' → (Below w.heap.size w w' ∧ w'.cell? ⟨V.heap.size, 0, none⟩ = some (.int .i64 x.k) ∧ w'.cell? ⟨V.heap.size, 1, none⟩ = some (.int .i64 x.a) ∧ w'.cell? ⟨V.heap.size, 2, none⟩ = some (.int .i64 x.b) ∧ w'.cell? ⟨V.heap.size, 3, none⟩ = some (.int .i64 x.c) ∧ w'.cell? ⟨V.heap.size, 4, none⟩ = some (.bool x.s) ∧ w'.cell? ⟨w.heap.size + 1, 0, none⟩ = some (.slice k.A0 s.f0.length k.c0) ∧ w'.cell? ⟨w.heap.size + 1, 1, none⟩ = some (.slice k.A1 s.f1.length k.c1) ∧ w'.cell? ⟨w.heap.size + 1, 2, none⟩ = some (.slice k.A2 s.f2.length k.c2) ∧ w'.cell? ⟨w.heap.size + 1, 3, none⟩ = some (.slice k.A3 s.f3.length k.c3) ∧ w'.cell? ⟨w.heap.size + 1, 4, none⟩ = some (.slice k.A4 s.f4.length k.c4)) := fun w' hb => ⟨below_on BU hb, (kx.below hb kx.lt).cell 0, (kx.below hb kx.lt).cell 1, (kx.below hb kx.lt).cell 2, (kx.below hb kx.lt).cell 3, (kx.below hb kx.lt).cell 4, (ks.below hb ks.lt).cell 0, (ks.below hb ks.lt).cell 1, (ks.below hb ks.lt).cell 2, (ks.below hb ks.lt).cell 3, (ks.below hb ks.lt).cell 4⟩
  have AllS := Lib.hid allS
  have hBU : B ≤ U.heap.size := by omega
  have m3 := P.m3
  have m4 := P.m4
  have M3 := Lib.hid m3
  have M4 := Lib.hid m4
  have HOK := Lib.hid hok
  clear allS hU kx kp ks kr BU bU m3 m4 hok
  have tok : True := trivial
  go_wp2_with fail
  go_region_held3 (fun w' => Below w.heap.size w w' ∧ w'.cell? ⟨V.heap.size, 0, none⟩ = some (.int .i64 x.k) ∧ w'.cell? ⟨V.heap.size, 1, none⟩ = some (.int .i64 x.a) ∧ w'.cell? ⟨V.heap.size, 2, none⟩ = some (.int .i64 x.b) ∧ w'.cell? ⟨V.heap.size, 3, none⟩ = some (.int .i64 x.c) ∧ w'.cell? ⟨V.heap.size, 4, none⟩ = some (.bool x.s) ∧ w'.cell? ⟨w.heap.size + 1, 0, none⟩ = some (.slice k.A0 s.f0.length k.c0) ∧ w'.cell? ⟨w.heap.size + 1, 1, none⟩ = some (.slice k.A1 s.f1.length k.c1) ∧ w'.cell? ⟨w.heap.size + 1, 2, none⟩ = some (.slice k.A2 s.f2.length k.c2) ∧ w'.cell? ⟨w.heap.size + 1, 3, none⟩ = some (.slice k.A3 s.f3.length k.c3) ∧ w'.cell? ⟨w.heap.size + 1, 4, none⟩ = some (.slice k.A4 s.f4.length k.c4)) (first | (with_reducible exact Fin.out) | (go_split_ands; refine AllS.out _ ?_; go_grown; done) | (refine AllS.out _ ?_; go_grown; done)) (first | (go_at_call 123; go_split_ands; refine (l2can_any k s t x _ B (QU.out.below (show Below U.heap.size U _ from by go_grown) hBU) (Nat.le_trans hBU (show Below U.heap.size U _ from by go_grown).size) M3.out M4.out HOK.out r hr).mono ?_; rintro e v1 ⟨rfl, hv⟩; have hBv1 : Below U.heap.size U v1 := below_on (by go_grown) hv; have Fin := Lib.hid (show (Below w.heap.size w (((((v1.setCell ⟨w.heap.size + 1 + 1, 0, none⟩ (.int .i64 x.k)).setCell ⟨w.heap.size + 1 + 1, 1, none⟩ (.int .i64 x.a)).setCell ⟨w.heap.size + 1 + 1, 2, none⟩ (.int .i64 x.b)).setCell ⟨w.heap.size + 1 + 1, 3, none⟩ (.int .i64 x.c)).setCell ⟨w.heap.size + 1 + 1, 4, none⟩ (.bool x.s)) ∧ (((((v1.setCell ⟨w.heap.size + 1 + 1, 0, none⟩ (.int .i64 x.k)).setCell ⟨w.heap.size + 1 + 1, 1, none⟩ (.int .i64 x.a)).setCell ⟨w.heap.size + 1 + 1, 2, none⟩ (.int .i64 x.b)).setCell ⟨w.heap.size + 1 + 1, 3, none⟩ (.int .i64 x.c)).setCell ⟨w.heap.size + 1 + 1, 4, none⟩ (.bool x.s)).cell? ⟨V.heap.size, 0, none⟩ = some (.int .i64 x.k) ∧ (((((v1.setCell ⟨w.heap.size + 1 + 1, 0, none⟩ (.int .i64 x.k)).setCell ⟨w.heap.size + 1 + 1, 1, none⟩ (.int .i64 x.a)).setCell ⟨w.heap.size + 1 + 1, 2, none⟩ (.int .i64 x.b)).setCell ⟨w.heap.size + 1 + 1, 3, none⟩ (.int .i64 x.c)).setCell ⟨w.heap.size + 1 + 1, 4, none⟩ (.bool x.s)).cell? ⟨V.heap.size, 1, none⟩ = some (.int .i64 x.a) ∧ (((((v1.setCell ⟨w.heap.size + 1 + 1, 0, none⟩ (.int .i64 x.k)).setCell ⟨w.heap.size + 1 + 1, 1, none⟩ (.int .i64 x.a)).setCell ⟨w.heap.size + 1 + 1, 2, none⟩ (.int .i64 x.b)).setCell ⟨w.heap.size + 1 + 1, 3, none⟩ (.int .i64 x.c)).setCell ⟨w.heap.size + 1 + 1, 4, none⟩ (.bool x.s)).cell? ⟨V.heap.size, 2, none⟩ = some (.int .i64 x.b) ∧ (((((v1.setCell ⟨w.heap.size + 1 + 1, 0, none⟩ (.int .i64 x.k)).setCell ⟨w.heap.size + 1 + 1, 1, none⟩ (.int .i64 x.a)).setCell ⟨w.heap.size + 1 + 1, 2, none⟩ (.int .i64 x.b)).setCell ⟨w.heap.size + 1 + 1, 3, none⟩ (.int .i64 x.c)).setCell ⟨w.heap.size + 1 + 1, 4, none⟩ (.bool x.s)).cell? ⟨V.heap.size, 3, none⟩ = some (.int .i64 x.c) ∧ (((((v1.setCell ⟨w.heap.size + 1 + 1, 0, none⟩ (.int .i64 x.k)).setCell ⟨w.heap.size + 1 + 1, 1, none⟩ (.int .i64 x.a)).setCell ⟨w.heap.size + 1 + 1, 2, none⟩ (.int .i64 x.b)).setCell ⟨w.heap.size + 1 + 1, 3, none⟩ (.int .i64 x.c)).setCell ⟨w.heap.size + 1 + 1, 4, none⟩ (.bool x.s)).cell? ⟨V.heap.size, 4, none⟩ = some (.bool x.s) ∧ (((((v1.setCell ⟨w.heap.size + 1 + 1, 0, none⟩ (.int .i64 x.k)).setCell ⟨w.heap.size + 1 + 1, 1, none⟩ (.int .i64 x.a)).setCell ⟨w.heap.size + 1 + 1, 2, none⟩ (.int .i64 x.b)).setCell ⟨w.heap.size + 1 + 1, 3, none⟩ (.int .i64 x.c)).setCell ⟨w.heap.size + 1 + 1, 4, none⟩ (.bool x.s)).cell? ⟨w.heap.size + 1, 0, none⟩ = some (.slice k.A0 s.f0.length k.c0) ∧ (((((v1.setCell ⟨w.heap.size + 1 + 1, 0, none⟩ (.int .i64 x.k)).setCell ⟨w.heap.size + 1 + 1, 1, none⟩ (.int .i64 x.a)).setCell ⟨w.heap.size + 1 + 1, 2, none⟩ (.int .i64 x.b)).setCell ⟨w.heap.size + 1 + 1, 3, none⟩ (.int .i64 x.c)).setCell ⟨w.heap.size + 1 + 1, 4, none⟩ (.bool x.s)).cell? ⟨w.heap.size + 1, 1, none⟩ = some (.slice k.A1 s.f1.length k.c1) ∧ (((((v1.setCell ⟨w.heap.size + 1 + 1, 0, none⟩ (.int .i64 x.k)).setCell ⟨w.heap.size + 1 + 1, 1, none⟩ (.int .i64 x.a)).setCell ⟨w.heap.size + 1 + 1, 2, none⟩ (.int .i64 x.b)).setCell ⟨w.heap.size + 1 + 1, 3, none⟩ (.int .i64 x.c)).setCell ⟨w.heap.size + 1 + 1, 4, none⟩ (.bool x.s)).cell? ⟨w.heap.size + 1, 2, none⟩ = some (.slice k.A2 s.f2.length k.c2) ∧ (((((v1.setCell ⟨w.heap.size + 1 + 1, 0, none⟩ (.int .i64 x.k)).setCell ⟨w.heap.size + 1 + 1, 1, none⟩ (.int .i64 x.a)).setCell ⟨w.heap.size + 1 + 1, 2, none⟩ (.int .i64 x.b)).setCell ⟨w.heap.size + 1 + 1, 3, none⟩ (.int .i64 x.c)).setCell ⟨w.heap.size + 1 + 1, 4, none⟩ (.bool x.s)).cell? ⟨w.heap.size + 1, 3, none⟩ = some (.slice k.A3 s.f3.length k.c3) ∧ (((((v1.setCell ⟨w.heap.size + 1 + 1, 0, none⟩ (.int .i64 x.k)).setCell ⟨w.heap.size + 1 + 1, 1, none⟩ (.int .i64 x.a)).setCell ⟨w.heap.size + 1 + 1, 2, none⟩ (.int .i64 x.b)).setCell ⟨w.heap.size + 1 + 1, 3, none⟩ (.int .i64 x.c)).setCell ⟨w.heap.size + 1 + 1, 4, none⟩ (.bool x.s)).cell? ⟨w.heap.size + 1, 4, none⟩ = some (.slice k.A4 s.f4.length k.c4)) from ⟨((((((below_on BUH.out hBv1).setCell (p := ⟨w.heap.size + 1 + 1, 0, none⟩) (show w.heap.size ≤ w.heap.size + 1 + 1 by omega) _).setCell (p := ⟨w.heap.size + 1 + 1, 1, none⟩) (show w.heap.size ≤ w.heap.size + 1 + 1 by omega) _).setCell (p := ⟨w.heap.size + 1 + 1, 2, none⟩) (show w.heap.size ≤ w.heap.size + 1 + 1 by omega) _).setCell (p := ⟨w.heap.size + 1 + 1, 3, none⟩) (show w.heap.size ≤ w.heap.size + 1 + 1 by omega) _).setCell (p := ⟨w.heap.size + 1 + 1, 4, none⟩) (show w.heap.size ≤ w.heap.size + 1 + 1 by omega) _), ((((((KX.out.below hBv1 KX.out.lt).far (p := ⟨w.heap.size + 1 + 1, 0, none⟩) (show V.heap.size ≠ w.heap.size + 1 + 1 by omega) _).far (p := ⟨w.heap.size + 1 + 1, 1, none⟩) (show V.heap.size ≠ w.heap.size + 1 + 1 by omega) _).far (p := ⟨w.heap.size + 1 + 1, 2, none⟩) (show V.heap.size ≠ w.heap.size + 1 + 1 by omega) _).far (p := ⟨w.heap.size + 1 + 1, 3, none⟩) (show V.heap.size ≠ w.heap.size + 1 + 1 by omega) _).far (p := ⟨w.heap.size + 1 + 1, 4, none⟩) (show V.heap.size ≠ w.heap.size + 1 + 1 by omega) _).cell 0, ((((((KX.out.below hBv1 KX.out.lt).far (p := ⟨w.heap.size + 1 + 1, 0, none⟩) (show V.heap.size ≠ w.heap.size + 1 + 1 by omega) _).far (p := ⟨w.heap.size + 1 + 1, 1, none⟩) (show V.heap.size ≠ w.heap.size + 1 + 1 by omega) _).far (p := ⟨w.heap.size + 1 + 1, 2, none⟩) (show V.heap.size ≠ w.heap.size + 1 + 1 by omega) _).far (p := ⟨w.heap.size + 1 + 1, 3, none⟩) (show V.heap.size ≠ w.heap.size + 1 + 1 by omega) _).far (p := ⟨w.heap.size + 1 + 1, 4, none⟩) (show V.heap.size ≠ w.heap.size + 1 + 1 by omega) _).cell 1, ((((((KX.out.below hBv1 KX.out.lt).far (p := ⟨w.heap.size + 1 + 1, 0, none⟩) (show V.heap.size ≠ w.heap.size + 1 + 1 by omega) _).far (p := ⟨w.heap.size + 1 + 1, 1, none⟩) (show V.heap.size ≠ w.heap.size + 1 + 1 by omega) _).far (p := ⟨w.heap.size + 1 + 1, 2, none⟩) (show V.heap.size ≠ w.heap.size + 1 + 1 by omega) _).far (p := ⟨w.heap.size + 1 + 1, 3, none⟩) (show V.heap.size ≠ w.heap.size + 1 + 1 by omega) _).far (p := ⟨w.heap.size + 1 + 1, 4, none⟩) (show V.heap.size ≠ w.heap.size + 1 + 1 by omega) _).cell 2, ((((((KX.out.below hBv1 KX.out.lt).far (p := ⟨w.heap.size + 1 + 1, 0, none⟩) (show V.heap.size ≠ w.heap.size + 1 + 1 by omega) _).far (p := ⟨w.heap.size + 1 + 1, 1, none⟩) (show V.heap.size ≠ w.heap.size + 1 + 1 by omega) _).far (p := ⟨w.heap.size + 1 + 1, 2, none⟩) (show V.heap.size ≠ w.heap.size + 1 + 1 by omega) _).far (p := ⟨w.heap.size + 1 + 1, 3, none⟩) (show V.heap.size ≠ w.heap.size + 1 + 1 by omega) _).far (p := ⟨w.heap.size + 1 + 1, 4, none⟩) (show V.heap.size ≠ w.heap.size + 1 + 1 by omega) _).cell 3, ((((((KX.out.below hBv1 KX.out.lt).far (p := ⟨w.heap.size + 1 + 1, 0, none⟩) (show V.heap.size ≠ w.heap.size + 1 + 1 by omega) _).far (p := ⟨w.heap.size + 1 + 1, 1, none⟩) (show V.heap.size ≠ w.heap.size + 1 + 1 by omega) _).far (p := ⟨w.heap.size + 1 + 1, 2, none⟩) (show V.heap.size ≠ w.heap.size + 1 + 1 by omega) _).far (p := ⟨w.heap.size + 1 + 1, 3, none⟩) (show V.heap.size ≠ w.heap.size + 1 + 1 by omega) _).far (p := ⟨w.heap.size + 1 + 1, 4, none⟩) (show V.heap.size ≠ w.heap.size + 1 + 1 by omega) _).cell 4, ((((((KS.out.below hBv1 KS.out.lt).far (p := ⟨w.heap.size + 1 + 1, 0, none⟩) (show w.heap.size + 1 ≠ w.heap.size + 1 + 1 by omega) _).far (p := ⟨w.heap.size + 1 + 1, 1, none⟩) (show w.heap.size + 1 ≠ w.heap.size + 1 + 1 by omega) _).far (p := ⟨w.heap.size + 1 + 1, 2, none⟩) (show w.heap.size + 1 ≠ w.heap.size + 1 + 1 by omega) _).far (p := ⟨w.heap.size + 1 + 1, 3, none⟩) (show w.heap.size + 1 ≠ w.heap.size + 1 + 1 by omega) _).far (p := ⟨w.heap.size + 1 + 1, 4, none⟩) (show w.heap.size + 1 ≠ w.heap.size + 1 + 1 by omega) _).cell 0, ((((((KS.out.below hBv1 KS.out.lt).far (p := ⟨w.heap.size + 1 + 1, 0, none⟩) (show w.heap.size + 1 ≠ w.heap.size + 1 + 1 by omega) _).far (p := ⟨w.heap.size + 1 + 1, 1, none⟩) (show w.heap.size + 1 ≠ w.heap.size + 1 + 1 by omega) _).far (p := ⟨w.heap.size + 1 + 1, 2, none⟩) (show w.heap.size + 1 ≠ w.heap.size + 1 + 1 by omega) _).far (p := ⟨w.heap.size + 1 + 1, 3, none⟩) (show w.heap.size + 1 ≠ w.heap.size + 1 + 1 by omega) _).far (p := ⟨w.heap.size + 1 + 1, 4, none⟩) (show w.heap.size + 1 ≠ w.heap.size + 1 + 1 by omega) _).cell 1, ((((((KS.out.below hBv1 KS.out.lt).far (p := ⟨w.heap.size + 1 + 1, 0, none⟩) (show w.heap.size + 1 ≠ w.heap.size + 1 + 1 by omega) _).far (p := ⟨w.heap.size + 1 + 1, 1, none⟩) (show w.heap.size + 1 ≠ w.heap.size + 1 + 1 by omega) _).far (p := ⟨w.heap.size + 1 + 1, 2, none⟩) (show w.heap.size + 1 ≠ w.heap.size + 1 + 1 by omega) _).far (p := ⟨w.heap.size + 1 + 1, 3, none⟩) (show w.heap.size + 1 ≠ w.heap.size + 1 + 1 by omega) _).far (p := ⟨w.heap.size + 1 + 1, 4, none⟩) (show w.heap.size + 1 ≠ w.heap.size + 1 + 1 by omega) _).cell 2, ((((((KS.out.below hBv1 KS.out.lt).far (p := ⟨w.heap.size + 1 + 1, 0, none⟩) (show w.heap.size + 1 ≠ w.heap.size + 1 + 1 by omega) _).far (p := ⟨w.heap.size + 1 + 1, 1, none⟩) (show w.heap.size + 1 ≠ w.heap.size + 1 + 1 by omega) _).far (p := ⟨w.heap.size + 1 + 1, 2, none⟩) (show w.heap.size + 1 ≠ w.heap.size + 1 + 1 by omega) _).far (p := ⟨w.heap.size + 1 + 1, 3, none⟩) (show w.heap.size + 1 ≠ w.heap.size + 1 + 1 by omega) _).far (p := ⟨w.heap.size + 1 + 1, 4, none⟩) (show w.heap.size + 1 ≠ w.heap.size + 1 + 1 by omega) _).cell 3, ((((((KS.out.below hBv1 KS.out.lt).far (p := ⟨w.heap.size + 1 + 1, 0, none⟩) (show w.heap.size + 1 ≠ w.heap.size + 1 + 1 by omega) _).far (p := ⟨w.heap.size + 1 + 1, 1, none⟩) (show w.heap.size + 1 ≠ w.heap.size + 1 + 1 by omega) _).far (p := ⟨w.heap.size + 1 + 1, 2, none⟩) (show w.heap.size + 1 ≠ w.heap.size + 1 + 1 by omega) _).far (p := ⟨w.heap.size + 1 + 1, 3, none⟩) (show w.heap.size + 1 ≠ w.heap.size + 1 + 1 by omega) _).far (p := ⟨w.heap.size + 1 + 1, 4, none⟩) (show w.heap.size + 1 ≠ w.heap.size + 1 + 1 by omega) _).cell 4⟩); have cr0 : v1.cell? ⟨w.heap.size + 1 + 1, 0, none⟩ = some (.int .i64 0) := (KR.out.below hBv1 KR.out.lt).cell 0; have fr0 : v1.frozen? ⟨w.heap.size + 1 + 1, 0, none⟩ = false := (KR.out.below hBv1 KR.out.lt).free 0; have cr1 : v1.cell? ⟨w.heap.size + 1 + 1, 1, none⟩ = some (.int .i64 0) := (KR.out.below hBv1 KR.out.lt).cell 1; have fr1 : v1.frozen? ⟨w.heap.size + 1 + 1, 1, none⟩ = false := (KR.out.below hBv1 KR.out.lt).free 1; have cr2 : v1.cell? ⟨w.heap.size + 1 + 1, 2, none⟩ = some (.int .i64 0) := (KR.out.below hBv1 KR.out.lt).cell 2; have fr2 : v1.frozen? ⟨w.heap.size + 1 + 1, 2, none⟩ = false := (KR.out.below hBv1 KR.out.lt).free 2; have cr3 : v1.cell? ⟨w.heap.size + 1 + 1, 3, none⟩ = some (.int .i64 0) := (KR.out.below hBv1 KR.out.lt).cell 3; have fr3 : v1.frozen? ⟨w.heap.size + 1 + 1, 3, none⟩ = false := (KR.out.below hBv1 KR.out.lt).free 3; have cr4 : v1.cell? ⟨w.heap.size + 1 + 1, 4, none⟩ = some (.bool false) := (KR.out.below hBv1 KR.out.lt).cell 4; have fr4 : v1.frozen? ⟨w.heap.size + 1 + 1, 4, none⟩ = false := (KR.out.below hBv1 KR.out.lt).free 4; clear hv))
  clear cr0 cr1 cr2 cr3 cr4 fr0 fr1 fr2 fr3 fr4 Fin
  have kF : Bk (((((v1.setCell ⟨w.heap.size + 1 + 1, 0, none⟩ (.int .i64 x.k)).setCell ⟨w.heap.size + 1 + 1, 1, none⟩ (.int .i64 x.a)).setCell ⟨w.heap.size + 1 + 1, 2, none⟩ (.int .i64 x.b)).setCell ⟨w.heap.size + 1 + 1, 3, none⟩ (.int .i64 x.c)).setCell ⟨w.heap.size + 1 + 1, 4, none⟩ (.bool x.s)) (w.heap.size + 1 + 1) 107 #[.int .i64 x.k, .int .i64 x.a, .int .i64 x.b, .int .i64 x.c, .bool x.s] := by
    have a0 := (KR.out.below hBv1 KR.out.lt)
    have a1 := a0.set 0 (.int .i64 x.k)
    have a2 := a1.set 1 (.int .i64 x.a)
    have a3 := a2.set 2 (.int .i64 x.b)
    have a4 := a3.set 3 (.int .i64 x.c)
    have a5 := a4.set 4 (.bool x.s)
    simpa using a5
  have bF : Below w.heap.size w (((((v1.setCell ⟨w.heap.size + 1 + 1, 0, none⟩ (.int .i64 x.k)).setCell ⟨w.heap.size + 1 + 1, 1, none⟩ (.int .i64 x.a)).setCell ⟨w.heap.size + 1 + 1, 2, none⟩ (.int .i64 x.b)).setCell ⟨w.heap.size + 1 + 1, 3, none⟩ (.int .i64 x.c)).setCell ⟨w.heap.size + 1 + 1, 4, none⟩ (.bool x.s)) := ((((((below_on BUH.out hBv1).setCell (p := ⟨w.heap.size + 1 + 1, 0, none⟩) (show w.heap.size ≤ w.heap.size + 1 + 1 by omega) _).setCell (p := ⟨w.heap.size + 1 + 1, 1, none⟩) (show w.heap.size ≤ w.heap.size + 1 + 1 by omega) _).setCell (p := ⟨w.heap.size + 1 + 1, 2, none⟩) (show w.heap.size ≤ w.heap.size + 1 + 1 by omega) _).setCell (p := ⟨w.heap.size + 1 + 1, 3, none⟩) (show w.heap.size ≤ w.heap.size + 1 + 1 by omega) _).setCell (p := ⟨w.heap.size + 1 + 1, 4, none⟩) (show w.heap.size ≤ w.heap.size + 1 + 1 by omega) _)
  have nF : ∀ q, w.heap.size + 1 + 1 < q → (((((v1.setCell ⟨w.heap.size + 1 + 1, 0, none⟩ (.int .i64 x.k)).setCell ⟨w.heap.size + 1 + 1, 1, none⟩ (.int .i64 x.a)).setCell ⟨w.heap.size + 1 + 1, 2, none⟩ (.int .i64 x.b)).setCell ⟨w.heap.size + 1 + 1, 3, none⟩ (.int .i64 x.c)).setCell ⟨w.heap.size + 1 + 1, 4, none⟩ (.bool x.s)).heap[q]? = v1.heap[q]? := fun q hq => (Below.heap_setCell _ _ _ q (by show q ≠ w.heap.size + 1 + 1; omega)).trans ((Below.heap_setCell _ _ _ q (by show q ≠ w.heap.size + 1 + 1; omega)).trans ((Below.heap_setCell _ _ _ q (by show q ≠ w.heap.size + 1 + 1; omega)).trans ((Below.heap_setCell _ _ _ q (by show q ≠ w.heap.size + 1 + 1; omega)).trans (Below.heap_setCell _ _ _ q (by show q ≠ w.heap.size + 1 + 1; omega)))))
  have zF : v1.heap.size ≤ (((((v1.setCell ⟨w.heap.size + 1 + 1, 0, none⟩ (.int .i64 x.k)).setCell ⟨w.heap.size + 1 + 1, 1, none⟩ (.int .i64 x.a)).setCell ⟨w.heap.size + 1 + 1, 2, none⟩ (.int .i64 x.b)).setCell ⟨w.heap.size + 1 + 1, 3, none⟩ (.int .i64 x.c)).setCell ⟨w.heap.size + 1 + 1, 4, none⟩ (.bool x.s)).heap.size := by simp
  have HF := Lib.hid kF
  have BF := Lib.hid bF
  have NF := Lib.hid nF
  obtain ⟨F, hF⟩ : ∃ F, F = (((((v1.setCell ⟨w.heap.size + 1 + 1, 0, none⟩ (.int .i64 x.k)).setCell ⟨w.heap.size + 1 + 1, 1, none⟩ (.int .i64 x.a)).setCell ⟨w.heap.size + 1 + 1, 2, none⟩ (.int .i64 x.b)).setCell ⟨w.heap.size + 1 + 1, 3, none⟩ (.int .i64 x.c)).setCell ⟨w.heap.size + 1 + 1, 4, none⟩ (.bool x.s)) := ⟨_, rfl⟩
  rw [← hF] at HF BF NF zF
  rw [← hF]
  clear kF bF nF hF
  have c0 := HF.out.cell 0
  have c1 := HF.out.cell 1
  have c2 := HF.out.cell 2
  have c3 := HF.out.cell 3
  have c4 := HF.out.cell 4
  simp only [List.getElem?_toArray, List.getElem?_cons_zero, List.getElem?_cons_succ] at c0 c1 c2 c3 c4
  go_wp2
  refine bodyPost_ret (v := .tuple #[.agg #[.int .i64 x.k, .int .i64 x.a, .int .i64 x.b, .int .i64 x.c, .bool x.s], .bool r]) (by simp [results, Try.results84, c0, c1, c2, c3, c4, go_sem]) rfl ?_
  exact ⟨rfl, BF.out⟩
end Go.Proofs.Ytaghidaamcnpkab
