/-
  What the program's nextEvent comes to.
-/
import Derived.Test.YtaghidaamcnpkabKept
import Derived.Test.YtaghidaamcnpkabDep
import Derived.Deep.RegionHeld3
namespace Go.Proofs.Ytaghidaamcnpkab
open Go.RowKit Pl
set_option maxHeartbeats 4000000
set_option maxRecDepth 100000
set_option linter.unusedVariables false

/-- The next event of a thread. -/
def evV (L : Pg) (f : Nat → Nat) (t : Nat) : Value := Ev t (f (3 + t)) (smAt L t (f (3 + t))).k (smAt L t (f (3 + t))).a (smAt L t (f (3 + t))).b (smAt L t (f (3 + t))).c (smAt L t (f (3 + t))).s
theorem nextev_any (h : PgH) (L : Pg) (f : Nat → Nat) (t : Nat) (w : World) (B : Nat) (hP : PgR w B h L) (hB : B ≤ w.heap.size) (hL : progB L = true) (hf : Good L f) (ht : t < L.length) (hml : f (3 + t) < (L.getD t []).length) :
    Calls Try.prog 73 #[PgV h L, .int .u64 (enc WS f : Nat), .int .i64 t] w fun e w' => e = .returned (evV L f t) ∧ Below w.heap.size w w' := by
  obtain ⟨h31, h32⟩ := prog_len hL
  obtain ⟨i, hi0⟩ : ∃ i, f (3 + t) = i := ⟨_, rfl⟩
  obtain ⟨x, hsm⟩ : ∃ x, smAt L t i = x := ⟨_, rfl⟩
  have HSM := Lib.hid hsm
  unfold evV
  rw [hi0, hsm]
  rw [hi0] at hml
  clear hsm
  obtain ⟨W, hW⟩ : ∃ W, W = (w.alloc (.cells #[.slice h.A L.length h.c] 32)).alloc (.cells #[.int .i64 0, .int .i64 0, .int .i64 0, .int .i64 0, .int .i64 0, .int .i64 0, .bool false] 109) := ⟨_, rfl⟩
  have bW : Below w.heap.size w W := by rw [hW]; go_grown
  have sW : W.heap.size = w.heap.size + 1 + 1 := by rw [hW]; simp
  have k0 : Bk W w.heap.size 32 #[.slice h.A L.length h.c] := by rw [hW]; exact (Bk.new w _ _).alloc _
  have k1 : Bk W (w.heap.size + 1) 109 #[.int .i64 0, .int .i64 0, .int .i64 0, .int .i64 0, .int .i64 0, .int .i64 0, .bool false] := by
    rw [hW]; have := Bk.new (w.alloc (.cells #[.slice h.A L.length h.c] 32)) #[.int .i64 0, .int .i64 0, .int .i64 0, .int .i64 0, .int .i64 0, .int .i64 0, .bool false] 109
    rwa [World.size_alloc] at this
  have P0 := Lib.hid (hP.below bW hB)
  have K0 := Lib.hid k0
  have K1 := Lib.hid k1
  have BW := Lib.hid bW
  have sWa := Nat.le_of_eq sW
  have sWb := Nat.le_of_eq sW.symm
  have HW := Lib.hid hW
  have hr0 : Hid ((f (3 + t) : Nat) + fL 0 = (i : Int)) := Lib.hid (by have e : fL 0 = 0 := rfl; rw [e, hi0, Int.add_zero])
  clear k0 k1 bW sW hW hP
  go_enter Try.func73, Try.ntmps73
  go_wp2_with fail
  rw [← HW.out]
  refine (entF fld0 hf.ok t (show t < 3 by omega) W _ hr0).mono ?_
  rintro e w1 ⟨rfl, hb1⟩
  have B1 := Lib.hid (below_on BW.out hb1)
  have z1 := hb1.size
  have K01 := Lib.hid (K0.out.below hb1 K0.out.lt)
  have K11 := Lib.hid (K1.out.below hb1 K1.out.lt)
  have P1 := Lib.hid (P0.out.below hb1 (by omega))
  clear hb1
  obtain ⟨b1, off1, xs, Ai, ci, hA, hb1, hx, hc1, -, hmi, hrow⟩ := pg_at P1.out ht
  have hd := getD_some (d := []) hx
  rw [hd] at hml
  obtain ⟨b3, off3, x', hA3, hb3, hx3, -, c0, c1, c2, c3, c4⟩ := hrow.at_ hml
  have hxx : x' = x := by rw [← HSM.out]; unfold smAt; rw [hd]; exact (getD_some hx3).symm
  subst hxx
  subst hA3
  have e0 := K01.out.cell 0
  simp only [List.getElem?_toArray, List.getElem?_cons_zero] at e0
  rw [hA] at e0
  have hti : (t : Int) < (L.length : Int) := by omega
  have him : (i : Int) < (xs.length : Int) := by omega
  have l0 := K01.out.lt
  have hb1w : b1 < w1.heap.size := by omega
  have hb3w : b3 < w1.heap.size := by omega
  unfold maxLen at hmi
  have HA := Lib.hid hA
  clear hA hx hx3 hrow hd
  have cr0 : w1.cell? ⟨w.heap.size + 1, 0, none⟩ = some (.int .i64 0) := K11.out.cell 0
  have fr0 : w1.frozen? ⟨w.heap.size + 1, 0, none⟩ = false := K11.out.free 0
  have cr1 : w1.cell? ⟨w.heap.size + 1, 1, none⟩ = some (.int .i64 0) := K11.out.cell 1
  have fr1 : w1.frozen? ⟨w.heap.size + 1, 1, none⟩ = false := K11.out.free 1
  have cr2 : w1.cell? ⟨w.heap.size + 1, 2, none⟩ = some (.int .i64 0) := K11.out.cell 2
  have fr2 : w1.frozen? ⟨w.heap.size + 1, 2, none⟩ = false := K11.out.free 2
  have cr3 : w1.cell? ⟨w.heap.size + 1, 3, none⟩ = some (.int .i64 0) := K11.out.cell 3
  have fr3 : w1.frozen? ⟨w.heap.size + 1, 3, none⟩ = false := K11.out.free 3
  have cr4 : w1.cell? ⟨w.heap.size + 1, 4, none⟩ = some (.int .i64 0) := K11.out.cell 4
  have fr4 : w1.frozen? ⟨w.heap.size + 1, 4, none⟩ = false := K11.out.free 4
  have cr5 : w1.cell? ⟨w.heap.size + 1, 5, none⟩ = some (.int .i64 0) := K11.out.cell 5
  have fr5 : w1.frozen? ⟨w.heap.size + 1, 5, none⟩ = false := K11.out.free 5
  have cr6 : w1.cell? ⟨w.heap.size + 1, 6, none⟩ = some (.bool false) := K11.out.cell 6
  have fr6 : w1.frozen? ⟨w.heap.size + 1, 6, none⟩ = false := K11.out.free 6
  go_wp2
  clear cr0 fr0 cr1 fr1 cr2 fr2 cr3 fr3 cr4 fr4 cr5 fr5 cr6 fr6 c0 c1 c2 c3 c4
  have kF : Bk (((((((w1.setCell ⟨w.heap.size + 1, 0, none⟩ (.int .i64 t)).setCell ⟨w.heap.size + 1, 1, none⟩ (.int .i64 i)).setCell ⟨w.heap.size + 1, 2, none⟩ (.int .i64 x'.k)).setCell ⟨w.heap.size + 1, 3, none⟩ (.int .i64 x'.a)).setCell ⟨w.heap.size + 1, 4, none⟩ (.int .i64 x'.b)).setCell ⟨w.heap.size + 1, 5, none⟩ (.int .i64 x'.c)).setCell ⟨w.heap.size + 1, 6, none⟩ (.bool x'.s)) (w.heap.size + 1) 109 #[.int .i64 t, .int .i64 i, .int .i64 x'.k, .int .i64 x'.a, .int .i64 x'.b, .int .i64 x'.c, .bool x'.s] := by
    have a0 := K11.out
    have a1 := a0.set 0 (.int .i64 t)
    have a2 := a1.set 1 (.int .i64 i)
    have a3 := a2.set 2 (.int .i64 x'.k)
    have a4 := a3.set 3 (.int .i64 x'.a)
    have a5 := a4.set 4 (.int .i64 x'.b)
    have a6 := a5.set 5 (.int .i64 x'.c)
    have a7 := a6.set 6 (.bool x'.s)
    simpa using a7
  have bF : Below w.heap.size w (((((((w1.setCell ⟨w.heap.size + 1, 0, none⟩ (.int .i64 t)).setCell ⟨w.heap.size + 1, 1, none⟩ (.int .i64 i)).setCell ⟨w.heap.size + 1, 2, none⟩ (.int .i64 x'.k)).setCell ⟨w.heap.size + 1, 3, none⟩ (.int .i64 x'.a)).setCell ⟨w.heap.size + 1, 4, none⟩ (.int .i64 x'.b)).setCell ⟨w.heap.size + 1, 5, none⟩ (.int .i64 x'.c)).setCell ⟨w.heap.size + 1, 6, none⟩ (.bool x'.s)) := (((((((B1.out.setCell (p := ⟨w.heap.size + 1, 0, none⟩) (show w.heap.size ≤ w.heap.size + 1 by omega) _).setCell (p := ⟨w.heap.size + 1, 1, none⟩) (show w.heap.size ≤ w.heap.size + 1 by omega) _).setCell (p := ⟨w.heap.size + 1, 2, none⟩) (show w.heap.size ≤ w.heap.size + 1 by omega) _).setCell (p := ⟨w.heap.size + 1, 3, none⟩) (show w.heap.size ≤ w.heap.size + 1 by omega) _).setCell (p := ⟨w.heap.size + 1, 4, none⟩) (show w.heap.size ≤ w.heap.size + 1 by omega) _).setCell (p := ⟨w.heap.size + 1, 5, none⟩) (show w.heap.size ≤ w.heap.size + 1 by omega) _).setCell (p := ⟨w.heap.size + 1, 6, none⟩) (show w.heap.size ≤ w.heap.size + 1 by omega) _)
  have nF : ∀ q, w.heap.size + 1 < q → (((((((w1.setCell ⟨w.heap.size + 1, 0, none⟩ (.int .i64 t)).setCell ⟨w.heap.size + 1, 1, none⟩ (.int .i64 i)).setCell ⟨w.heap.size + 1, 2, none⟩ (.int .i64 x'.k)).setCell ⟨w.heap.size + 1, 3, none⟩ (.int .i64 x'.a)).setCell ⟨w.heap.size + 1, 4, none⟩ (.int .i64 x'.b)).setCell ⟨w.heap.size + 1, 5, none⟩ (.int .i64 x'.c)).setCell ⟨w.heap.size + 1, 6, none⟩ (.bool x'.s)).heap[q]? = w1.heap[q]? := fun q hq => (Below.heap_setCell _ _ _ q (by show q ≠ w.heap.size + 1; omega)).trans ((Below.heap_setCell _ _ _ q (by show q ≠ w.heap.size + 1; omega)).trans ((Below.heap_setCell _ _ _ q (by show q ≠ w.heap.size + 1; omega)).trans ((Below.heap_setCell _ _ _ q (by show q ≠ w.heap.size + 1; omega)).trans ((Below.heap_setCell _ _ _ q (by show q ≠ w.heap.size + 1; omega)).trans ((Below.heap_setCell _ _ _ q (by show q ≠ w.heap.size + 1; omega)).trans (Below.heap_setCell _ _ _ q (by show q ≠ w.heap.size + 1; omega)))))))
  have zF : w1.heap.size ≤ (((((((w1.setCell ⟨w.heap.size + 1, 0, none⟩ (.int .i64 t)).setCell ⟨w.heap.size + 1, 1, none⟩ (.int .i64 i)).setCell ⟨w.heap.size + 1, 2, none⟩ (.int .i64 x'.k)).setCell ⟨w.heap.size + 1, 3, none⟩ (.int .i64 x'.a)).setCell ⟨w.heap.size + 1, 4, none⟩ (.int .i64 x'.b)).setCell ⟨w.heap.size + 1, 5, none⟩ (.int .i64 x'.c)).setCell ⟨w.heap.size + 1, 6, none⟩ (.bool x'.s)).heap.size := by simp
  have HF := Lib.hid kF
  have BF := Lib.hid bF
  have NF := Lib.hid nF
  obtain ⟨F, hF⟩ : ∃ F, F = (((((((w1.setCell ⟨w.heap.size + 1, 0, none⟩ (.int .i64 t)).setCell ⟨w.heap.size + 1, 1, none⟩ (.int .i64 i)).setCell ⟨w.heap.size + 1, 2, none⟩ (.int .i64 x'.k)).setCell ⟨w.heap.size + 1, 3, none⟩ (.int .i64 x'.a)).setCell ⟨w.heap.size + 1, 4, none⟩ (.int .i64 x'.b)).setCell ⟨w.heap.size + 1, 5, none⟩ (.int .i64 x'.c)).setCell ⟨w.heap.size + 1, 6, none⟩ (.bool x'.s)) := ⟨_, rfl⟩
  rw [← hF] at HF BF NF zF
  rw [← hF]
  clear kF bF nF hF
  have c0 := HF.out.cell 0
  have c1 := HF.out.cell 1
  have c2 := HF.out.cell 2
  have c3 := HF.out.cell 3
  have c4 := HF.out.cell 4
  have c5 := HF.out.cell 5
  have c6 := HF.out.cell 6
  simp only [List.getElem?_toArray, List.getElem?_cons_zero, List.getElem?_cons_succ] at c0 c1 c2 c3 c4 c5 c6
  refine bodyPost_ret (v := .agg #[.int .i64 t, .int .i64 i, .int .i64 x'.k, .int .i64 x'.a, .int .i64 x'.b, .int .i64 x'.c, .bool x'.s]) (by simp [results, Try.results73, c0, c1, c2, c3, c4, c5, c6, go_sem]) rfl ?_
  exact ⟨rfl, BF.out⟩
/-- The statement of an event. -/
theorem ev_stmt (t i k a b c : Int) (s : Bool) (w : World) : (Instr.field 109 (Ev t i k a b c s) 2).run Try.prog w = .ok (.agg #[.int .i64 k, .int .i64 a, .int .i64 b, .int .i64 c, .bool s]) w := by kernel_rfl
end Go.Proofs.Ytaghidaamcnpkab
