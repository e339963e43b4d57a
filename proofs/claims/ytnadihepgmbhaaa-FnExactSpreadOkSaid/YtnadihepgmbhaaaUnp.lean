/-
  What the program's unpacked, beginWord, packed and able come to.
-/
import Derived.Test.YtnadihepgmbhaaaKept
namespace Go.Proofs.Ytnadihepgmbhaaa
open Go.RowKit Pl
set_option maxHeartbeats 4000000
set_option maxRecDepth 100000
set_option linter.unusedVariables false

/-- A row that was made at its full length. -/
def MadeE (w : World) (vs : List Value) (N : Int) (n : Nat) (e : Ending) (w' : World) : Prop :=
  ∃ g, e = .returned (.slice (some ⟨g, 0, none⟩) n n) ∧ w.heap.size ≤ g ∧ g < w'.heap.size ∧ Below w.heap.size w w' ∧ OwnVs w' g (g + 1) 3 (some ⟨g, 0, none⟩) vs
theorem entries_made (ws : List Nat) (j b : Nat) (f : Nat → Nat) (n : Nat) (N : Int) (hN : N = (n : Int)) (F : Fld ws j b) (h : okF ws f) (hn : n ≤ fC j) (w : World) :
    Calls Try.prog 150 #[.int .u64 (enc ws f : Nat), .int .i64 j, .int .i64 N] w (MadeE w (ints (fldI f b (fL j) n)) N n) := by
  subst hN
  refine (entries_any ws j b f n w F h hn).mono ?_
  rintro e w' ⟨rfl, hc⟩
  have hc' : CopyV w w' 3 (ints (fldI f b (fL j) n)) (ints (fldI f b (fL j) n)).length := by rw [ints_length, fldI_length]; exact hc
  exact ⟨_, rfl, Nat.le_refl _, hc.lt, hc.1, hc'.done⟩

/-- The state of a word. -/
def staF (L : Pg) (f : Nat → Nat) : Sta := ⟨fldI f 3 (fL 0) L.length, fldI f 6 (fL 1) (L.length * 3), fldI f 15 (fL 2) 3, fldI f 18 (fL 3) 2, fldI f 20 (fL 4) 2⟩

theorem unpacked_any (h : PgH) (L : Pg) (f : Nat → Nat) (w : World) (hL : progB L = true) (hf : okF WS f) :
    Calls Try.prog 103 #[PgV h L, .int .u64 (enc WS f : Nat)] w (ToSta w (staF L f)) := by
  obtain ⟨h31, h32⟩ := prog_len hL
  obtain ⟨W, hW⟩ : ∃ W, W = (w.alloc (.cells #[.slice h.A L.length h.c] 36)).alloc (.cells #[.slice none 0 0, .slice none 0 0, .slice none 0 0, .slice none 0 0, .slice none 0 0] 28) := ⟨_, rfl⟩
  have bW : Below w.heap.size w W := by rw [hW]; go_grown
  have sW : W.heap.size = w.heap.size + 1 + 1 := by rw [hW]; simp
  have k0 : Bk W w.heap.size 36 #[.slice h.A L.length h.c] := by rw [hW]; exact (Bk.new w _ _).alloc _
  have k1 : Bk W (w.heap.size + 1) 28 #[.slice none 0 0, .slice none 0 0, .slice none 0 0, .slice none 0 0, .slice none 0 0] := by
    rw [hW]; have := Bk.new (w.alloc (.cells #[.slice h.A L.length h.c] 36)) #[.slice none 0 0, .slice none 0 0, .slice none 0 0, .slice none 0 0, .slice none 0 0] 28
    rwa [World.size_alloc] at this
  have cb : W.cell? ⟨w.heap.size, 0, none⟩ = some (.slice h.A L.length h.c) := k0.cell 0
  have K0 := Lib.hid k0
  have K1 := Lib.hid k1
  have BW := Lib.hid bW
  have sWa := Nat.le_of_eq sW
  have sWb := Nat.le_of_eq sW.symm
  have HW := Lib.hid hW
  generalize hE : enc WS f = E
  have HE := Lib.hid hE
  have e0 := entries_made WS 0 3 f L.length (L.length : Int) (by omega) fld0 hf (by show L.length ≤ 3; omega)
  rw [hE] at e0
  have E0 := Lib.hid e0
  clear e0
  have tok0 : True := trivial
  have e1 := entries_made WS 1 6 f (L.length * 3) ((L.length : Int) * 3) (by omega) fld1 hf (by show L.length * 3 ≤ 9; omega)
  rw [hE] at e1
  have E1 := Lib.hid e1
  clear e1
  have tok1 : True := trivial
  have e2 := entries_made WS 2 15 f 3 3 (by rfl) fld2 hf (by decide)
  rw [hE] at e2
  have E2 := Lib.hid e2
  clear e2
  have tok2 : True := trivial
  have e3 := entries_made WS 3 18 f 2 2 (by rfl) fld3 hf (by decide)
  rw [hE] at e3
  have E3 := Lib.hid e3
  clear e3
  have tok3 : True := trivial
  have e4 := entries_made WS 4 20 f 2 2 (by rfl) fld4 hf (by decide)
  rw [hE] at e4
  have E4 := Lib.hid e4
  clear e4
  have tok4 : True := trivial
  have hbw : Below w.heap.size w W := bW
  clear k0 k1 bW sW hW hE
  go_enter Try.func103, Try.ntmps103
  go_wp2_with fail
  rw [← HW.out]
  have hmul : IntKind.i64.wrap ((L.length : Int) * 3) = (L.length : Int) * 3 := wrap64_small (by omega) (by omega)
  have hmul0 : (0 : Int) ≤ (L.length : Int) * 3 := by omega
  go_region_held3 (fun w' => Below w.heap.size w w' ∧ w'.cell? ⟨w.heap.size, 0, none⟩ = some (.slice h.A L.length h.c)) (first | (refine And.intro ?_ ?_ <;> first | with_reducible assumption | (with_reducible exact hbw.drew) | (go_grown; done) | (simp [cb]; done) | (exact (((((hbw4.setCell (p := ⟨w.heap.size + 1, 0, none⟩) (show w.heap.size ≤ w.heap.size + 1 by omega) _).setCell (p := ⟨w.heap.size + 1, 1, none⟩) (show w.heap.size ≤ w.heap.size + 1 by omega) _).setCell (p := ⟨w.heap.size + 1, 2, none⟩) (show w.heap.size ≤ w.heap.size + 1 by omega) _).setCell (p := ⟨w.heap.size + 1, 3, none⟩) (show w.heap.size ≤ w.heap.size + 1 by omega) _).setCell (p := ⟨w.heap.size + 1, 4, none⟩) (show w.heap.size ≤ w.heap.size + 1 by omega) _)) | (exact ((((((K0.out.below hBv4 K0.out.lt).far (p := ⟨w.heap.size + 1, 0, none⟩) (show w.heap.size ≠ w.heap.size + 1 by omega) _).far (p := ⟨w.heap.size + 1, 1, none⟩) (show w.heap.size ≠ w.heap.size + 1 by omega) _).far (p := ⟨w.heap.size + 1, 2, none⟩) (show w.heap.size ≠ w.heap.size + 1 by omega) _).far (p := ⟨w.heap.size + 1, 3, none⟩) (show w.heap.size ≠ w.heap.size + 1 by omega) _).far (p := ⟨w.heap.size + 1, 4, none⟩) (show w.heap.size ≠ w.heap.size + 1 by omega) _).cell 0))) (first | (go_at_call 150; clear tok0; go_split_ands; refine (E0.out _).mono ?_; rintro e v0 ⟨g0, rfl, hg, hl, hv, ov⟩; have Ov0 := Lib.hid ov; have hl0 : g0 < v0.heap.size := hl; have hBv0 : Below W.heap.size W v0 := below_on ((Below.refl W.heap.size W).drew) hv; have hg0 : W.heap.size ≤ g0 := hg; have cb0 : v0.cell? ⟨w.heap.size, 0, none⟩ = some (.slice h.A L.length h.c) := (K0.out.below hBv0 K0.out.lt).cell 0; have hbw0 : Below w.heap.size w v0 := below_on BW.out hBv0; clear ov hv hg hl) | (go_at_call 150; clear tok1; go_split_ands; refine (E1.out _).mono ?_; rintro e v1 ⟨g1, rfl, hg, hl, hv, ov⟩; have Ov1 := Lib.hid ov; have hl1 : g1 < v1.heap.size := hl; have hBv1 : Below W.heap.size W v1 := below_on hBv0 hv; have hg1 : v0.heap.size ≤ g1 := hg; have hk0_1 : Below v0.heap.size v0 v1 := hv; have cb1 : v1.cell? ⟨w.heap.size, 0, none⟩ = some (.slice h.A L.length h.c) := (K0.out.below hBv1 K0.out.lt).cell 0; have hbw1 : Below w.heap.size w v1 := below_on BW.out hBv1; clear ov hv hg hl) | (go_at_call 150; clear tok2; go_split_ands; refine (E2.out _).mono ?_; rintro e v2 ⟨g2, rfl, hg, hl, hv, ov⟩; have Ov2 := Lib.hid ov; have hl2 : g2 < v2.heap.size := hl; have hBv2 : Below W.heap.size W v2 := below_on hBv1 hv; have hg2 : v1.heap.size ≤ g2 := hg; have hk0_2 : Below v0.heap.size v0 v2 := below_on hk0_1 hv; have hk1_2 : Below v1.heap.size v1 v2 := hv; have cb2 : v2.cell? ⟨w.heap.size, 0, none⟩ = some (.slice h.A L.length h.c) := (K0.out.below hBv2 K0.out.lt).cell 0; have hbw2 : Below w.heap.size w v2 := below_on BW.out hBv2; clear ov hv hg hl) | (go_at_call 150; clear tok3; go_split_ands; refine (E3.out _).mono ?_; rintro e v3 ⟨g3, rfl, hg, hl, hv, ov⟩; have Ov3 := Lib.hid ov; have hl3 : g3 < v3.heap.size := hl; have hBv3 : Below W.heap.size W v3 := below_on hBv2 hv; have hg3 : v2.heap.size ≤ g3 := hg; have hk0_3 : Below v0.heap.size v0 v3 := below_on hk0_2 hv; have hk1_3 : Below v1.heap.size v1 v3 := below_on hk1_2 hv; have hk2_3 : Below v2.heap.size v2 v3 := hv; have cb3 : v3.cell? ⟨w.heap.size, 0, none⟩ = some (.slice h.A L.length h.c) := (K0.out.below hBv3 K0.out.lt).cell 0; have hbw3 : Below w.heap.size w v3 := below_on BW.out hBv3; clear ov hv hg hl) | (go_at_call 150; clear tok4; go_split_ands; refine (E4.out _).mono ?_; rintro e v4 ⟨g4, rfl, hg, hl, hv, ov⟩; have Ov4 := Lib.hid ov; have hl4 : g4 < v4.heap.size := hl; have hBv4 : Below W.heap.size W v4 := below_on hBv3 hv; have hg4 : v3.heap.size ≤ g4 := hg; have hk0_4 : Below v0.heap.size v0 v4 := below_on hk0_3 hv; have hk1_4 : Below v1.heap.size v1 v4 := below_on hk1_3 hv; have hk2_4 : Below v2.heap.size v2 v4 := below_on hk2_3 hv; have hk3_4 : Below v3.heap.size v3 v4 := hv; have cb4 : v4.cell? ⟨w.heap.size, 0, none⟩ = some (.slice h.A L.length h.c) := (K0.out.below hBv4 K0.out.lt).cell 0; have hbw4 : Below w.heap.size w v4 := below_on BW.out hBv4; have cr0 : v4.cell? ⟨w.heap.size + 1, 0, none⟩ = some (.slice none 0 0) := (K1.out.below hBv4 K1.out.lt).cell 0; have fr0 : v4.frozen? ⟨w.heap.size + 1, 0, none⟩ = false := (K1.out.below hBv4 K1.out.lt).free 0; have cr1 : v4.cell? ⟨w.heap.size + 1, 1, none⟩ = some (.slice none 0 0) := (K1.out.below hBv4 K1.out.lt).cell 1; have fr1 : v4.frozen? ⟨w.heap.size + 1, 1, none⟩ = false := (K1.out.below hBv4 K1.out.lt).free 1; have cr2 : v4.cell? ⟨w.heap.size + 1, 2, none⟩ = some (.slice none 0 0) := (K1.out.below hBv4 K1.out.lt).cell 2; have fr2 : v4.frozen? ⟨w.heap.size + 1, 2, none⟩ = false := (K1.out.below hBv4 K1.out.lt).free 2; have cr3 : v4.cell? ⟨w.heap.size + 1, 3, none⟩ = some (.slice none 0 0) := (K1.out.below hBv4 K1.out.lt).cell 3; have fr3 : v4.frozen? ⟨w.heap.size + 1, 3, none⟩ = false := (K1.out.below hBv4 K1.out.lt).free 3; have cr4 : v4.cell? ⟨w.heap.size + 1, 4, none⟩ = some (.slice none 0 0) := (K1.out.below hBv4 K1.out.lt).cell 4; have fr4 : v4.frozen? ⟨w.heap.size + 1, 4, none⟩ = false := (K1.out.below hBv4 K1.out.lt).free 4; clear ov hv hg hl))
  clear cb cb0 cb1 cb2 cb3 cb4 cr0 cr1 cr2 cr3 cr4 fr0 fr1 fr2 fr3 fr4 hbw0 hbw1 hbw2 hbw3 hbw4 hbw
  have kF : Bk (((((v4.setCell ⟨w.heap.size + 1, 0, none⟩ (.slice (some ⟨g0, 0, none⟩) L.length L.length)).setCell ⟨w.heap.size + 1, 1, none⟩ (.slice (some ⟨g1, 0, none⟩) (L.length * 3) (L.length * 3))).setCell ⟨w.heap.size + 1, 2, none⟩ (.slice (some ⟨g2, 0, none⟩) 3 3)).setCell ⟨w.heap.size + 1, 3, none⟩ (.slice (some ⟨g3, 0, none⟩) 2 2)).setCell ⟨w.heap.size + 1, 4, none⟩ (.slice (some ⟨g4, 0, none⟩) 2 2)) (w.heap.size + 1) 28 #[.slice (some ⟨g0, 0, none⟩) L.length L.length, .slice (some ⟨g1, 0, none⟩) (L.length * 3) (L.length * 3), .slice (some ⟨g2, 0, none⟩) 3 3, .slice (some ⟨g3, 0, none⟩) 2 2, .slice (some ⟨g4, 0, none⟩) 2 2] := by
    have a0 := K1.out.below hBv4 K1.out.lt
    have a1 := a0.set 0 (.slice (some ⟨g0, 0, none⟩) L.length L.length)
    have a2 := a1.set 1 (.slice (some ⟨g1, 0, none⟩) (L.length * 3) (L.length * 3))
    have a3 := a2.set 2 (.slice (some ⟨g2, 0, none⟩) 3 3)
    have a4 := a3.set 3 (.slice (some ⟨g3, 0, none⟩) 2 2)
    have a5 := a4.set 4 (.slice (some ⟨g4, 0, none⟩) 2 2)
    simpa using a5
  have bF : Below w.heap.size w (((((v4.setCell ⟨w.heap.size + 1, 0, none⟩ (.slice (some ⟨g0, 0, none⟩) L.length L.length)).setCell ⟨w.heap.size + 1, 1, none⟩ (.slice (some ⟨g1, 0, none⟩) (L.length * 3) (L.length * 3))).setCell ⟨w.heap.size + 1, 2, none⟩ (.slice (some ⟨g2, 0, none⟩) 3 3)).setCell ⟨w.heap.size + 1, 3, none⟩ (.slice (some ⟨g3, 0, none⟩) 2 2)).setCell ⟨w.heap.size + 1, 4, none⟩ (.slice (some ⟨g4, 0, none⟩) 2 2)) := ((((((BW.out.trans (hBv4.mono (by omega))).setCell (p := ⟨w.heap.size + 1, 0, none⟩) (show w.heap.size ≤ w.heap.size + 1 by omega) _).setCell (p := ⟨w.heap.size + 1, 1, none⟩) (show w.heap.size ≤ w.heap.size + 1 by omega) _).setCell (p := ⟨w.heap.size + 1, 2, none⟩) (show w.heap.size ≤ w.heap.size + 1 by omega) _).setCell (p := ⟨w.heap.size + 1, 3, none⟩) (show w.heap.size ≤ w.heap.size + 1 by omega) _).setCell (p := ⟨w.heap.size + 1, 4, none⟩) (show w.heap.size ≤ w.heap.size + 1 by omega) _)
  have nF : ∀ q, w.heap.size + 1 < q → (((((v4.setCell ⟨w.heap.size + 1, 0, none⟩ (.slice (some ⟨g0, 0, none⟩) L.length L.length)).setCell ⟨w.heap.size + 1, 1, none⟩ (.slice (some ⟨g1, 0, none⟩) (L.length * 3) (L.length * 3))).setCell ⟨w.heap.size + 1, 2, none⟩ (.slice (some ⟨g2, 0, none⟩) 3 3)).setCell ⟨w.heap.size + 1, 3, none⟩ (.slice (some ⟨g3, 0, none⟩) 2 2)).setCell ⟨w.heap.size + 1, 4, none⟩ (.slice (some ⟨g4, 0, none⟩) 2 2)).heap[q]? = v4.heap[q]? := fun q hq => (Below.heap_setCell _ _ _ q (by show q ≠ w.heap.size + 1; omega)).trans ((Below.heap_setCell _ _ _ q (by show q ≠ w.heap.size + 1; omega)).trans ((Below.heap_setCell _ _ _ q (by show q ≠ w.heap.size + 1; omega)).trans ((Below.heap_setCell _ _ _ q (by show q ≠ w.heap.size + 1; omega)).trans (Below.heap_setCell _ _ _ q (by show q ≠ w.heap.size + 1; omega)))))
  have zF : v4.heap.size ≤ (((((v4.setCell ⟨w.heap.size + 1, 0, none⟩ (.slice (some ⟨g0, 0, none⟩) L.length L.length)).setCell ⟨w.heap.size + 1, 1, none⟩ (.slice (some ⟨g1, 0, none⟩) (L.length * 3) (L.length * 3))).setCell ⟨w.heap.size + 1, 2, none⟩ (.slice (some ⟨g2, 0, none⟩) 3 3)).setCell ⟨w.heap.size + 1, 3, none⟩ (.slice (some ⟨g3, 0, none⟩) 2 2)).setCell ⟨w.heap.size + 1, 4, none⟩ (.slice (some ⟨g4, 0, none⟩) 2 2)).heap.size := by simp
  have HF := Lib.hid kF
  have BF := Lib.hid bF
  have NF := Lib.hid nF
  obtain ⟨F, hF⟩ : ∃ F, F = (((((v4.setCell ⟨w.heap.size + 1, 0, none⟩ (.slice (some ⟨g0, 0, none⟩) L.length L.length)).setCell ⟨w.heap.size + 1, 1, none⟩ (.slice (some ⟨g1, 0, none⟩) (L.length * 3) (L.length * 3))).setCell ⟨w.heap.size + 1, 2, none⟩ (.slice (some ⟨g2, 0, none⟩) 3 3)).setCell ⟨w.heap.size + 1, 3, none⟩ (.slice (some ⟨g3, 0, none⟩) 2 2)).setCell ⟨w.heap.size + 1, 4, none⟩ (.slice (some ⟨g4, 0, none⟩) 2 2)) := ⟨_, rfl⟩
  rw [← hF] at HF BF NF zF
  rw [← hF]
  clear kF bF nF hF
  have c0 := HF.out.cell 0
  have c1 := HF.out.cell 1
  have c2 := HF.out.cell 2
  have c3 := HF.out.cell 3
  have c4 := HF.out.cell 4
  simp only [List.getElem?_toArray, List.getElem?_cons_zero, List.getElem?_cons_succ] at c0 c1 c2 c3 c4
  have zk0 := hk0_1.size
  have zk1 := hk1_2.size
  have zk2 := hk2_3.size
  have zk3 := hk3_4.size
  have O0 := Lib.hid ((Ov0.out.below hk0_4 (by omega)).keep (lo' := w.heap.size) (hi' := F.heap.size) (by omega) (by omega) fun q h1 h2 => NF.out q (by omega))
  have O1 := Lib.hid ((Ov1.out.below hk1_4 (by omega)).keep (lo' := w.heap.size) (hi' := F.heap.size) (by omega) (by omega) fun q h1 h2 => NF.out q (by omega))
  have O2 := Lib.hid ((Ov2.out.below hk2_4 (by omega)).keep (lo' := w.heap.size) (hi' := F.heap.size) (by omega) (by omega) fun q h1 h2 => NF.out q (by omega))
  have O3 := Lib.hid ((Ov3.out.below hk3_4 (by omega)).keep (lo' := w.heap.size) (hi' := F.heap.size) (by omega) (by omega) fun q h1 h2 => NF.out q (by omega))
  have O4 := Lib.hid (Ov4.out.keep (lo' := w.heap.size) (hi' := F.heap.size) (by omega) (by omega) fun q h1 h2 => NF.out q (by omega))
  go_wp2
  refine bodyPost_ret (v := .agg #[.slice (some ⟨g0, 0, none⟩) L.length L.length, .slice (some ⟨g1, 0, none⟩) (L.length * 3) (L.length * 3), .slice (some ⟨g2, 0, none⟩) 3 3, .slice (some ⟨g3, 0, none⟩) 2 2, .slice (some ⟨g4, 0, none⟩) 2 2]) (by simp [results, Try.results103, c0, c1, c2, c3, c4, go_sem]) rfl ?_
  refine ⟨⟨some ⟨g0, 0, none⟩, some ⟨g1, 0, none⟩, some ⟨g2, 0, none⟩, some ⟨g3, 0, none⟩, some ⟨g4, 0, none⟩, L.length, (L.length * 3), 3, 2, 2⟩, ?_, BF.out, by omega, O0.out, O1.out, O2.out, O3.out, O4.out, fun _ _ e => by injection e with e; injection e with e; omega, fun _ _ e => by injection e with e; injection e with e; omega, fun _ _ e => by injection e with e; injection e with e; omega, fun _ _ e => by injection e with e; injection e with e; omega, fun _ _ e => by injection e with e; injection e with e; omega, fun _ _ e => by injection e with e; injection e with e; omega, fun _ _ e => by injection e with e; injection e with e; omega, fun _ _ e => by injection e with e; injection e with e; omega, fun _ _ e => by injection e with e; injection e with e; omega, fun _ _ e => by injection e with e; injection e with e; omega⟩
  simp only [staF, StaV, fldI_length]
end Go.Proofs.Ytnadihepgmbhaaa
