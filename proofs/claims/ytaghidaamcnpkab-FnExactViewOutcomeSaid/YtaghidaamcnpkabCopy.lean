/-
  Contracts of the laws' copies: toStmtS, toStmtSS, toProgram make new memory that holds the very lists that the argument holds.
-/
import Derived.Test.YtaghidaamcnpkabOpen
import Derived.Test.YtaghidaamcnpkabVs
import Derived.Laws.MakeOwn
import Derived.Lib.SmallJoins
import Derived.LoopTactic
import Derived.Outline
namespace Go.Proofs.Ytaghidaamcnpkab
open Go.RowKit Pl
set_option maxHeartbeats 400000

set_option maxRecDepth 100000 in
theorem needs_any (k : Int) (w : World) : Calls Try.prog 128 #[.int .i64 k] w fun e w' =>
    e = .returned (.tuple #[.agg #[.int .i64 (nA k), .int .i64 (nB k), .int .i64 (nC k), .bool (nS k), .bool (nW k)], .bool (nK k)]) ∧ Below w.heap.size w w' := by
  rcases kinds k with rfl | rfl | rfl | rfl | rfl | rfl | rfl | rfl | rfl | rfl | rfl | h
  rotate_right
  have hfin : nA k = 0 ∧ nB k = 0 ∧ nC k = 0 ∧ nS k = false ∧ nW k = false ∧ nK k = false := by
    have e : ∀ j : Int, 0 ≤ j → j ≤ 10 → k ≠ j := fun j _ _ => by omega
    have e0 := e 0 (by omega) (by omega); have e1 := e 1 (by omega) (by omega); have e2 := e 2 (by omega) (by omega); have e3 := e 3 (by omega) (by omega); have e4 := e 4 (by omega) (by omega); have e5 := e 5 (by omega) (by omega); have e6 := e 6 (by omega) (by omega); have e7 := e 7 (by omega) (by omega); have e8 := e 8 (by omega) (by omega); have e9 := e 9 (by omega) (by omega); have e10 := e 10 (by omega) (by omega)
    have e11 : inB k 0 10 = false := by simp [inB]; omega
    simp [nA, nB, nC, nS, nW, nK, *]
  obtain ⟨g0, g1, g2, g3, g4, g5⟩ := hfin
  rw [g0, g1, g2, g3, g4, g5]
  clear g0 g1 g2 g3 g4 g5
  all_goals
    go_enter Try.func128, Try.ntmps128
    go_wp2
  all_goals
    go_returns
    exact ⟨rfl, by go_grown⟩

theorem below_step {W V w1 : World} (h : Below W.heap.size W V) (hb : Below V.heap.size V w1) : Below W.heap.size W w1 := h.trans (hb.mono h.size)

theorem iok_core (k a b c : Int) (s : Bool) (w : World) : Calls Try.prog 129 #[St k a b c s] w fun e w' => e = .returned (.bool (nK k && !(s && !nS k) && (roleB (nA k) a && roleB (nB k) b && roleB (nC k) c))) ∧ Below w.heap.size w w' := by
  go_enter Try.func129, Try.ntmps129
  go_wp2_with (first | (go_at_call 147; refine (role_any _ _ _).mono ?_; rintro e w' ⟨rfl, rfl⟩) | (go_at_call 128; refine (needs_any _ _).mono ?_; rintro e w1 ⟨rfl, hb⟩; obtain ⟨hc, hf⟩ := bcell hb; have hz : w.heap.size < w1.heap.size := (by have := hb.size; simp at this; omega); have hB : Below w.heap.size w w1 := below_step ((Below.refl _ _).alloc (Nat.le_refl _) _) hb; clear hb))
  all_goals
    go_ret
    refine ⟨by simp [*], by go_grown⟩

/-- The program's StmtOk is the plain one. -/
theorem iok_any (k a b c : Int) (s : Bool) (w : World) : Calls Try.prog 129 #[St k a b c s] w fun e w' => e = .returned (.bool (okB k a b c s)) ∧ Below w.heap.size w w' := by
  rw [← ok_eq]; exact iok_core k a b c s w

end Go.Proofs.Ytaghidaamcnpkab
namespace Go.Proofs.Ytaghidaamcnpkab
open Go.RowKit Pl
set_option maxHeartbeats 400000

theorem numin_any (k a b c : Int) (s : Bool) (r : Int) (w : World) : Calls Try.prog 127 #[St k a b c s, .int .i64 r] w fun e w' => e = .returned (.int .i64 (numZ k a b c s r)) ∧ Below w.heap.size w w' := by
  go_enter Try.func127, Try.ntmps127
  go_wp2_with (first | (go_at_call 129; refine (iok_any _ _ _ _ _ _).mono ?_; rintro e w1 ⟨rfl, hb⟩; obtain ⟨hc, hf⟩ := bcell hb; have hz : w.heap.size < w1.heap.size := (by have := hb.size; simp at this; omega); have hB : Below w.heap.size w w1 := below_step ((Below.refl _ _).alloc (Nat.le_refl _) _) hb; clear hb) | (go_at_call 128; refine (needs_any _ _).mono ?_; rintro e w2 ⟨rfl, hb2⟩; obtain ⟨hc2, hf2⟩ := bcell hb2; have hz2 : w.heap.size < w2.heap.size := Nat.lt_of_lt_of_le hz hb2.size; have hB2 : Below w.heap.size w w2 := below_step hB hb2; clear hb2))
  all_goals (go_ret; refine ⟨?_, by go_grown⟩; simp only [Bool.not_eq_true', Bool.not_eq_false', beq_iff_eq, beq_eq_false_iff_ne] at *; simp [numZ, *])

theorem toStmt_any (k a b c : Int) (s : Bool) (w : World) : Calls Try.prog 115 #[St k a b c s] w fun e w' => e = .returned (St k a b c s) ∧ Below w.heap.size w w' := by
  go_enter Try.func115, Try.ntmps115
  go_wp2
  go_returns
  exact ⟨rfl, by go_grown⟩

theorem iplace_any (k a b c : Int) (s : Bool) (w : World) : Calls Try.prog 93 #[St k a b c s] w fun e w' => e = .returned (.int .i64 (placeZ k a b c s)) ∧ Below w.heap.size w w' := by
  rw [← place_eq]
  go_enter Try.func93, Try.ntmps93
  go_wp2_with (go_at_call 127; refine (numin_any _ _ _ _ _ _ _).mono ?_; rintro e w1 ⟨rfl, hb⟩; have hB : Below w.heap.size w w1 := below_step ((Below.refl _ _).alloc (Nat.le_refl _) _) hb; clear hb)
  go_ret
  exact ⟨rfl, hB⟩
theorem iwrites_any (k a b c : Int) (s : Bool) (w : World) : Calls Try.prog 95 #[St k a b c s] w fun e w' => e = .returned (.bool (writesB k a b c s)) ∧ Below w.heap.size w w' := by
  rw [← writes_eq]
  go_enter Try.func95, Try.ntmps95
  go_wp2_with (first | (go_at_call 128; refine (needs_any _ _).mono ?_; rintro e w1 ⟨rfl, hb⟩; obtain ⟨hc, hf⟩ := bcell hb; have hz : w.heap.size < w1.heap.size := (by have := hb.size; simp at this; omega); have hB : Below w.heap.size w w1 := below_step ((Below.refl _ _).alloc (Nat.le_refl _) _) hb; clear hb) | (go_at_call 129; refine (iok_any _ _ _ _ _ _).mono ?_; rintro e w2 ⟨rfl, hb2⟩; have hB2 : Below w.heap.size w w2 := below_step (by go_grown) hb2; clear hb2))
  all_goals (go_ret; refine ⟨?_, by go_grown⟩; simp [*])

set_option maxRecDepth 100000 in
set_option maxHeartbeats 4000000 in
theorem splace_any (k a b c : Int) (s : Bool) (w : World) : Calls Try.prog 85 #[St k a b c s] w fun e w' => e = .returned (.int .i64 (placeZ k a b c s)) ∧ Below w.heap.size w w' := by
  rcases kinds k with rfl | rfl | rfl | rfl | rfl | rfl | rfl | rfl | rfl | rfl | rfl | h
  rotate_right
  have hn : okB k a b c s = false := by
    rw [Bool.eq_false_iff]; intro e; have := ok_range e; omega
  clear h
  all_goals
    go_enter Try.func85, Try.ntmps85
    go_wp2_with (first | (go_at_call 47; refine (l1In_any _ _ _ _).mono ?_; rintro e w' ⟨rfl, rfl⟩) | (go_at_call 111; refine (sok_any _ _ _ _ _ _).mono ?_; rintro e w1 ⟨rfl, hb⟩; obtain ⟨hc, hf⟩ := bcell hb; have hz : w.heap.size < w1.heap.size := (by have := hb.size; simp at this; omega); have hB : Below w.heap.size w w1 := below_step ((Below.refl _ _).alloc (Nat.le_refl _) _) hb; clear hb))
  all_goals (go_ret; refine ⟨?_, by go_grown⟩; (try simp only [Bool.not_eq_true', Bool.not_eq_false'] at *); simp [placeZ, *])
end Go.Proofs.Ytaghidaamcnpkab
namespace Go.Proofs.Ytaghidaamcnpkab
open Go.RowKit Pl
set_option maxHeartbeats 400000
set_option linter.unusedVariables false

theorem Try.info107 : (Try.prog.info? 107).map (fun i => (i.zero, i.size, i.bytes)) = some (some (.agg #[.int .i64 0, .int .i64 0, .int .i64 0, .int .i64 0, .bool false]), 5, 40) := by kernel_rfl
theorem Try.info111 : (Try.prog.info? 111).map (fun i => (i.zero, i.size, i.bytes)) = some (some (.slice none 0 0), 1, 24) := by kernel_rfl

/-- 'make' of as many elements as there is room, whatever the elements. -/
theorem make_any {t e : TypeId} {i : TypeInfo} {z : Value} (ht : Try.prog.underlying t = some (.slice e)) (hi : Try.prog.info? e = some i) (hz : i.zero = some z) (n : Nat) (hb : i.bytes * n ≤ 281474976710656) (h63 : n ≤ 9223372036854775807) (w : World) :
    (Instr.makeSlice t (.int .i64 (n : Int)) (.int .i64 (n : Int))).run Try.prog w = .ok (.slice (some ⟨w.heap.size, 0, none⟩) n n) (w.alloc (.cells (madeCells z.cells (n * i.size)) e)) := by
  have hb' : (i.bytes : Int) * (n : Int) ≤ 281474976710656 := by
    have : ((i.bytes * n : Nat) : Int) ≤ 281474976710656 := by omega
    rwa [Int.natCast_mul] at this
  have hr := run_make (P := Try.prog) w t e i z ht hi hz .i64 .i64 (n : Int) (n : Int) (by omega) (by omega) hb' (by omega)
  simpa only [Int.toNat_natCast] using hr

theorem toStmtS_any (A : Option Addr) (xs : List Sm) (c : Nat) (w : World) (B : Nat) (h : Row w B A xs) (hB : B ≤ w.heap.size) (hm : xs.length ≤ 1048576) :
    Calls Try.prog 69 #[.slice A xs.length c] w fun e w' => e = .returned (.slice (some ⟨w.heap.size, 0, none⟩) xs.length xs.length) ∧ CopyS w w' xs xs.length := by
  obtain ⟨i0, hi, hz0, hz1, hz2⟩ := info_parts Try.info107
  have hmk := make_any Try.underlying111 hi hz0 xs.length (by rw [hz2]; omega) (by omega)
  rw [hz1] at hmk
  have start := Lib.hid (show CopyS w (w.alloc (.cells (madeCells #[.int .i64 0, .int .i64 0, .int .i64 0, .int .i64 0, .bool false] (xs.length * 5)) 107)) xs 0 from
    ⟨(Below.refl _ _).alloc (Nat.le_refl _) _, _, Bk.new _ _ _, by simp [size_madeCells], fun j x hj => absurd hj (by omega)⟩)
  clear hz0 hz1 hz2 hi
  go_enter Try.func69, Try.ntmps69
  go_wp2
  go_loopw [4] (fun i wr => ∃ k : Nat, k ≤ xs.length ∧ i = .int .i64 k ∧ CopyS w wr xs k) (fun i _ => xs.length - (intOf i).toNat)
  case atStart => exact ⟨0, Nat.zero_le _, rfl, start.out⟩
  case round =>
    obtain ⟨k, hk, rfl, hcp⟩ := hrel
    clear start hmk
    by_cases hlt : k < xs.length
    · obtain ⟨hbel, cs, hbk, hsz, -⟩ := id hcp
      obtain ⟨b, off, x, rfl, hb, hx, -, hx0, hx1, hx2, hx3, hx4⟩ := (h.below hbel hB).at_ hlt
      have Hx := Lib.hid hx
      have hg := hbk.lt
      have hz := hbel.size
      have hbw : b < wr.heap.size := by omega
      obtain ⟨v0, e0⟩ := hbk.some_ (i := k * 5) (by omega)
      obtain ⟨v1, e1⟩ := hbk.some_ (i := k * 5 + 1) (by omega)
      obtain ⟨v2, e2⟩ := hbk.some_ (i := k * 5 + 2) (by omega)
      obtain ⟨v3, e3⟩ := hbk.some_ (i := k * 5 + 3) (by omega)
      obtain ⟨v4, e4⟩ := hbk.some_ (i := k * 5 + 4) (by omega)
      have q0 := hbk.free (k * 5)
      have q1 := hbk.free (k * 5 + 1)
      have q2 := hbk.free (k * 5 + 2)
      have q3 := hbk.free (k * 5 + 3)
      have q4 := hbk.free (k * 5 + 4)
      clear hbk hsz h hx hbel
      have Hcp := Lib.hid hcp
      clear hcp
      go_wp2_with (go_at_call 115; refine (toStmt_any _ _ _ _ _ _).mono ?_; rintro e w1 ⟨rfl, hb1⟩; obtain ⟨hc1, hf1⟩ := bcell hb1)
      go_roundw
      case rel => exact ⟨k + 1, by omega, by go_num, Hcp.out.next hb1 Hx.out⟩
      case measure => simp [intOf]; omega
    · have : k = xs.length := by omega
      subst this
      go_wp2
      go_ret
      exact ⟨rfl, hcp⟩
theorem toStmtSS_any (A : Option Addr) (L : List (List Sm)) (c : Nat) (w : World) (B : Nat) (h : Rows2 w B A L) (hB : B ≤ w.heap.size) (hm : L.length ≤ 1048576) (hm2 : Hid (∀ xs ∈ L, xs.length ≤ 1048576)) :
    Calls Try.prog 33 #[.slice A L.length c] w fun e w' => e = .returned (.slice (some ⟨w.heap.size, 0, none⟩) L.length L.length) ∧ CopySS w w' L L.length := by
  obtain ⟨i0, hi, hz0, hz1, hz2⟩ := info_parts Try.info111
  have hmk := make_any Try.underlying30 hi hz0 L.length (by rw [hz2]; omega) (by omega)
  rw [hz1, Nat.mul_one] at hmk
  have start := Lib.hid (show CopySS w (w.alloc (.cells (madeCells #[.slice none 0 0] L.length) 111)) L 0 from
    ⟨(Below.refl _ _).alloc (Nat.le_refl _) _, _, fun _ => 0, Bk.new _ _ _, by simp [size_madeCells], fun j x hj => absurd hj (by omega), fun i j _ hj => absurd hj (by omega)⟩)
  clear hz0 hz1 hz2 hi
  go_enter Try.func33, Try.ntmps33
  go_wp2
  go_loopw [4] (fun i wr => ∃ k : Nat, k ≤ L.length ∧ i = .int .i64 k ∧ CopySS w wr L k) (fun i _ => L.length - (intOf i).toNat)
  case atStart => exact ⟨0, Nat.zero_le _, rfl, start.out⟩
  case round =>
    obtain ⟨k, hk, rfl, hcp⟩ := hrel
    clear start hmk
    by_cases hlt : k < L.length
    · obtain ⟨hbel, cs, D, hbk, hsz, -, -⟩ := id hcp
      obtain ⟨b, off, xs, Ai, ci, rfl, hb, hx, -, hx0, -, -, hr⟩ := (h.below hbel hB).at_ hlt
      have Hx := Lib.hid hx
      have hg := hbk.lt
      have hz := hbel.size
      have hbw : b < wr.heap.size := by omega
      obtain ⟨v0, e0⟩ := hbk.some_ (i := k) (by omega)
      have q0 := hbk.free k
      have hl : xs.length ≤ 1048576 := hm2.out xs (List.mem_of_getElem? hx)
      clear hbk hsz h hx hbel
      have Hcp := Lib.hid hcp
      clear hcp
      go_wp2_with (go_at_call 69; refine (toStmtS_any _ _ _ _ B hr (by omega) hl).mono ?_; rintro e w1 ⟨rfl, hb1⟩; obtain ⟨hc1, hf1⟩ := bcell hb1.1; have hz1 := Nat.lt_of_lt_of_le hg hb1.1.size)
      go_roundw
      case rel => exact ⟨k + 1, by omega, by go_num, Hcp.out.next hb1 Hx.out⟩
      case measure => simp [intOf]; omega
    · have : k = L.length := by omega
      subst this
      go_wp2
      go_ret
      exact ⟨rfl, hcp⟩

/-- What a copy of a program comes to: a program of the call's own that holds the same threads. -/
def Copied (w : World) (L : List (List Sm)) (e : Ending) (w' : World) : Prop :=
  ∃ A c, e = .returned (.agg #[.slice A L.length c]) ∧ Below w.heap.size w w' ∧ OwnRows2 w' w.heap.size w'.heap.size A L

theorem toP_any (A : Option Addr) (L : List (List Sm)) (c : Nat) (w : World) (B : Nat) (h : Rows2 w B A L) (hB : B ≤ w.heap.size) (hm : L.length ≤ 1048576) (hm2 : Hid (∀ xs ∈ L, xs.length ≤ 1048576)) :
    Calls Try.prog 8 #[.agg #[.slice A L.length c]] w (Copied w L) := by
  obtain ⟨W, hW⟩ : ∃ W, W = ((w.alloc (.cells #[.slice A L.length c] 24)).alloc (.cells #[.slice none 0 0] 32)).alloc (.cells #[.slice none 0 0] 32) := ⟨_, rfl⟩
  have hbW : Below w.heap.size w W := by rw [hW]; go_grown
  have hsW : W.heap.size = w.heap.size + 1 + 1 + 1 := by rw [hW]; simp
  have k1 : Bk W (w.heap.size + 1) 32 #[.slice none 0 0] := by
    rw [hW]; have := (Bk.new (w.alloc (.cells #[.slice A L.length c] 24)) #[.slice none 0 0] 32).alloc (.cells #[.slice none 0 0] 32)
    rwa [World.size_alloc] at this
  have k2 : Bk W (w.heap.size + 1 + 1) 32 #[.slice none 0 0] := by
    rw [hW]; have := Bk.new ((w.alloc (.cells #[.slice A L.length c] 24)).alloc (.cells #[.slice none 0 0] 32)) #[.slice none 0 0] 32
    rwa [World.size_alloc, World.size_alloc] at this
  have K1 := Lib.hid k1
  have K2 := Lib.hid k2
  have HbW := Lib.hid hbW
  have HsW := Lib.hid hsW
  have hR := Lib.hid (h.below hbW hB)
  have hBW : Hid (B ≤ W.heap.size) := Lib.hid (by have := hbW.size; omega)
  have HW := Lib.hid hW
  clear hW hbW hsW k1 k2 h
  go_enter Try.func8, Try.ntmps8
  go_wp2_with fail
  rw [← HW.out]
  refine (toStmtSS_any A L c W B hR.out hBW.out hm hm2).mono ?_
  rintro e w1 ⟨rfl, hcp⟩
  have hown := hcp.done (fun xs hx => by have := hm2.out xs hx; unfold maxLen; omega)
  have hb1 := hcp.1
  have b1 := K1.out.below hb1 K1.out.lt
  have b2 := K2.out.below hb1 K2.out.lt
  have c1 : w1.cell? ⟨w.heap.size + 1, 0, none⟩ = some (.slice none 0 0) := b1.cell 0
  have c2 : w1.cell? ⟨w.heap.size + 1 + 1, 0, none⟩ = some (.slice none 0 0) := b2.cell 0
  have f1 := b1.free 0
  have f2 := b2.free 0
  have hres : ((w1.setCell ⟨w.heap.size + 1 + 1, 0, none⟩ (.slice (some ⟨W.heap.size, 0, none⟩) L.length L.length)).setCell ⟨w.heap.size + 1, 0, none⟩ (.slice (some ⟨W.heap.size, 0, none⟩) L.length L.length)).cell? ⟨w.heap.size + 1, 0, none⟩ = some (.slice (some ⟨W.heap.size, 0, none⟩) L.length L.length) :=
    ((b1.far (by show w.heap.size + 1 ≠ w.heap.size + 1 + 1; omega) _).set 0 _).cell 0
  have HB := Lib.hid (below_on HbW.out hb1)
  have Hown := Lib.hid hown
  have hlt := K2.out.lt
  have Hlt := Lib.hid hlt
  clear hcp hown hb1 b1 b2 hlt
  go_wp2
  refine bodyPost_ret (v := .agg #[.slice (some ⟨W.heap.size, 0, none⟩) L.length L.length]) (by simp [results, Try.results8, hres, go_sem]) rfl ?_
  refine ⟨_, _, rfl, (HB.out.setCell (by show _ ≤ w.heap.size + 1 + 1; omega) _).setCell (by show _ ≤ w.heap.size + 1; omega) _, ?_⟩
  refine Hown.out.keep (by rw [HsW.out]; omega) (by simp only [World.size_setCell]; exact Nat.le_refl _) fun i hi _ => ?_
  rw [HsW.out] at hi
  exact (Below.heap_setCell _ _ _ i (by show i ≠ w.heap.size + 1; omega)).trans (Below.heap_setCell _ _ _ i (by show i ≠ w.heap.size + 1 + 1; omega))

end Go.Proofs.Ytaghidaamcnpkab
