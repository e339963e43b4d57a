/-
  Contracts of the laws' copies: toStmtS, toStmtSS, toProgram make new memory that holds the very lists that the argument holds.
-/
import Derived.Test.YtaghidaamcnpkaaOwn
import Derived.Test.YtaghidaamcnpkaaReads
import Derived.Laws.MakeOwn
import Derived.Lib.SmallJoins
import Derived.LoopTactic
import Derived.Outline
namespace Go.Proofs.Ytaghidaamcnpkaa
open Go.RowKit Pl
set_option maxHeartbeats 400000
set_option linter.unusedVariables false

theorem Try.info46 : (Try.prog.info? 46).map (fun i => (i.zero, i.size, i.bytes)) = some (some (.agg #[.int .i64 0, .int .i64 0, .int .i64 0, .int .i64 0, .bool false]), 5, 40) := by kernel_rfl
theorem Try.info44 : (Try.prog.info? 44).map (fun i => (i.zero, i.size, i.bytes)) = some (some (.slice none 0 0), 1, 24) := by kernel_rfl

/-- 'make' of as many elements as there is room, whatever the elements. -/
theorem make_any {t e : TypeId} {i : TypeInfo} {z : Value} (ht : Try.prog.underlying t = some (.slice e)) (hi : Try.prog.info? e = some i) (hz : i.zero = some z) (n : Nat) (hb : i.bytes * n ≤ 281474976710656) (h63 : n ≤ 9223372036854775807) (w : World) :
    (Instr.makeSlice t (.int .i64 (n : Int)) (.int .i64 (n : Int))).run Try.prog w = .ok (.slice (some ⟨w.heap.size, 0, none⟩) n n) (w.alloc (.cells (madeCells z.cells (n * i.size)) e)) := by
  have hb' : (i.bytes : Int) * (n : Int) ≤ 281474976710656 := by
    have : ((i.bytes * n : Nat) : Int) ≤ 281474976710656 := by omega
    rwa [Int.natCast_mul] at this
  have hr := run_make (P := Try.prog) w t e i z ht hi hz .i64 .i64 (n : Int) (n : Int) (by omega) (by omega) hb' (by omega)
  simpa only [Int.toNat_natCast] using hr

theorem toStmtS_any (A : Option Addr) (xs : List Sm) (c : Nat) (w : World) (B : Nat) (h : Row w B A xs) (hB : B ≤ w.heap.size) (hm : xs.length ≤ 1048576) :
    Calls Try.prog 41 #[.slice A xs.length c] w fun e w' => e = .returned (.slice (some ⟨w.heap.size, 0, none⟩) xs.length xs.length) ∧ CopyS w w' xs xs.length := by
  obtain ⟨i0, hi, hz0, hz1, hz2⟩ := info_parts Try.info46
  have hmk := make_any Try.underlying44 hi hz0 xs.length (by rw [hz2]; omega) (by omega)
  rw [hz1] at hmk
  have start := Lib.hid (show CopyS w (w.alloc (.cells (madeCells #[.int .i64 0, .int .i64 0, .int .i64 0, .int .i64 0, .bool false] (xs.length * 5)) 46)) xs 0 from
    ⟨(Below.refl _ _).alloc (Nat.le_refl _) _, _, Bk.new _ _ _, by simp [size_madeCells], fun j x hj => absurd hj (by omega)⟩)
  clear hz0 hz1 hz2 hi
  go_enter Try.func41, Try.ntmps41
  go_wp2
  go_loopw [4] (fun i wr => ∃ k : Nat, k ≤ xs.length ∧ i = .int .i64 k ∧ CopyS w wr xs k) (fun i _ => xs.length - (intOf i).toNat)
  case atStart => exact ⟨0, Nat.zero_le _, rfl, start.out⟩
  case round =>
    obtain ⟨k, hk, rfl, hcp⟩ := hrel
    clear start hmk
    by_cases hlt : k < xs.length
    · obtain ⟨hbel, cs, hbk, hsz, -⟩ := id hcp
      obtain ⟨b, off, x, rfl, hb, hx, -, hx0, hx1, hx2, hx3, hx4⟩ := (h.below hbel hB).at_ hlt
      have Hx := Lib.hid hx
      have hg := hbk.lt
      have hz := hbel.size
      have hbw : b < wr.heap.size := by omega
      obtain ⟨v0, e0⟩ := hbk.some_ (i := k * 5) (by omega)
      obtain ⟨v1, e1⟩ := hbk.some_ (i := k * 5 + 1) (by omega)
      obtain ⟨v2, e2⟩ := hbk.some_ (i := k * 5 + 2) (by omega)
      obtain ⟨v3, e3⟩ := hbk.some_ (i := k * 5 + 3) (by omega)
      obtain ⟨v4, e4⟩ := hbk.some_ (i := k * 5 + 4) (by omega)
      have q0 := hbk.free (k * 5)
      have q1 := hbk.free (k * 5 + 1)
      have q2 := hbk.free (k * 5 + 2)
      have q3 := hbk.free (k * 5 + 3)
      have q4 := hbk.free (k * 5 + 4)
      clear hbk hsz h hx hbel
      have Hcp := Lib.hid hcp
      clear hcp
      go_wp2_with (go_at_call 60; refine (toStmt_any _ _ _ _ _ _).mono ?_; rintro e w1 ⟨rfl, hb1⟩; obtain ⟨hc1, hf1⟩ := bcell hb1)
      go_roundw
      case rel => exact ⟨k + 1, by omega, by go_num, Hcp.out.next hb1 Hx.out⟩
      case measure => simp [intOf]; omega
    · have : k = xs.length := by omega
      subst this
      go_wp2
      go_ret
      exact ⟨rfl, hcp⟩
theorem toStmtSS_any (A : Option Addr) (L : List (List Sm)) (c : Nat) (w : World) (B : Nat) (h : Rows2 w B A L) (hB : B ≤ w.heap.size) (hm : L.length ≤ 1048576) (hm2 : Hid (∀ xs ∈ L, xs.length ≤ 1048576)) :
    Calls Try.prog 21 #[.slice A L.length c] w fun e w' => e = .returned (.slice (some ⟨w.heap.size, 0, none⟩) L.length L.length) ∧ CopySS w w' L L.length := by
  obtain ⟨i0, hi, hz0, hz1, hz2⟩ := info_parts Try.info44
  have hmk := make_any Try.underlying27 hi hz0 L.length (by rw [hz2]; omega) (by omega)
  rw [hz1, Nat.mul_one] at hmk
  have start := Lib.hid (show CopySS w (w.alloc (.cells (madeCells #[.slice none 0 0] L.length) 44)) L 0 from
    ⟨(Below.refl _ _).alloc (Nat.le_refl _) _, _, fun _ => 0, Bk.new _ _ _, by simp [size_madeCells], fun j x hj => absurd hj (by omega), fun i j _ hj => absurd hj (by omega)⟩)
  clear hz0 hz1 hz2 hi
  go_enter Try.func21, Try.ntmps21
  go_wp2
  go_loopw [4] (fun i wr => ∃ k : Nat, k ≤ L.length ∧ i = .int .i64 k ∧ CopySS w wr L k) (fun i _ => L.length - (intOf i).toNat)
  case atStart => exact ⟨0, Nat.zero_le _, rfl, start.out⟩
  case round =>
    obtain ⟨k, hk, rfl, hcp⟩ := hrel
    clear start hmk
    by_cases hlt : k < L.length
    · obtain ⟨hbel, cs, D, hbk, hsz, -, -⟩ := id hcp
      obtain ⟨b, off, xs, Ai, ci, rfl, hb, hx, -, hx0, -, -, hr⟩ := (h.below hbel hB).at_ hlt
      have Hx := Lib.hid hx
      have hg := hbk.lt
      have hz := hbel.size
      have hbw : b < wr.heap.size := by omega
      obtain ⟨v0, e0⟩ := hbk.some_ (i := k) (by omega)
      have q0 := hbk.free k
      have hl : xs.length ≤ 1048576 := hm2.out xs (List.mem_of_getElem? hx)
      clear hbk hsz h hx hbel
      have Hcp := Lib.hid hcp
      clear hcp
      go_wp2_with (go_at_call 41; refine (toStmtS_any _ _ _ _ B hr (by omega) hl).mono ?_; rintro e w1 ⟨rfl, hb1⟩; obtain ⟨hc1, hf1⟩ := bcell hb1.1; have hz1 := Nat.lt_of_lt_of_le hg hb1.1.size)
      go_roundw
      case rel => exact ⟨k + 1, by omega, by go_num, Hcp.out.next hb1 Hx.out⟩
      case measure => simp [intOf]; omega
    · have : k = L.length := by omega
      subst this
      go_wp2
      go_ret
      exact ⟨rfl, hcp⟩

/-- What a copy of a program comes to: a program of the call's own that holds the same threads. -/
def Copied (w : World) (L : List (List Sm)) (e : Ending) (w' : World) : Prop :=
  ∃ A c, e = .returned (.agg #[.slice A L.length c]) ∧ Below w.heap.size w w' ∧ OwnRows2 w' w.heap.size w'.heap.size A L

theorem toP_any (A : Option Addr) (L : List (List Sm)) (c : Nat) (w : World) (B : Nat) (h : Rows2 w B A L) (hB : B ≤ w.heap.size) (hm : L.length ≤ 1048576) (hm2 : Hid (∀ xs ∈ L, xs.length ≤ 1048576)) :
    Calls Try.prog 8 #[.agg #[.slice A L.length c]] w (Copied w L) := by
  obtain ⟨W, hW⟩ : ∃ W, W = ((w.alloc (.cells #[.slice A L.length c] 24)).alloc (.cells #[.slice none 0 0] 29)).alloc (.cells #[.slice none 0 0] 29) := ⟨_, rfl⟩
  have hbW : Below w.heap.size w W := by rw [hW]; go_grown
  have hsW : W.heap.size = w.heap.size + 1 + 1 + 1 := by rw [hW]; simp
  have k1 : Bk W (w.heap.size + 1) 29 #[.slice none 0 0] := by
    rw [hW]; have := (Bk.new (w.alloc (.cells #[.slice A L.length c] 24)) #[.slice none 0 0] 29).alloc (.cells #[.slice none 0 0] 29)
    rwa [World.size_alloc] at this
  have k2 : Bk W (w.heap.size + 1 + 1) 29 #[.slice none 0 0] := by
    rw [hW]; have := Bk.new ((w.alloc (.cells #[.slice A L.length c] 24)).alloc (.cells #[.slice none 0 0] 29)) #[.slice none 0 0] 29
    rwa [World.size_alloc, World.size_alloc] at this
  have K1 := Lib.hid k1
  have K2 := Lib.hid k2
  have HbW := Lib.hid hbW
  have HsW := Lib.hid hsW
  have hR := Lib.hid (h.below hbW hB)
  have hBW : Hid (B ≤ W.heap.size) := Lib.hid (by have := hbW.size; omega)
  have HW := Lib.hid hW
  clear hW hbW hsW k1 k2 h
  go_enter Try.func8, Try.ntmps8
  go_wp2_with fail
  rw [← HW.out]
  refine (toStmtSS_any A L c W B hR.out hBW.out hm hm2).mono ?_
  rintro e w1 ⟨rfl, hcp⟩
  have hown := hcp.done (fun xs hx => by have := hm2.out xs hx; unfold maxLen; omega)
  have hb1 := hcp.1
  have b1 := K1.out.below hb1 K1.out.lt
  have b2 := K2.out.below hb1 K2.out.lt
  have c1 : w1.cell? ⟨w.heap.size + 1, 0, none⟩ = some (.slice none 0 0) := b1.cell 0
  have c2 : w1.cell? ⟨w.heap.size + 1 + 1, 0, none⟩ = some (.slice none 0 0) := b2.cell 0
  have f1 := b1.free 0
  have f2 := b2.free 0
  have hres : ((w1.setCell ⟨w.heap.size + 1 + 1, 0, none⟩ (.slice (some ⟨W.heap.size, 0, none⟩) L.length L.length)).setCell ⟨w.heap.size + 1, 0, none⟩ (.slice (some ⟨W.heap.size, 0, none⟩) L.length L.length)).cell? ⟨w.heap.size + 1, 0, none⟩ = some (.slice (some ⟨W.heap.size, 0, none⟩) L.length L.length) :=
    ((b1.far (by show w.heap.size + 1 ≠ w.heap.size + 1 + 1; omega) _).set 0 _).cell 0
  have HB := Lib.hid (below_on HbW.out hb1)
  have Hown := Lib.hid hown
  have hlt := K2.out.lt
  have Hlt := Lib.hid hlt
  clear hcp hown hb1 b1 b2 hlt
  go_wp2
  refine bodyPost_ret (v := .agg #[.slice (some ⟨W.heap.size, 0, none⟩) L.length L.length]) (by simp [results, Try.results8, hres, go_sem]) rfl ?_
  refine ⟨_, _, rfl, (HB.out.setCell (by show _ ≤ w.heap.size + 1 + 1; omega) _).setCell (by show _ ≤ w.heap.size + 1; omega) _, ?_⟩
  refine Hown.out.keep (by rw [HsW.out]; omega) (by simp only [World.size_setCell]; exact Nat.le_refl _) fun i hi _ => ?_
  rw [HsW.out] at hi
  exact (Below.heap_setCell _ _ _ i (by show i ≠ w.heap.size + 1; omega)).trans (Below.heap_setCell _ _ _ i (by show i ≠ w.heap.size + 1 + 1; omega))

end Go.Proofs.Ytaghidaamcnpkaa
