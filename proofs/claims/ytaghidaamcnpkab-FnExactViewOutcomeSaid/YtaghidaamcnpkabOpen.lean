/-
  How a statement that came in reads: five cells, four of them int64 numbers and one a bool, whatever holds them.
-/
import Derived.KernelRfl
import Derived.Test.YtaghidaamcnpkabRows
import Derived.WalkKit
import Derived.ProofKit
import Derived.OpenShut
import Derived.Below
import Derived.Handy
import Derived.Lib.Hide
import Derived.WalkSpells
import Derived.Deep.Slices
import Derived.Deep.Fields
import Derived.ChangeSame
import Derived.ShutString
import Derived.ChangeOld
namespace Go.Proofs.Ytaghidaamcnpkab.Pl

def inB (n lo hi : Int) : Bool := decide (lo ≤ n) && decide (n ≤ hi)
def valB (r n : Int) : Bool := inB r (-1) 2 && inB n 0 3
def okB (k a b c : Int) (s : Bool) : Bool :=
  if s && k != 1 && k != 2 then false
  else if k = 0 then inB a 0 2 && valB b c
  else if k = 1 then inB a 0 2 && inB b 0 2 && c == 0
  else if k = 2 then inB a 0 2 && valB b c
  else if k = 3 ∨ k = 4 then inB a 0 2 && inB b 0 2 && inB c 0 3
  else if k = 5 then a == 0 && b == 0 && c == 0
  else if k = 6 ∨ k = 7 then inB a 0 1 && b == 0 && c == 0
  else if k = 8 then inB a 0 1 && valB b c
  else if k = 9 then inB a 0 2 && inB b 0 1 && c == 0
  else k == 10 && inB a 0 2 && inB b 1 6 && c == 0

theorem kinds (k : Int) : k = 0 ∨ k = 1 ∨ k = 2 ∨ k = 3 ∨ k = 4 ∨ k = 5 ∨ k = 6 ∨ k = 7 ∨ k = 8 ∨ k = 9 ∨ k = 10 ∨ (k < 0 ∨ 10 < k) := by omega

/-- The program's own table of what a kind needs. -/
def nK (k : Int) : Bool := inB k 0 10
def nA (k : Int) : Int := if k = 0 then 1 else if k = 1 then 1 else if k = 2 then 4 else if k = 3 then 1 else if k = 4 then 1 else if k = 5 then 0 else if k = 6 then 5 else if k = 7 then 5 else if k = 8 then 6 else if k = 9 then 1 else if k = 10 then 2 else 0
def nB (k : Int) : Int := if k = 0 then 3 else if k = 1 then 4 else if k = 2 then 3 else if k = 3 then 4 else if k = 4 then 4 else if k = 5 then 0 else if k = 6 then 0 else if k = 7 then 0 else if k = 8 then 3 else if k = 9 then 6 else if k = 10 then 8 else 0
def nC (k : Int) : Int := if k = 0 then 7 else if k = 1 then 0 else if k = 2 then 7 else if k = 3 then 7 else if k = 4 then 7 else if k = 5 then 0 else if k = 6 then 0 else if k = 7 then 0 else if k = 8 then 7 else 0
def nS (k : Int) : Bool := k == 1 || k == 2
def nW (k : Int) : Bool := k == 2 || k == 3 || k == 4
def roleB (r n : Int) : Bool :=
  if r = 1 ∨ r = 2 then inB n 0 2 else if r = 3 then inB n (-1) 2 else if r = 4 then inB n 0 2 else if r = 5 then inB n 0 1 else if r = 6 then inB n 0 1 else if r = 7 then inB n 0 3 else if r = 8 then inB n 1 6 else n == 0
theorem ok_eq (k a b c : Int) (s : Bool) : (nK k && !(s && !nS k) && (roleB (nA k) a && roleB (nB k) b && roleB (nC k) c)) = okB k a b c s := by
  rcases kinds k with rfl | rfl | rfl | rfl | rfl | rfl | rfl | rfl | rfl | rfl | rfl | h
  rotate_right
  have h1 : inB k 0 10 = false := by simp [inB]; omega
  have h2 : okB k a b c s = false := by
    unfold okB
    have e : ∀ j : Int, 0 ≤ j → j ≤ 10 → k ≠ j := fun j _ _ => by omega
    have e0 := e 0 (by omega) (by omega); have e1 := e 1 (by omega) (by omega); have e2 := e 2 (by omega) (by omega); have e3 := e 3 (by omega) (by omega); have e4 := e 4 (by omega) (by omega); have e5 := e 5 (by omega) (by omega); have e6 := e 6 (by omega) (by omega); have e7 := e 7 (by omega) (by omega); have e8 := e 8 (by omega) (by omega); have e9 := e 9 (by omega) (by omega); have e10 := e 10 (by omega) (by omega)
    simp [*]
  simp [nK, h1, h2]
  all_goals (cases s <;> simp [okB, nK, nA, nB, nC, nS, roleB, valB, inB, Bool.and_assoc])

def readsZ (k a b c : Int) (s : Bool) : Int := if okB k a b c s then (if k = 0 ∨ k = 2 ∨ k = 8 then b else if k = 10 then a else -1) else -1
def setsZ (k a b c : Int) (s : Bool) : Int := if okB k a b c s && (k == 0 || k == 1 || k == 3 || k == 4 || k == 9) then a else -1
def placeZ (k a b c : Int) (s : Bool) : Int := if okB k a b c s then (if k = 2 then a else if k = 1 ∨ k = 3 ∨ k = 4 then b else -1) else -1
def writesB (k a b c : Int) (s : Bool) : Bool := okB k a b c s && inB k 2 4
/-- The program's own way: the number of a role. -/
def numZ (k a b c : Int) (s : Bool) (r : Int) : Int := if okB k a b c s then (if nA k = r then a else if nB k = r then b else -1) else -1
theorem ok_range {k a b c : Int} {s : Bool} (h : okB k a b c s = true) : 0 ≤ k ∧ k ≤ 10 := by
  rw [← ok_eq] at h
  simp [nK, inB] at h
  exact ⟨h.1.1.1, h.1.1.2⟩
theorem reads_eq (k a b c : Int) (s : Bool) : (if k = 10 then numZ k a b c s 2 else numZ k a b c s 3) = readsZ k a b c s := by
  unfold numZ readsZ
  by_cases h : okB k a b c s = true
  · have hr := ok_range h
    rcases kinds k with rfl | rfl | rfl | rfl | rfl | rfl | rfl | rfl | rfl | rfl | rfl | hk
    all_goals first | (simp [nA, nB, h]; done) | omega
  · simp [h]
theorem sets_eq (k a b c : Int) (s : Bool) : numZ k a b c s 1 = setsZ k a b c s := by
  unfold numZ setsZ
  by_cases h : okB k a b c s = true
  · have hr := ok_range h
    rcases kinds k with rfl | rfl | rfl | rfl | rfl | rfl | rfl | rfl | rfl | rfl | rfl | hk
    all_goals first | (simp [nA, nB, h]; done) | omega
  · simp [h]
theorem place_eq (k a b c : Int) (s : Bool) : numZ k a b c s 4 = placeZ k a b c s := by
  unfold numZ placeZ
  by_cases h : okB k a b c s = true
  · have hr := ok_range h
    rcases kinds k with rfl | rfl | rfl | rfl | rfl | rfl | rfl | rfl | rfl | rfl | rfl | hk
    all_goals first | (simp [nA, nB, h]; done) | omega
  · simp [h]
theorem writes_eq (k a b c : Int) (s : Bool) : (nW k && okB k a b c s) = writesB k a b c s := by
  unfold writesB
  by_cases h : okB k a b c s = true
  · have hr := ok_range h
    rcases kinds k with rfl | rfl | rfl | rfl | rfl | rfl | rfl | rfl | rfl | rfl | rfl | hk
    all_goals first | (simp [nW, inB, h]; done) | omega
  · simp [h]
theorem writes_place {k a b c : Int} {s : Bool} (h : writesB k a b c s = true) : 0 ≤ placeZ k a b c s := by
  unfold writesB at h
  simp only [Bool.and_eq_true] at h
  obtain ⟨h, hw⟩ := h
  have hr := ok_range h
  have h0 := h
  unfold placeZ
  rw [if_pos h]
  simp [inB] at hw
  rcases kinds k with rfl | rfl | rfl | rfl | rfl | rfl | rfl | rfl | rfl | rfl | rfl | hk
  all_goals first | omega | (cases s <;> simp [okB, inB, valB] at h ⊢ <;> omega)
def conB (k a b c : Int) (s : Bool) (k' a' b' c' : Int) (s' : Bool) : Bool :=
  decide (0 ≤ placeZ k a b c s) && placeZ k a b c s == placeZ k' a' b' c' s' && (writesB k a b c s || writesB k' a' b' c' s')
theorem con_eq (k a b c : Int) (s : Bool) (k' a' b' c' : Int) (s' : Bool) :
    (placeZ k a b c s == placeZ k' a' b' c' s' && (writesB k a b c s || writesB k' a' b' c' s')) = conB k a b c s k' a' b' c' s' := by
  unfold conB
  by_cases h : placeZ k a b c s = placeZ k' a' b' c' s'
  · by_cases h1 : writesB k a b c s = true
    · have h3 := writes_place h1
      rw [h1, decide_eq_true h3, h]; simp
    · by_cases h2 : writesB k' a' b' c' s' = true
      · have h3 := writes_place h2
        rw [← h] at h3
        rw [h2, decide_eq_true h3, h]; simp
      · rw [Bool.not_eq_true] at h1 h2
        rw [h1, h2]; simp
  · rw [beq_eq_false_iff_ne.2 h]; simp

end Go.Proofs.Ytaghidaamcnpkab.Pl
namespace Go.Proofs.Ytaghidaamcnpkab
open Go.RowKit Pl
set_option maxHeartbeats 400000

theorem bcell {W w1 : World} (hb : Below W.heap.size W w1) : (∀ b o, b < W.heap.size → w1.cell? ⟨b, o, none⟩ = W.cell? ⟨b, o, none⟩) ∧ (∀ b o, b < W.heap.size → w1.frozen? ⟨b, o, none⟩ = W.frozen? ⟨b, o, none⟩) :=
  ⟨fun b o h => hb.cell (p := ⟨b, o, none⟩) h, fun b o h => hb.frozen (p := ⟨b, o, none⟩) h⟩

abbrev St (k a b c : Int) (s : Bool) : Value := .agg #[.int .i64 k, .int .i64 a, .int .i64 b, .int .i64 c, .bool s]

/-! ### the reference model -/
theorem l1In_any (n lo hi : Int) (w : World) : Calls Try.prog 47 #[.int .i64 n, .int .i64 lo, .int .i64 hi] w fun e w' => e = .returned (.bool (inB n lo hi)) ∧ w = w' := by
  go_enter Try.func47, Try.ntmps47
  go_wp2
  all_goals (go_ret; refine ⟨?_, rfl⟩; simp [inB]; try omega)

theorem l1Val_any (r n : Int) (w : World) : Calls Try.prog 136 #[.int .i64 r, .int .i64 n] w fun e w' => e = .returned (.bool (valB r n)) ∧ w = w' := by
  go_enter Try.func136, Try.ntmps136
  go_wp2_with (go_at_call 47; refine (l1In_any _ _ _ _).mono ?_; rintro e w' ⟨rfl, rfl⟩)
  all_goals (go_ret; refine ⟨?_, rfl⟩; simp [valB, *])

set_option maxRecDepth 100000 in
set_option maxHeartbeats 8000000 in
theorem sok_any (k a b c : Int) (s : Bool) (w : World) : Calls Try.prog 111 #[St k a b c s] w fun e w' => e = .returned (.bool (okB k a b c s)) ∧ Below w.heap.size w w' := by
  rcases kinds k with rfl | rfl | rfl | rfl | rfl | rfl | rfl | rfl | rfl | rfl | rfl | h
  rotate_right
  have h0 : (k == 0) = false := by simp; omega
  have h1 : (k == 1) = false := by simp; omega
  have h2 : (k == 2) = false := by simp; omega
  have h3 : (k == 3) = false := by simp; omega
  have h4 : (k == 4) = false := by simp; omega
  have h5 : (k == 5) = false := by simp; omega
  have h6 : (k == 6) = false := by simp; omega
  have h7 : (k == 7) = false := by simp; omega
  have h8 : (k == 8) = false := by simp; omega
  have h9 : (k == 9) = false := by simp; omega
  have h10 : (k == 10) = false := by simp; omega
  have hne1 : (k != 1) = true := by simp; omega
  have hne2 : (k != 2) = true := by simp; omega
  have hfin : okB k a b c s = false := by simp at h0 h1 h2 h3 h4 h5 h6 h7 h8 h9 h10; simp [okB, *]
  have Hfin := Lib.hid hfin
  clear hfin h
  all_goals cases s
  all_goals
    go_enter Try.func111, Try.ntmps111
    go_wp2_with (first | (go_at_call 47; refine (l1In_any _ _ _ _).mono ?_; rintro e w' ⟨rfl, rfl⟩) | (go_at_call 136; refine (l1Val_any _ _ _).mono ?_; rintro e w' ⟨rfl, rfl⟩))
  all_goals
    go_ret
    refine ⟨?_, (Below.refl _ _).alloc (Nat.le_refl _) _⟩
    first | (rw [Hfin.out]; rfl) | simp [okB, *]

/-! ### the program -/
theorem within_any (n lo hi : Int) (w : World) : Calls Try.prog 116 #[.int .i64 n, .int .i64 lo, .int .i64 hi] w fun e w' => e = .returned (.bool (inB n lo hi)) ∧ w = w' := by
  go_enter Try.func116, Try.ntmps116
  go_wp2
  all_goals (go_ret; refine ⟨?_, rfl⟩; simp [inB]; try omega)

theorem role_any (r n : Int) (w : World) : Calls Try.prog 147 #[.int .i64 r, .int .i64 n] w fun e w' => e = .returned (.bool (roleB r n)) ∧ w = w' := by
  go_enter Try.func147, Try.ntmps147
  go_wp2_with (go_at_call 116; refine (within_any _ _ _ _).mono ?_; rintro e w' ⟨rfl, rfl⟩)
  all_goals (go_ret; refine ⟨?_, rfl⟩; simp only [beq_iff_eq, beq_eq_false_iff_ne] at *; simp [roleB, *])

end Go.Proofs.Ytaghidaamcnpkab
namespace Go.Proofs.Ytaghidaamcnpkab
open Go.ChangeShapes Go.WideShapes Go.ChangeAt Go.RowKit Go.Deep
set_option maxRecDepth 100000

theorem Try.own : ownKnob Try.prog.godebug = none := by kernel_rfl
theorem Try.laidOut : laidOutB Try.prog = true := by kernel_rfl

theorem five {α : Type} {l : List α} (h : l.length = 5) : ∃ c0 c1 c2 c3 c4, l = [c0, c1, c2, c3, c4] := by
  match l, h with
  | [c0, c1, c2, c3, c4], _ => exact ⟨c0, c1, c2, c3, c4, rfl⟩

section
variable {H : Type} {enc : TypeId × Value → H} {w : World} {base : Nat} {spare : Nat → Bool} {held : Bool}
/-- The shape of a statement's type. -/
def StmtType (t : TypeId) : Prop := ∃ fs : Array Field, Try.prog.underlying t = some (.struct fs) ∧ oneCellFields Try.prog fs = true ∧ Try.prog.cellsOf t = 5 ∧ (fs.map (·.type)) = #[3, 3, 3, 3, 4]
theorem lawsStmt : StmtType 155 := ⟨_, Try.underlying155, by kernel_rfl, by kernel_rfl, by kernel_rfl⟩
theorem implStmt : StmtType 107 := ⟨_, Try.underlying107, by kernel_rfl, by kernel_rfl, by kernel_rfl⟩

theorem stmt_cells {t : TypeId} {fuel : Nat} {cs : List Value} {x : DataW H × List MemPlace} (ht : StmtType t) (h : DataW.trod enc Try.prog w base spare held fuel t cs = some x) :
    ∃ (k a b c : Int) (s : Bool), cs = [.int .i64 k, .int .i64 a, .int .i64 b, .int .i64 c, .bool s] ∧ x.2 = [] ∧ (Lit.int .i64 k).wf = true ∧ (Lit.int .i64 a).wf = true ∧ (Lit.int .i64 b).wf = true ∧ (Lit.int .i64 c).wf = true := by
  obtain ⟨fs, hu, hone, hC, hty⟩ := ht
  obtain ⟨xs, n, _, rfl, hlen, hsz, hat⟩ := DataW.trod_struct hu h
  rw [hC] at hlen
  obtain ⟨c0, c1, c2, c3, c4, rfl⟩ := five hlen
  have hfs : fs.size = 5 := by have := congrArg Array.size hty; simpa using this
  rw [hfs] at hsz
  obtain ⟨y0, y1, y2, y3, y4, rfl⟩ := five hsz
  have at_ : ∀ (i : Nat) (hi : i < 5) (u : Nat), #[3, 3, 3, 3, 4][i]? = some u → DataW.trod enc Try.prog w base spare held n u (([c0, c1, c2, c3, c4].drop i).take 1) = [y0, y1, y2, y3, y4][i]? := by
    intro i hi u hu'
    have hf : fs[i]? = some (fs[i]'(by omega)) := Array.getElem?_eq_getElem (by omega)
    obtain ⟨ho, hk⟩ := hone_of hone i _ hf
    have := hat i _ hf
    rw [ho, hk] at this
    have he : (fs[i]'(by omega)).type = u := by
      have h2 : (fs.map (·.type))[i]? = some u := by rw [hty]; exact hu'
      rw [Array.getElem?_map, hf] at h2
      simpa using h2
    rw [he] at this
    exact this
  obtain ⟨k, e0, f0, w0⟩ := DataW.trod_int Try.underlying3 (by simpa using at_ 0 (by omega) _ rfl)
  obtain ⟨a, e1, f1, w1⟩ := DataW.trod_int Try.underlying3 (by simpa using at_ 1 (by omega) _ rfl)
  obtain ⟨b, e2, f2, w2⟩ := DataW.trod_int Try.underlying3 (by simpa using at_ 2 (by omega) _ rfl)
  obtain ⟨c, e3, f3, w3⟩ := DataW.trod_int Try.underlying3 (by simpa using at_ 3 (by omega) _ rfl)
  obtain ⟨s, e4, f4⟩ := DataW.trod_bool Try.underlying4 (by simpa using at_ 4 (by omega) _ rfl)
  simp at e0 e1 e2 e3 e4
  subst e0 e1 e2 e3 e4
  refine ⟨k, a, b, c, s, rfl, ?_, w0, w1, w2, w3⟩
  simp [f0, f1, f2, f3, f4]

theorem open_stmt {r : Reach} {b0 : Nat} {t : TypeId} {v : Value} {d : DataW H} {p : List MemPlace} (ht : StmtType t) (hv : Value.okWide Try.prog w r b0 t v) (h : DataW.Trod enc Try.prog w base spare held t v d p) :
    ∃ (k a b c : Int) (s : Bool), v = St k a b c s ∧ p = [] ∧ (Lit.int .i64 k).wf = true ∧ (Lit.int .i64 a).wf = true ∧ (Lit.int .i64 b).wf = true ∧ (Lit.int .i64 c).wf = true := by
  obtain ⟨cs, rfl, _⟩ := (show ∃ cs : Array Value, v = .agg cs ∧ cs.size = Try.prog.cellsOf t from by
    obtain ⟨fs, hu, _⟩ := ht; exact okWide_struct hu hv)
  obtain ⟨fuel, hf⟩ := h
  obtain ⟨k, a, b, c, s, e, hp, h0, h1, h2, h3⟩ := stmt_cells ht hf
  refine ⟨k, a, b, c, s, ?_, hp, h0, h1, h2, h3⟩
  simp only [Value.cells] at e
  have : cs = #[.int .i64 k, .int .i64 a, .int .i64 b, .int .i64 c, .bool s] := by
    apply Array.ext'; simpa using e
  rw [this]
end

end Go.Proofs.Ytaghidaamcnpkab
