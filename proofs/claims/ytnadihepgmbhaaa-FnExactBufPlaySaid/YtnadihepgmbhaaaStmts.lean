/-
  Contracts of the functions of chapter 1 that take statements by value: of the reference model and of the program; each comes to the plain function of XPlain, whatever the statement and the memory, and leaves all memory that was there as it was.
-/
import Derived.KernelRfl
import Derived.Test.YtnadihepgmbhaaaRows
import Derived.WalkKit
import Derived.ProofKit
import Derived.OpenShut
import Derived.Below
import Derived.Handy
import Derived.Lib.Hide
import Derived.WalkSpells
namespace Go.Proofs.Ytnadihepgmbhaaa.Pl

def inB (n lo hi : Int) : Bool := decide (lo ≤ n) && decide (n ≤ hi)
def valB (r n : Int) : Bool := inB r (-1) 2 && inB n 0 3
def okB (k a b c : Int) (s : Bool) : Bool :=
  if s && k != 1 && k != 2 then false
  else if k = 0 then inB a 0 2 && valB b c
  else if k = 1 then inB a 0 2 && inB b 0 2 && c == 0
  else if k = 2 then inB a 0 2 && valB b c
  else if k = 3 ∨ k = 4 then inB a 0 2 && inB b 0 2 && inB c 0 3
  else if k = 5 then a == 0 && b == 0 && c == 0
  else if k = 6 ∨ k = 7 then inB a 0 1 && b == 0 && c == 0
  else if k = 8 then inB a 0 1 && valB b c
  else if k = 9 then inB a 0 2 && inB b 0 1 && c == 0
  else k == 10 && inB a 0 2 && inB b 1 6 && c == 0

theorem kinds (k : Int) : k = 0 ∨ k = 1 ∨ k = 2 ∨ k = 3 ∨ k = 4 ∨ k = 5 ∨ k = 6 ∨ k = 7 ∨ k = 8 ∨ k = 9 ∨ k = 10 ∨ (k < 0 ∨ 10 < k) := by omega

/-- The program's own table of what a kind needs. -/
def nK (k : Int) : Bool := inB k 0 10
def nA (k : Int) : Int := if k = 0 then 1 else if k = 1 then 1 else if k = 2 then 4 else if k = 3 then 1 else if k = 4 then 1 else if k = 5 then 0 else if k = 6 then 5 else if k = 7 then 5 else if k = 8 then 6 else if k = 9 then 1 else if k = 10 then 2 else 0
def nB (k : Int) : Int := if k = 0 then 3 else if k = 1 then 4 else if k = 2 then 3 else if k = 3 then 4 else if k = 4 then 4 else if k = 5 then 0 else if k = 6 then 0 else if k = 7 then 0 else if k = 8 then 3 else if k = 9 then 6 else if k = 10 then 8 else 0
def nC (k : Int) : Int := if k = 0 then 7 else if k = 1 then 0 else if k = 2 then 7 else if k = 3 then 7 else if k = 4 then 7 else if k = 5 then 0 else if k = 6 then 0 else if k = 7 then 0 else if k = 8 then 7 else 0
def nS (k : Int) : Bool := k == 1 || k == 2
def nW (k : Int) : Bool := k == 2 || k == 3 || k == 4
def roleB (r n : Int) : Bool :=
  if r = 1 ∨ r = 2 then inB n 0 2 else if r = 3 then inB n (-1) 2 else if r = 4 then inB n 0 2 else if r = 5 then inB n 0 1 else if r = 6 then inB n 0 1 else if r = 7 then inB n 0 3 else if r = 8 then inB n 1 6 else n == 0
theorem ok_eq (k a b c : Int) (s : Bool) : (nK k && !(s && !nS k) && (roleB (nA k) a && roleB (nB k) b && roleB (nC k) c)) = okB k a b c s := by
  rcases kinds k with rfl | rfl | rfl | rfl | rfl | rfl | rfl | rfl | rfl | rfl | rfl | h
  rotate_right
  have h1 : inB k 0 10 = false := by simp [inB]; omega
  have h2 : okB k a b c s = false := by
    unfold okB
    have e : ∀ j : Int, 0 ≤ j → j ≤ 10 → k ≠ j := fun j _ _ => by omega
    have e0 := e 0 (by omega) (by omega); have e1 := e 1 (by omega) (by omega); have e2 := e 2 (by omega) (by omega); have e3 := e 3 (by omega) (by omega); have e4 := e 4 (by omega) (by omega); have e5 := e 5 (by omega) (by omega); have e6 := e 6 (by omega) (by omega); have e7 := e 7 (by omega) (by omega); have e8 := e 8 (by omega) (by omega); have e9 := e 9 (by omega) (by omega); have e10 := e 10 (by omega) (by omega)
    simp [*]
  simp [nK, h1, h2]
  all_goals (cases s <;> simp [okB, nK, nA, nB, nC, nS, roleB, valB, inB, Bool.and_assoc])

def readsZ (k a b c : Int) (s : Bool) : Int := if okB k a b c s then (if k = 0 ∨ k = 2 ∨ k = 8 then b else if k = 10 then a else -1) else -1
def setsZ (k a b c : Int) (s : Bool) : Int := if okB k a b c s && (k == 0 || k == 1 || k == 3 || k == 4 || k == 9) then a else -1
def placeZ (k a b c : Int) (s : Bool) : Int := if okB k a b c s then (if k = 2 then a else if k = 1 ∨ k = 3 ∨ k = 4 then b else -1) else -1
def writesB (k a b c : Int) (s : Bool) : Bool := okB k a b c s && inB k 2 4
/-- The program's own way: the number of a role. -/
def numZ (k a b c : Int) (s : Bool) (r : Int) : Int := if okB k a b c s then (if nA k = r then a else if nB k = r then b else -1) else -1
theorem ok_range {k a b c : Int} {s : Bool} (h : okB k a b c s = true) : 0 ≤ k ∧ k ≤ 10 := by
  rw [← ok_eq] at h
  simp [nK, inB] at h
  exact ⟨h.1.1.1, h.1.1.2⟩
def conB (k a b c : Int) (s : Bool) (k' a' b' c' : Int) (s' : Bool) : Bool :=
  decide (0 ≤ placeZ k a b c s) && placeZ k a b c s == placeZ k' a' b' c' s' && (writesB k a b c s || writesB k' a' b' c' s')
end Go.Proofs.Ytnadihepgmbhaaa.Pl
namespace Go.Proofs.Ytnadihepgmbhaaa
open Go.RowKit Pl
set_option maxHeartbeats 400000

theorem bcell {W w1 : World} (hb : Below W.heap.size W w1) : (∀ b o, b < W.heap.size → w1.cell? ⟨b, o, none⟩ = W.cell? ⟨b, o, none⟩) ∧ (∀ b o, b < W.heap.size → w1.frozen? ⟨b, o, none⟩ = W.frozen? ⟨b, o, none⟩) :=
  ⟨fun b o h => hb.cell (p := ⟨b, o, none⟩) h, fun b o h => hb.frozen (p := ⟨b, o, none⟩) h⟩

abbrev St (k a b c : Int) (s : Bool) : Value := .agg #[.int .i64 k, .int .i64 a, .int .i64 b, .int .i64 c, .bool s]

/-! ### the reference model -/
theorem l1In_any (n lo hi : Int) (w : World) : Calls Try.prog 73 #[.int .i64 n, .int .i64 lo, .int .i64 hi] w fun e w' => e = .returned (.bool (inB n lo hi)) ∧ w = w' := by
  go_enter Try.func73, Try.ntmps73
  go_wp2
  all_goals (go_ret; refine ⟨?_, rfl⟩; simp [inB]; try omega)

theorem l1Val_any (r n : Int) (w : World) : Calls Try.prog 144 #[.int .i64 r, .int .i64 n] w fun e w' => e = .returned (.bool (valB r n)) ∧ w = w' := by
  go_enter Try.func144, Try.ntmps144
  go_wp2_with (go_at_call 73; refine (l1In_any _ _ _ _).mono ?_; rintro e w' ⟨rfl, rfl⟩)
  all_goals (go_ret; refine ⟨?_, rfl⟩; simp [valB, *])

set_option maxRecDepth 100000 in
set_option maxHeartbeats 8000000 in
theorem sok_any (k a b c : Int) (s : Bool) (w : World) : Calls Try.prog 98 #[St k a b c s] w fun e w' => e = .returned (.bool (okB k a b c s)) ∧ Below w.heap.size w w' := by
  rcases kinds k with rfl | rfl | rfl | rfl | rfl | rfl | rfl | rfl | rfl | rfl | rfl | h
  rotate_right
  have h0 : (k == 0) = false := by simp; omega
  have h1 : (k == 1) = false := by simp; omega
  have h2 : (k == 2) = false := by simp; omega
  have h3 : (k == 3) = false := by simp; omega
  have h4 : (k == 4) = false := by simp; omega
  have h5 : (k == 5) = false := by simp; omega
  have h6 : (k == 6) = false := by simp; omega
  have h7 : (k == 7) = false := by simp; omega
  have h8 : (k == 8) = false := by simp; omega
  have h9 : (k == 9) = false := by simp; omega
  have h10 : (k == 10) = false := by simp; omega
  have hne1 : (k != 1) = true := by simp; omega
  have hne2 : (k != 2) = true := by simp; omega
  have hfin : okB k a b c s = false := by simp at h0 h1 h2 h3 h4 h5 h6 h7 h8 h9 h10; simp [okB, *]
  have Hfin := Lib.hid hfin
  clear hfin h
  all_goals cases s
  all_goals
    go_enter Try.func98, Try.ntmps98
    go_wp2_with (first | (go_at_call 73; refine (l1In_any _ _ _ _).mono ?_; rintro e w' ⟨rfl, rfl⟩) | (go_at_call 144; refine (l1Val_any _ _ _).mono ?_; rintro e w' ⟨rfl, rfl⟩))
  all_goals
    go_ret
    refine ⟨?_, (Below.refl _ _).alloc (Nat.le_refl _) _⟩
    first | (rw [Hfin.out]; rfl) | simp [okB, *]

/-! ### the program -/
theorem within_any (n lo hi : Int) (w : World) : Calls Try.prog 76 #[.int .i64 n, .int .i64 lo, .int .i64 hi] w fun e w' => e = .returned (.bool (inB n lo hi)) ∧ w = w' := by
  go_enter Try.func76, Try.ntmps76
  go_wp2
  all_goals (go_ret; refine ⟨?_, rfl⟩; simp [inB]; try omega)

theorem role_any (r n : Int) (w : World) : Calls Try.prog 174 #[.int .i64 r, .int .i64 n] w fun e w' => e = .returned (.bool (roleB r n)) ∧ w = w' := by
  go_enter Try.func174, Try.ntmps174
  go_wp2_with (go_at_call 76; refine (within_any _ _ _ _).mono ?_; rintro e w' ⟨rfl, rfl⟩)
  all_goals (go_ret; refine ⟨?_, rfl⟩; simp only [beq_iff_eq, beq_eq_false_iff_ne] at *; simp [roleB, *])

end Go.Proofs.Ytnadihepgmbhaaa
