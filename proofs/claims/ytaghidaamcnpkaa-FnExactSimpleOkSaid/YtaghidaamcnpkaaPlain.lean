/-
  What chapter 1's functions come to, as plain Lean functions over integers: no program is named here.
-/
import Derived.KernelRfl
namespace Go.Proofs.Ytaghidaamcnpkaa.Pl

def inB (n lo hi : Int) : Bool := decide (lo ≤ n) && decide (n ≤ hi)
def valB (r n : Int) : Bool := inB r (-1) 2 && inB n 0 3
def okB (k a b c : Int) (s : Bool) : Bool :=
  if s && k != 1 && k != 2 then false
  else if k = 0 then inB a 0 2 && valB b c
  else if k = 1 then inB a 0 2 && inB b 0 2 && c == 0
  else if k = 2 then inB a 0 2 && valB b c
  else if k = 3 ∨ k = 4 then inB a 0 2 && inB b 0 2 && inB c 0 3
  else if k = 5 then a == 0 && b == 0 && c == 0
  else if k = 6 ∨ k = 7 then inB a 0 1 && b == 0 && c == 0
  else if k = 8 then inB a 0 1 && valB b c
  else if k = 9 then inB a 0 2 && inB b 0 1 && c == 0
  else k == 10 && inB a 0 2 && inB b 1 6 && c == 0

theorem kinds (k : Int) : k = 0 ∨ k = 1 ∨ k = 2 ∨ k = 3 ∨ k = 4 ∨ k = 5 ∨ k = 6 ∨ k = 7 ∨ k = 8 ∨ k = 9 ∨ k = 10 ∨ (k < 0 ∨ 10 < k) := by omega

/-- The program's own table of what a kind needs. -/
def nK (k : Int) : Bool := inB k 0 10
def nA (k : Int) : Int := if k = 0 then 1 else if k = 1 then 1 else if k = 2 then 4 else if k = 3 then 1 else if k = 4 then 1 else if k = 5 then 0 else if k = 6 then 5 else if k = 7 then 5 else if k = 8 then 6 else if k = 9 then 1 else if k = 10 then 2 else 0
def nB (k : Int) : Int := if k = 0 then 3 else if k = 1 then 4 else if k = 2 then 3 else if k = 3 then 4 else if k = 4 then 4 else if k = 5 then 0 else if k = 6 then 0 else if k = 7 then 0 else if k = 8 then 3 else if k = 9 then 6 else if k = 10 then 8 else 0
def nC (k : Int) : Int := if k = 0 then 7 else if k = 1 then 0 else if k = 2 then 7 else if k = 3 then 7 else if k = 4 then 7 else if k = 5 then 0 else if k = 6 then 0 else if k = 7 then 0 else if k = 8 then 7 else 0
def nS (k : Int) : Bool := k == 1 || k == 2
def nW (k : Int) : Bool := k == 2 || k == 3 || k == 4
def roleB (r n : Int) : Bool :=
  if r = 1 ∨ r = 2 then inB n 0 2 else if r = 3 then inB n (-1) 2 else if r = 4 then inB n 0 2 else if r = 5 then inB n 0 1 else if r = 6 then inB n 0 1 else if r = 7 then inB n 0 3 else if r = 8 then inB n 1 6 else n == 0
theorem ok_eq (k a b c : Int) (s : Bool) : (nK k && !(s && !nS k) && (roleB (nA k) a && roleB (nB k) b && roleB (nC k) c)) = okB k a b c s := by
  rcases kinds k with rfl | rfl | rfl | rfl | rfl | rfl | rfl | rfl | rfl | rfl | rfl | h
  rotate_right
  have h1 : inB k 0 10 = false := by simp [inB]; omega
  have h2 : okB k a b c s = false := by
    unfold okB
    have e : ∀ j : Int, 0 ≤ j → j ≤ 10 → k ≠ j := fun j _ _ => by omega
    have e0 := e 0 (by omega) (by omega); have e1 := e 1 (by omega) (by omega); have e2 := e 2 (by omega) (by omega); have e3 := e 3 (by omega) (by omega); have e4 := e 4 (by omega) (by omega); have e5 := e 5 (by omega) (by omega); have e6 := e 6 (by omega) (by omega); have e7 := e 7 (by omega) (by omega); have e8 := e 8 (by omega) (by omega); have e9 := e 9 (by omega) (by omega); have e10 := e 10 (by omega) (by omega)
    simp [*]
  simp [nK, h1, h2]
  all_goals (cases s <;> simp [okB, nK, nA, nB, nC, nS, roleB, valB, inB, Bool.and_assoc])

def readsZ (k a b c : Int) (s : Bool) : Int := if okB k a b c s then (if k = 0 ∨ k = 2 ∨ k = 8 then b else if k = 10 then a else -1) else -1
def setsZ (k a b c : Int) (s : Bool) : Int := if okB k a b c s && (k == 0 || k == 1 || k == 3 || k == 4 || k == 9) then a else -1
def placeZ (k a b c : Int) (s : Bool) : Int := if okB k a b c s then (if k = 2 then a else if k = 1 ∨ k = 3 ∨ k = 4 then b else -1) else -1
def writesB (k a b c : Int) (s : Bool) : Bool := okB k a b c s && inB k 2 4
/-- The program's own way: the number of a role. -/
def numZ (k a b c : Int) (s : Bool) (r : Int) : Int := if okB k a b c s then (if nA k = r then a else if nB k = r then b else -1) else -1
theorem ok_range {k a b c : Int} {s : Bool} (h : okB k a b c s = true) : 0 ≤ k ∧ k ≤ 10 := by
  rw [← ok_eq] at h
  simp [nK, inB] at h
  exact ⟨h.1.1.1, h.1.1.2⟩
theorem reads_eq (k a b c : Int) (s : Bool) : (if k = 10 then numZ k a b c s 2 else numZ k a b c s 3) = readsZ k a b c s := by
  unfold numZ readsZ
  by_cases h : okB k a b c s = true
  · have hr := ok_range h
    rcases kinds k with rfl | rfl | rfl | rfl | rfl | rfl | rfl | rfl | rfl | rfl | rfl | hk
    all_goals first | (simp [nA, nB, h]; done) | omega
  · simp [h]
theorem sets_eq (k a b c : Int) (s : Bool) : numZ k a b c s 1 = setsZ k a b c s := by
  unfold numZ setsZ
  by_cases h : okB k a b c s = true
  · have hr := ok_range h
    rcases kinds k with rfl | rfl | rfl | rfl | rfl | rfl | rfl | rfl | rfl | rfl | rfl | hk
    all_goals first | (simp [nA, nB, h]; done) | omega
  · simp [h]
theorem place_eq (k a b c : Int) (s : Bool) : numZ k a b c s 4 = placeZ k a b c s := by
  unfold numZ placeZ
  by_cases h : okB k a b c s = true
  · have hr := ok_range h
    rcases kinds k with rfl | rfl | rfl | rfl | rfl | rfl | rfl | rfl | rfl | rfl | rfl | hk
    all_goals first | (simp [nA, nB, h]; done) | omega
  · simp [h]
theorem writes_eq (k a b c : Int) (s : Bool) : (nW k && okB k a b c s) = writesB k a b c s := by
  unfold writesB
  by_cases h : okB k a b c s = true
  · have hr := ok_range h
    rcases kinds k with rfl | rfl | rfl | rfl | rfl | rfl | rfl | rfl | rfl | rfl | rfl | hk
    all_goals first | (simp [nW, inB, h]; done) | omega
  · simp [h]
theorem writes_place {k a b c : Int} {s : Bool} (h : writesB k a b c s = true) : 0 ≤ placeZ k a b c s := by
  unfold writesB at h
  simp only [Bool.and_eq_true] at h
  obtain ⟨h, hw⟩ := h
  have hr := ok_range h
  have h0 := h
  unfold placeZ
  rw [if_pos h]
  simp [inB] at hw
  rcases kinds k with rfl | rfl | rfl | rfl | rfl | rfl | rfl | rfl | rfl | rfl | rfl | hk
  all_goals first | omega | (cases s <;> simp [okB, inB, valB] at h ⊢ <;> omega)
def conB (k a b c : Int) (s : Bool) (k' a' b' c' : Int) (s' : Bool) : Bool :=
  decide (0 ≤ placeZ k a b c s) && placeZ k a b c s == placeZ k' a' b' c' s' && (writesB k a b c s || writesB k' a' b' c' s')
theorem con_eq (k a b c : Int) (s : Bool) (k' a' b' c' : Int) (s' : Bool) :
    (placeZ k a b c s == placeZ k' a' b' c' s' && (writesB k a b c s || writesB k' a' b' c' s')) = conB k a b c s k' a' b' c' s' := by
  unfold conB
  by_cases h : placeZ k a b c s = placeZ k' a' b' c' s'
  · by_cases h1 : writesB k a b c s = true
    · have h3 := writes_place h1
      rw [h1, decide_eq_true h3, h]; simp
    · by_cases h2 : writesB k' a' b' c' s' = true
      · have h3 := writes_place h2
        rw [← h] at h3
        rw [h2, decide_eq_true h3, h]; simp
      · rw [Bool.not_eq_true] at h1 h2
        rw [h1, h2]; simp
  · rw [beq_eq_false_iff_ne.2 h]; simp

end Go.Proofs.Ytaghidaamcnpkaa.Pl
