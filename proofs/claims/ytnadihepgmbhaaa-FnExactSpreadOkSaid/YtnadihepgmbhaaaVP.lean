/-
  States with buffers, plainly: which buffer is whose, and the marks of those that are not empty. A thread has e buffers, one or one for each place.
-/
import Derived.Test.YtnadihepgmbhaaaVBox
import Derived.Test.YtnadihepgmbhaaaBfP
import Derived.Test.YtnadihepgmbhaaaWordF
namespace Go.Proofs.Ytnadihepgmbhaaa
open Go.RowKit Pl Go.BigFrame
set_option maxRecDepth 100000
set_option linter.unusedVariables false

def Ech (e : Nat) : Prop := e = 1 ∨ e = 3
/-- The buffer of a thread for a place. -/
def bfi (e t p : Nat) : Nat := t * e + p % e
theorem bfi1 (t p : Nat) : bfi 1 t p = t := by unfold bfi; omega
theorem bfi3 (t p : Nat) (hp : p < 3) : bfi 3 t p = t * 3 + p := by unfold bfi; omega
theorem bfi_lt {e t p : Nat} (he : Ech e) (ht : t < 3) : bfi e t p < 9 := by
  unfold bfi
  rcases he with rfl | rfl <;> omega
theorem bfi_in {e t p n : Nat} (he : Ech e) (ht : t < n) : bfi e t p < n * e := by
  unfold bfi
  rcases he with rfl | rfl <;> omega
/-- The marks of the first n buffers. -/
def mkN (b : Nat → List Nat) : Nat → Nat
  | 0 => 0
  | n + 1 => (if (b n).isEmpty then 0 else 1) * 2 ^ n ||| mkN b n
theorem mkN_lt (b : Nat → List Nat) : ∀ n, mkN b n < 2 ^ n
  | 0 => by simp [mkN]
  | n + 1 => by
    have h := mkN_lt b n
    rw [mkN]
    refine Nat.or_lt_two_pow ?_ ?_
    · rw [Nat.pow_succ]
      have := Nat.pow_pos (n := n) (show 0 < 2 by omega)
      split <;> omega
    · rw [Nat.pow_succ]; omega
theorem mkN_bit (b : Nat → List Nat) (i : Nat) : ∀ n, (mkN b n).testBit i = (decide (i < n) && !(b i).isEmpty)
  | 0 => by simp [mkN]
  | n + 1 => by
    rw [mkN, Nat.testBit_or, mkN_bit b i n]
    by_cases e : i = n
    · subst e
      by_cases h : (b i).isEmpty = true
      · rw [if_pos h]; simp [h]
      · rw [if_neg h, Nat.one_mul, Nat.testBit_two_pow_self]
        simp only [Bool.true_or]
        simp at h
        simp [h]
    · have e2 : ((if (b n).isEmpty then 0 else 1) * 2 ^ n).testBit i = false := by
        split
        · simp
        · rw [Nat.one_mul]; exact Nat.testBit_two_pow_of_ne (fun h => e h.symm)
      rw [e2, Bool.false_or]
      have : decide (i < n + 1) = decide (i < n) := by
        by_cases h : i < n
        · simp [h]; omega
        · simp [h]; omega
      rw [this]
def mk9 (b : Nat → List Nat) : Nat := mkN b 9
theorem mk9_lt (b : Nat → List Nat) : mk9 b < 512 := mkN_lt b 9
theorem mk9_bit (b : Nat → List Nat) {i : Nat} (h : i < 9) : (mk9 b).testBit i = !(b i).isEmpty := by
  unfold mk9; rw [mkN_bit]; simp [h]
theorem mk9_hi (b : Nat → List Nat) {i : Nat} (h : 9 ≤ i) : (mk9 b).testBit i = false := by
  unfold mk9; rw [mkN_bit]; simp; omega
def updB (b : Nat → List Nat) (t : Nat) (v : List Nat) : Nat → List Nat := fun u => if u = t then v else b u
theorem updB_same (b : Nat → List Nat) (t : Nat) (v : List Nat) : updB b t v t = v := if_pos rfl
theorem updB_other (b : Nat → List Nat) {t u : Nat} (v : List Nat) (h : u ≠ t) : updB b t v u = b u := if_neg h
/-- The marks behind a turn of one buffer. -/
def putM (m k : Nat) (full : Bool) : Nat := if full then (m ^^^ (m &&& 2 ^ k)) ||| 2 ^ k else m ^^^ (m &&& 2 ^ k)
theorem putM_bit (m k : Nat) (full : Bool) (i : Nat) : (putM m k full).testBit i = if i = k then full else m.testBit i := by
  unfold putM
  by_cases e : i = k
  · subst e
    rw [if_pos rfl]
    cases full
    · rw [if_neg (by simp), Nat.testBit_xor, Nat.testBit_and, Nat.testBit_two_pow_self, Bool.and_true, Bool.xor_self]
    · rw [if_pos rfl, Nat.testBit_or, Nat.testBit_two_pow_self, Bool.or_true]
  · have e2 : (2 ^ k).testBit i = false := Nat.testBit_two_pow_of_ne (fun h => e h.symm)
    rw [if_neg e]
    cases full
    · rw [if_neg (by simp), Nat.testBit_xor, Nat.testBit_and, e2, Bool.and_false, Bool.xor_false]
    · rw [if_pos rfl, Nat.testBit_or, Nat.testBit_xor, Nat.testBit_and, e2, Bool.and_false, Bool.xor_false, Bool.or_false]
theorem mk9_put (b : Nat → List Nat) {k : Nat} (v : List Nat) (h : k < 9) : mk9 (updB b k v) = putM (mk9 b) k (!v.isEmpty) := by
  apply Nat.eq_of_testBit_eq
  intro i
  rw [putM_bit]
  rcases Nat.lt_or_ge i 9 with hi | hi
  · rw [mk9_bit _ hi]
    by_cases e : i = k
    · subst e; rw [if_pos rfl, updB_same]
    · rw [if_neg e, updB_other b v e, mk9_bit _ hi]
  · rw [mk9_hi _ hi, if_neg (by omega), mk9_hi _ hi]
theorem mk9_nil : mk9 (fun _ => []) = 0 := rfl
theorem mk9_congr {b c : Nat → List Nat} (h : ∀ i, i < 9 → b i = c i) : mk9 b = mk9 c := by
  apply Nat.eq_of_testBit_eq
  intro i
  rcases Nat.lt_or_ge i 9 with hi | hi
  · rw [mk9_bit _ hi, mk9_bit _ hi, h i hi]
  · rw [mk9_hi _ hi, mk9_hi _ hi]
/-- Whether all buffers of a thread are empty. -/
def ownE (e : Nat) (b : Nat → List Nat) (t : Nat) : Bool := (List.range e).all fun j => (b (t * e + j)).isEmpty
theorem own_marks {e t : Nat} (b : Nat → List Nat) (he : Ech e) (ht : t < 3) : (mk9 b / 2 ^ (t * e) % 2 ^ e == 0) = ownE e b t := by
  rw [Bool.eq_iff_iff, beq_iff_eq]
  unfold ownE
  rw [List.all_eq_true]
  have hb : ∀ j, j < e → t * e + j < 9 := fun j hj => by rcases he with rfl | rfl <;> omega
  constructor
  · intro h j hj
    have hj := List.mem_range.1 hj
    have h2 : (mk9 b / 2 ^ (t * e) % 2 ^ e).testBit j = false := by rw [h]; simp
    rw [Nat.testBit_mod_two_pow, Nat.testBit_div_two_pow] at h2
    rw [show decide (j < e) = true by simp [hj], Bool.true_and, Nat.add_comm, mk9_bit b (hb j hj)] at h2
    simpa using h2
  · intro h
    apply Nat.eq_of_testBit_eq
    intro j
    rw [Nat.testBit_mod_two_pow, Nat.testBit_div_two_pow]
    by_cases hj : j < e
    · rw [Nat.add_comm, mk9_bit b (hb j hj), h j (List.mem_range.2 hj)]; simp
    · simp [hj]
/-- Buffers with at most m stores. -/
def okB9 (b : Nat → List Nat) (m : Nat) : Prop := ∀ t, t < 9 → okS (b t) ∧ (b t).length ≤ m
/-- A state with buffers as words. -/
abbrev QV (e : Nat) (f : Nat → Nat) (b : Nat → List Nat) : Value := .agg (mkQ e (enc WS f) (mk9 b) fun i => bwC (b i))
theorem qv_put (e W : Nat) (b : Nat → List Nat) {k : Nat} (v : List Nat) (h : k < 9) : mkQ e W (putM (mk9 b) k (!v.isEmpty)) (setN (fun i => bwC (b i)) k (bwC v)) = mkQ e W (mk9 (updB b k v)) fun i => bwC (updB b k v i) := by
  rw [mk9_put b v h]
  congr 1
  funext i
  unfold setN updB
  split <;> rfl
theorem bw_full (v : List Nat) : (!v.isEmpty) = decide (bwC v ≠ 0) := by
  cases v with
  | nil => rfl
  | cons c r =>
    have : bwC (c :: r) ≠ 0 := fun e => by have := bwC_zero.1 e; cases this
    simp [this]
end Go.Proofs.Ytnadihepgmbhaaa
