/-
  Buffers of stores, plainly: the word of one, and the row of places and values of one. A store is a code: four times its place, and its value.
-/
import Derived.Test.YtnadihepgmbhaaaNums
namespace Go.Proofs.Ytnadihepgmbhaaa
open Pl
set_option maxRecDepth 100000
set_option linter.unusedVariables false

/-- The word of a buffer, the oldest store first. -/
def bwC (cs : List Nat) : Nat := cs.foldl (fun a c => a * 256 + (16 + c)) 0
theorem bwC_nil : bwC [] = 0 := rfl
theorem bwC_snoc (cs : List Nat) (c : Nat) : bwC (cs ++ [c]) = bwC cs * 256 + (16 + c) := by simp [bwC]
theorem bwF (cs : List Nat) : ∀ a, cs.foldl (fun a c => a * 256 + (16 + c)) a = a * 256 ^ cs.length + bwC cs := by
  induction cs with
  | nil => intro a; simp [bwC]
  | cons c r ih =>
    intro a
    have e : bwC (c :: r) = (0 * 256 + (16 + c)) * 256 ^ r.length + bwC r := ih _
    simp only [List.foldl_cons, List.length_cons]
    rw [ih, e, Nat.zero_mul, Nat.zero_add, Nat.add_mul, Nat.mul_assoc, Nat.pow_succ, Nat.mul_comm 256, Nat.add_assoc]
theorem bwC_cons (c : Nat) (r : List Nat) : bwC (c :: r) = (16 + c) * 256 ^ r.length + bwC r := by
  have e : bwC (c :: r) = (0 * 256 + (16 + c)) * 256 ^ r.length + bwC r := bwF r _
  rw [Nat.zero_mul, Nat.zero_add] at e
  exact e
/-- Codes of stores. -/
def okS (cs : List Nat) : Prop := ∀ c ∈ cs, c < 12
theorem okS.tail {c : Nat} {r : List Nat} (h : okS (c :: r)) : okS r := fun x hx => h x (List.mem_cons_of_mem _ hx)
theorem okS.head {c : Nat} {r : List Nat} (h : okS (c :: r)) : c < 12 := h c (List.mem_cons_self ..)
theorem okS.snoc {r : List Nat} {c : Nat} (h : okS r) (hc : c < 12) : okS (r ++ [c]) := fun x hx => by
  rcases List.mem_append.1 hx with h1 | h1
  · exact h x h1
  · simp at h1; omega
theorem okS.init {r : List Nat} {c : Nat} (h : okS (r ++ [c])) : okS r := fun x hx => h x (List.mem_append_left _ hx)
theorem okS.last {r : List Nat} {c : Nat} (h : okS (r ++ [c])) : c < 12 := h c (by simp)
theorem bwC_lt {cs : List Nat} (h : okS cs) : bwC cs < 256 ^ cs.length := by
  induction cs with
  | nil => simp [bwC]
  | cons c r ih =>
    rw [bwC_cons, List.length_cons, Nat.pow_succ]
    have h1 := ih h.tail
    have h2 := h.head
    have h3 : (16 + c) * 256 ^ r.length ≤ 255 * 256 ^ r.length := Nat.mul_le_mul_right _ (by omega)
    omega
theorem bwC_small {cs : List Nat} (h : okS cs) (hl : cs.length ≤ 7) : bwC cs < 72057594037927936 := by
  have h1 := bwC_lt h
  have h2 : (256 : Nat) ^ cs.length ≤ 256 ^ 7 := Nat.pow_le_pow_right (by omega) hl
  have : (256 : Nat) ^ 7 = 72057594037927936 := by decide
  omega
theorem bwC_8 {cs : List Nat} (h : okS cs) (hl : cs.length ≤ 8) : bwC cs < 18446744073709551616 := by
  have h1 := bwC_lt h
  have h2 : (256 : Nat) ^ cs.length ≤ 256 ^ 8 := Nat.pow_le_pow_right (by omega) hl
  have : (256 : Nat) ^ 8 = 18446744073709551616 := by decide
  omega
theorem bwC_ge {c : Nat} {r : List Nat} : 256 ^ r.length ≤ bwC (c :: r) := by
  rw [bwC_cons]
  have : 1 * 256 ^ r.length ≤ (16 + c) * 256 ^ r.length := Nat.mul_le_mul_right _ (by omega)
  omega
theorem pow256 (n : Nat) : 2 ^ (8 * n) = 256 ^ n := by rw [Nat.pow_mul]
theorem bwC_zero {cs : List Nat} : bwC cs = 0 ↔ cs = [] := by
  constructor
  · intro h
    cases cs with
    | nil => rfl
    | cons c r => have := bwC_ge (c := c) (r := r); have := Nat.pow_pos (n := r.length) (show 0 < 256 by omega); omega
  · rintro rfl; rfl
theorem bwC_head {c : Nat} {r : List Nat} (h : okS (c :: r)) : bwC (c :: r) / 256 ^ r.length = 16 + c := by
  have h1 := bwC_lt h.tail
  rw [bwC_cons, Nat.mul_comm, Nat.mul_add_div (by omega), Nat.div_eq_of_lt h1, Nat.add_zero]
theorem bwC_rest {c : Nat} {r : List Nat} (h : okS (c :: r)) : bwC (c :: r) % 256 ^ r.length = bwC r := by
  have h1 := bwC_lt h.tail
  rw [bwC_cons, Nat.mul_comm, Nat.mul_add_mod, Nat.mod_eq_of_lt h1]
theorem bwC_init {r : List Nat} {c : Nat} (h : okS (r ++ [c])) : bwC (r ++ [c]) / 256 = bwC r := by
  have := h.last; rw [bwC_snoc]; omega
theorem bwC_low {r : List Nat} {c : Nat} (h : okS (r ++ [c])) : bwC (r ++ [c]) % 16 = c := by
  have := h.last; rw [bwC_snoc]; omega
/-- Whether there is a store beyond the k + 1 newest ones. -/
theorem bwC_more {c : Nat} {r : List Nat} {k : Nat} (h : okS (c :: r)) : bwC (c :: r) / 256 ^ (k + 1) ≠ 0 ↔ k < r.length := by
  have h1 := bwC_lt h
  have h2 := bwC_ge (c := c) (r := r)
  rw [List.length_cons] at h1
  constructor
  · intro hn
    rcases Nat.lt_or_ge k r.length with h3 | h3
    · exact h3
    · exfalso
      have : (256 : Nat) ^ (r.length + 1) ≤ 256 ^ (k + 1) := Nat.pow_le_pow_right (by omega) (by omega)
      exact hn (Nat.div_eq_of_lt (by omega))
  · intro hk
    have : (256 : Nat) ^ (k + 1) ≤ 256 ^ r.length := Nat.pow_le_pow_right (by omega) (by omega)
    have := Nat.div_pos (a := bwC (c :: r)) (b := 256 ^ (k + 1)) (by omega) (Nat.pow_pos (by omega))
    omega
theorem or_low (a b i : Nat) (h : b < 2 ^ i) : a * 2 ^ i ||| b = a * 2 ^ i + b := by
  have := Nat.shiftLeft_add_eq_or_of_lt h a
  rw [Nat.shiftLeft_eq] at this
  exact this.symm
theorem put_word (a c : Nat) (hc : c < 16) : a * 256 ||| 16 ||| c = a * 256 + (16 + c) := by
  have h1 : 1 * 2 ^ 4 ||| c = 1 * 2 ^ 4 + c := or_low 1 c 4 (by omega)
  have h2 : (16 : Nat) ||| c = 16 + c := h1
  rw [Nat.or_assoc, h2]
  exact or_low a (16 + c) 8 (by omega)
/-! ### rows -/
/-- The places and values of stores. -/
def rowS (cs : List Nat) : List Int := cs.flatMap fun c => [((c / 4 : Nat) : Int), ((c % 4 : Nat) : Int)]
theorem rowS_cons (c : Nat) (r : List Nat) : rowS (c :: r) = ((c / 4 : Nat) : Int) :: ((c % 4 : Nat) : Int) :: rowS r := rfl
theorem rowS_snoc (r : List Nat) (c : Nat) : rowS (r ++ [c]) = rowS r ++ [((c / 4 : Nat) : Int), ((c % 4 : Nat) : Int)] := by simp [rowS]
theorem rowS_length (cs : List Nat) : (rowS cs).length = 2 * cs.length := by
  induction cs with
  | nil => rfl
  | cons c r ih => rw [rowS_cons]; simp only [List.length_cons, ih]; omega
theorem rowS_at0 {cs : List Nat} {i c : Nat} (h : cs[i]? = some c) : (rowS cs)[2 * i]? = some ((c / 4 : Nat) : Int) := by
  induction cs generalizing i with
  | nil => simp at h
  | cons d r ih =>
    cases i with
    | zero => simp at h; subst h; rfl
    | succ i => simp at h; rw [rowS_cons, show 2 * (i + 1) = 2 * i + 1 + 1 by omega, List.getElem?_cons_succ, List.getElem?_cons_succ]; exact ih h
theorem rowS_at1 {cs : List Nat} {i c : Nat} (h : cs[i]? = some c) : (rowS cs)[2 * i + 1]? = some ((c % 4 : Nat) : Int) := by
  induction cs generalizing i with
  | nil => simp at h
  | cons d r ih =>
    cases i with
    | zero => simp at h; subst h; rfl
    | succ i => simp at h; rw [rowS_cons, show 2 * (i + 1) + 1 = 2 * i + 1 + 1 + 1 by omega, List.getElem?_cons_succ, List.getElem?_cons_succ]; exact ih h
/-- Whether a list is places and values by turns. -/
def prsB : List Int → Bool
  | a :: b :: r => inB a 0 2 && (inB b 0 3 && prsB r)
  | _ => true
def lokB (xs : List Int) : Bool := (xs.length % 2 == 0 && decide (xs.length ≤ 12)) && prsB xs
/-- The codes of a row. -/
def cdR : List Int → List Nat
  | a :: b :: r => (a.toNat * 4 + b.toNat) :: cdR r
  | _ => []
theorem inB_nat {x lo hi : Int} (h : inB x lo hi = true) : lo ≤ x ∧ x ≤ hi := by simpa [inB] using h
theorem cdR_ok : ∀ (n : Nat) {xs : List Int}, xs.length = 2 * n → prsB xs = true → okS (cdR xs) ∧ (cdR xs).length = n ∧ rowS (cdR xs) = xs := by
  intro n
  induction n with
  | zero =>
    intro xs h _
    obtain rfl : xs = [] := List.eq_nil_of_length_eq_zero (by omega)
    exact ⟨fun c hc => by simp [cdR] at hc, rfl, rfl⟩
  | succ n ih =>
    intro xs h hp
    match xs, h, hp with
    | a :: b :: r, h, hp =>
      simp only [prsB, Bool.and_eq_true] at hp
      obtain ⟨ha, hb, hr⟩ := hp
      obtain ⟨h1, h2, h3⟩ := ih (xs := r) (by simp at h; omega) hr
      have ha := inB_nat ha
      have hb := inB_nat hb
      have e : (a.toNat * 4 + b.toNat) / 4 = a.toNat := by omega
      have e2 : (a.toNat * 4 + b.toNat) % 4 = b.toNat := by omega
      refine ⟨fun c hc => ?_, by simp [cdR, h2], ?_⟩
      · rcases List.mem_cons.1 hc with rfl | hc
        · omega
        · exact h1 c hc
      · rw [cdR, rowS_cons, e, e2, h3]
        congr 1
        · omega
        · congr 1; omega
theorem lok_parts {xs : List Int} (h : lokB xs = true) : okS (cdR xs) ∧ (cdR xs).length ≤ 6 ∧ rowS (cdR xs) = xs := by
  simp only [lokB, Bool.and_eq_true, decide_eq_true_eq, beq_iff_eq] at h
  obtain ⟨⟨h1, h2⟩, h3⟩ := h
  obtain ⟨a, b, c⟩ := cdR_ok (xs.length / 2) (xs := xs) (by omega) h3
  exact ⟨a, by omega, c⟩
theorem prs_rowS : ∀ {cs : List Nat}, okS cs → prsB (rowS cs) = true := by
  intro cs
  induction cs with
  | nil => intro _; rfl
  | cons c r ih =>
    intro h
    have := h.head
    rw [rowS_cons, prsB, ih h.tail]
    simp [inB]
    omega
theorem lok_rowS {cs : List Nat} (h : okS cs) (hl : cs.length ≤ 6) : lokB (rowS cs) = true := by
  simp only [lokB, rowS_length, prs_rowS h, Bool.and_true, Bool.and_eq_true, decide_eq_true_eq, beq_iff_eq]
  omega
theorem cdR_rowS {cs : List Nat} : cdR (rowS cs) = cs := by
  induction cs with
  | nil => rfl
  | cons c r ih => rw [rowS_cons, cdR, ih]; congr 1; omega
end Go.Proofs.Ytnadihepgmbhaaa
