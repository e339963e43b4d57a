/-
  Words of bits, plainly: numbers of few bits side by side in one natural number. No program is named here.
-/
import Derived.KernelRfl
namespace Go.Proofs.Ytaghidaamcnpkab
set_option linter.unusedVariables false

/-- A number of b bits at s, and a word with another one there. -/
def wget (W s b : Nat) : Nat := W / 2 ^ s % 2 ^ b
def wset (W s b v : Nat) : Nat := 2 ^ (s + b) * (W / 2 ^ (s + b)) + (2 ^ s * v + W % 2 ^ s)
theorem wset_bits (W s b v : Nat) (hv : v < 2 ^ b) : (W ^^^ (W &&& ((2 ^ b - 1) <<< s))) ||| (v <<< s) = wset W s b v := by
  apply Nat.eq_of_testBit_eq
  intro j
  have hlo : W % 2 ^ s < 2 ^ s := Nat.mod_lt _ (Nat.two_pow_pos _)
  have hmid : 2 ^ s * v + W % 2 ^ s < 2 ^ (s + b) := by
    rw [Nat.pow_add]
    calc 2 ^ s * v + W % 2 ^ s < 2 ^ s * v + 2 ^ s := by omega
      _ = 2 ^ s * (v + 1) := by rw [Nat.mul_add, Nat.mul_one]
      _ ≤ 2 ^ s * 2 ^ b := Nat.mul_le_mul_left _ hv
  unfold wset
  rw [Nat.testBit_two_pow_mul_add _ hmid, Nat.testBit_two_pow_mul_add _ hlo, Nat.testBit_or, Nat.testBit_xor, Nat.testBit_and, Nat.testBit_shiftLeft, Nat.testBit_shiftLeft, Nat.testBit_two_pow_sub_one, Nat.testBit_mod_two_pow, Nat.testBit_div_two_pow]
  by_cases h1 : j < s
  · have h2 : j < s + b := by omega
    have h3 : ¬ s ≤ j := by omega
    simp [h1, h2, h3]
  · by_cases h2 : j < s + b
    · have h3 : s ≤ j := by omega
      have h4 : j - s < b := by omega
      simp [h1, h2, h3, h4]
    · have h3 : s ≤ j := by omega
      have h4 : ¬ j - s < b := by omega
      have h5 : v.testBit (j - s) = false := Nat.testBit_lt_two_pow (Nat.lt_of_lt_of_le hv (Nat.pow_le_pow_right (by omega) (by omega)))
      have h6 : s + b + (j - (s + b)) = j := by omega
      simp [h2, h3, h4, h5]
      congr 1
      omega

/-- How many bits the numbers of a word have, the one with the highest bits first; a word out of its numbers. -/
def WS : List Nat := [1, 1, 1, 3, 3, 3, 2, 2, 2, 2, 2, 2, 2, 2, 2, 2, 2, 2, 2, 2, 3, 3]
def encD : List Nat → List Nat → Nat
  | b :: ws, v :: ds => 2 ^ ws.sum * v + encD ws ds
  | _, _ => 0
def okD : List Nat → List Nat → Prop
  | b :: ws, v :: ds => v < 2 ^ b ∧ okD ws ds
  | [], [] => True
  | _, _ => False
theorem encD_lt {ws : List Nat} : ∀ {ds : List Nat}, okD ws ds → encD ws ds < 2 ^ ws.sum := by
  induction ws with
  | nil => intro ds h; cases ds <;> simp_all [encD, okD]
  | cons b ws ih =>
    intro ds h
    cases ds with
    | nil => simp [okD] at h
    | cons v ds =>
      obtain ⟨hv, h⟩ := h
      have := ih h
      simp only [encD, List.sum_cons]
      rw [Nat.pow_add, Nat.mul_comm (2 ^ b)]
      calc 2 ^ ws.sum * v + encD ws ds < 2 ^ ws.sum * v + 2 ^ ws.sum := by omega
        _ = 2 ^ ws.sum * (v + 1) := by rw [Nat.mul_add, Nat.mul_one]
        _ ≤ 2 ^ ws.sum * 2 ^ b := Nat.mul_le_mul_left _ hv
theorem okD_len {ws : List Nat} : ∀ {ds : List Nat}, okD ws ds → ds.length = ws.length := by
  induction ws with
  | nil => intro ds h; cases ds <;> simp_all [okD]
  | cons b ws ih => intro ds h; cases ds with
    | nil => simp [okD] at h
    | cons v ds => simp [ih h.2]
theorem encD_get {ws : List Nat} : ∀ {ds : List Nat} {p b : Nat}, okD ws ds → ws[p]? = some b → ds[p]? = some (wget (encD ws ds) (ws.drop (p + 1)).sum b) := by
  induction ws with
  | nil => intro ds p b h hp; simp at hp
  | cons c ws ih =>
    intro ds p b h hp
    cases ds with
    | nil => simp [okD] at h
    | cons v ds =>
      obtain ⟨hv, h⟩ := h
      have hlt := encD_lt h
      cases p with
      | zero =>
        simp at hp; subst hp
        simp only [List.getElem?_cons_zero, encD, wget, Nat.zero_add, List.drop_succ_cons, List.drop_zero]
        rw [Nat.mul_add_div (Nat.two_pow_pos _), Nat.div_eq_of_lt hlt, Nat.add_zero, Nat.mod_eq_of_lt hv]
      | succ p =>
        simp at hp
        rw [List.getElem?_cons_succ, ih h hp]
        simp only [encD, wget, List.drop_succ_cons]
        congr 1
        have hs : (ws.drop (p + 1)).sum + b ≤ ws.sum := by
          have e : ws = ws.take p ++ (b :: ws.drop (p + 1)) := by
            have := (List.getElem?_eq_some_iff.1 hp)
            obtain ⟨h1, h2⟩ := this
            rw [← h2, ← List.drop_eq_getElem_cons h1, List.take_append_drop]
          have := congrArg List.sum e
          rw [List.sum_append, List.sum_cons] at this
          omega
        obtain ⟨d, hd⟩ := Nat.exists_eq_add_of_le hs
        rw [hd, Nat.pow_add, Nat.pow_add, show 2 ^ (ws.drop (p + 1)).sum * 2 ^ b * 2 ^ d * v = 2 ^ (ws.drop (p + 1)).sum * (2 ^ b * (2 ^ d * v)) by simp [Nat.mul_assoc],
          Nat.mul_add_div (Nat.two_pow_pos _), Nat.mul_add_mod]
theorem encD_set {ws : List Nat} : ∀ {ds : List Nat} {p b v : Nat}, okD ws ds → ws[p]? = some b → v < 2 ^ b → okD ws (ds.set p v) ∧ encD ws (ds.set p v) = wset (encD ws ds) (ws.drop (p + 1)).sum b v := by
  induction ws with
  | nil => intro ds p b v h hp; simp at hp
  | cons c ws ih =>
    intro ds p b v h hp hb
    cases ds with
    | nil => simp [okD] at h
    | cons u ds =>
      obtain ⟨hv, h⟩ := h
      have hlt := encD_lt h
      cases p with
      | zero =>
        simp at hp; subst hp
        refine ⟨⟨hb, h⟩, ?_⟩
        simp only [List.set_cons_zero, encD, wset, Nat.zero_add, List.drop_succ_cons, List.drop_zero]
        have e0 : 2 ^ ws.sum * u + encD ws ds < 2 ^ (ws.sum + c) := by
          have := encD_lt (ws := c :: ws) (ds := u :: ds) ⟨hv, h⟩
          simpa [encD, Nat.add_comm] using this
        rw [Nat.div_eq_of_lt e0, Nat.mul_zero, Nat.zero_add, Nat.mul_add_mod, Nat.mod_eq_of_lt hlt]
      | succ p =>
        simp at hp
        obtain ⟨k1, k2⟩ := ih h hp hb
        refine ⟨⟨hv, k1⟩, ?_⟩
        simp only [List.set_cons_succ, encD, k2, List.drop_succ_cons]
        unfold wset
        have hs : (ws.drop (p + 1)).sum + b ≤ ws.sum := by
          have e : ws = ws.take p ++ (b :: ws.drop (p + 1)) := by
            have := (List.getElem?_eq_some_iff.1 hp)
            obtain ⟨h1, h2⟩ := this
            rw [← h2, ← List.drop_eq_getElem_cons h1, List.take_append_drop]
          have := congrArg List.sum e
          rw [List.sum_append, List.sum_cons] at this
          omega
        obtain ⟨d, hd⟩ := Nat.exists_eq_add_of_le hs
        generalize (ws.drop (p + 1)).sum = s at *
        rw [hd]
        have e1 : (2 ^ (s + b + d) * u + encD ws ds) / 2 ^ (s + b) = 2 ^ d * u + encD ws ds / 2 ^ (s + b) := by
          rw [Nat.pow_add 2 (s + b) d, Nat.mul_assoc, Nat.mul_add_div (Nat.two_pow_pos _)]
        have e2 : (2 ^ (s + b + d) * u + encD ws ds) % 2 ^ s = encD ws ds % 2 ^ s := by
          rw [show s + b + d = s + (b + d) by omega, Nat.pow_add, Nat.mul_assoc, Nat.mul_add_mod]
        rw [e1, e2, Nat.mul_add, ← Nat.mul_assoc, ← Nat.pow_add]
        omega
/-- Two words of the same numbers are one, and the other way round. -/
theorem encD_inj {ws ds es : List Nat} (h : okD ws ds) (k : okD ws es) (e : encD ws ds = encD ws es) : ds = es := by
  apply List.ext_getElem?
  intro p
  rcases Nat.lt_or_ge p ws.length with hp | hp
  · have hb : ws[p]? = some ws[p] := List.getElem?_eq_getElem hp
    rw [encD_get h hb, encD_get k hb, e]
  · rw [List.getElem?_eq_none (by rw [okD_len h]; exact hp), List.getElem?_eq_none (by rw [okD_len k]; exact hp)]

theorem okD_of {ws : List Nat} : ∀ {ds : List Nat}, ds.length = ws.length → (∀ (p b v : Nat), ws[p]? = some b → ds[p]? = some v → v < 2 ^ b) → okD ws ds := by
  induction ws with
  | nil => intro ds h _; cases ds <;> simp_all [okD]
  | cons b ws ih =>
    intro ds h k
    cases ds with
    | nil => simp at h
    | cons v ds => exact ⟨k 0 b v rfl rfl, ih (by simpa using h) fun p b' v' h1 h2 => k (p + 1) b' v' (by simpa using h1) (by simpa using h2)⟩

/-- A word out of a function that tells its numbers. -/
def digs (n : Nat) (f : Nat → Nat) : List Nat := (List.range n).map f
def enc (ws : List Nat) (f : Nat → Nat) : Nat := encD ws (digs ws.length f)
def okF (ws : List Nat) (f : Nat → Nat) : Prop := okD ws (digs ws.length f)
def upd (f : Nat → Nat) (p v : Nat) : Nat → Nat := fun q => if q = p then v else f q
def wid (ws : List Nat) (p : Nat) : Nat := ws.getD p 0
def shf (ws : List Nat) (p : Nat) : Nat := (ws.drop (p + 1)).sum
section
variable {ws : List Nat} {f g : Nat → Nat} {p v : Nat}
theorem digs_set (n : Nat) (f : Nat → Nat) (p v : Nat) : digs n (upd f p v) = (digs n f).set p v := by
  apply List.ext_getElem?
  intro q
  rw [List.getElem?_set]
  by_cases hq : q < n
  · by_cases e : p = q
    · subst e; simp [digs, upd, hq]
    · have e' : q ≠ p := fun h => e h.symm
      simp [digs, upd, hq, e, e']
  · by_cases e : p = q
    · subst e; simp [digs, hq]
    · simp [digs, hq, e]
theorem wid_at (h : p < ws.length) : ws[p]? = some (wid ws p) := by
  unfold wid
  rw [List.getD, List.getElem?_eq_getElem h]
  rfl
theorem enc_get (h : okF ws f) (hp : p < ws.length) : wget (enc ws f) (shf ws p) (wid ws p) = f p := by
  have := encD_get h (wid_at hp)
  rw [show (digs ws.length f)[p]? = some (f p) by simp [digs, hp]] at this
  injection this with this
  exact this.symm
theorem enc_set (h : okF ws f) (hp : p < ws.length) (hv : v < 2 ^ wid ws p) : okF ws (upd f p v) ∧ enc ws (upd f p v) = wset (enc ws f) (shf ws p) (wid ws p) v := by
  unfold okF enc
  rw [digs_set]
  exact encD_set h (wid_at hp) hv
theorem enc_lt (h : okF ws f) : enc ws f < 2 ^ ws.sum := encD_lt h
theorem okF_at (h : okF ws f) (hp : p < ws.length) : f p < 2 ^ wid ws p := by
  rw [← enc_get h hp]
  exact Nat.mod_lt _ (Nat.two_pow_pos _)
theorem okF_of (h : ∀ p, p < ws.length → f p < 2 ^ wid ws p) : okF ws f := by
  refine okD_of (by simp [digs]) fun p b v h1 h2 => ?_
  have hp : p < ws.length := (List.getElem?_eq_some_iff.1 h1).1
  have e1 : b = wid ws p := by rw [wid_at hp] at h1; injection h1 with h1; exact h1.symm
  have e2 : v = f p := by simp [digs, hp] at h2; exact h2.symm
  rw [e1, e2]; exact h p hp
theorem enc_congr (h : ∀ p, p < ws.length → f p = g p) : enc ws f = enc ws g := by
  unfold enc
  congr 1
  apply List.map_congr_left
  intro p hp
  exact h p (by simpa using hp)
theorem okF_congr (h : ∀ p, p < ws.length → f p = g p) (k : okF ws f) : okF ws g := okF_of fun p hp => by rw [← h p hp]; exact okF_at k hp
theorem enc_inj (h : okF ws f) (k : okF ws g) (e : enc ws f = enc ws g) : ∀ p, p < ws.length → f p = g p := by
  intro p hp
  have := encD_inj h k e
  have e2 := congrArg (fun l => l[p]?) this
  simpa [digs, hp] using e2
end
/-- The numbers of the outcomes' words. -/
def WO : List Nat := [2, 2, 2, 2, 2, 2, 2, 2, 2, 2, 2, 2, 7, 1, 1, 1]
end Go.Proofs.Ytaghidaamcnpkab
