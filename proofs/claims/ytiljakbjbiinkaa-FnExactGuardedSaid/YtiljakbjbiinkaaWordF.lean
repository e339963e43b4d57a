/-
  Words by the function that tells their numbers: entry, withEntry, entries and withEntries.
-/
import Derived.KernelRfl
import Derived.Test.YtiljakbjbiinkaaVec
import Derived.Deep.RegionHeld3
import Derived.Laws.BitsLemmas
import Derived.Test.YtiljakbjbiinkaaOrdS
namespace Go.Proofs.Ytiljakbjbiinkaa
set_option linter.unusedVariables false

/-- A number of b bits at s, and a word with another one there. -/
def wget (W s b : Nat) : Nat := W / 2 ^ s % 2 ^ b
def wset (W s b v : Nat) : Nat := 2 ^ (s + b) * (W / 2 ^ (s + b)) + (2 ^ s * v + W % 2 ^ s)
theorem wset_bits (W s b v : Nat) (hv : v < 2 ^ b) : (W ^^^ (W &&& ((2 ^ b - 1) <<< s))) ||| (v <<< s) = wset W s b v := by
  apply Nat.eq_of_testBit_eq
  intro j
  have hlo : W % 2 ^ s < 2 ^ s := Nat.mod_lt _ (Nat.two_pow_pos _)
  have hmid : 2 ^ s * v + W % 2 ^ s < 2 ^ (s + b) := by
    rw [Nat.pow_add]
    calc 2 ^ s * v + W % 2 ^ s < 2 ^ s * v + 2 ^ s := by omega
      _ = 2 ^ s * (v + 1) := by rw [Nat.mul_add, Nat.mul_one]
      _ ≤ 2 ^ s * 2 ^ b := Nat.mul_le_mul_left _ hv
  unfold wset
  rw [Nat.testBit_two_pow_mul_add _ hmid, Nat.testBit_two_pow_mul_add _ hlo, Nat.testBit_or, Nat.testBit_xor, Nat.testBit_and, Nat.testBit_shiftLeft, Nat.testBit_shiftLeft, Nat.testBit_two_pow_sub_one, Nat.testBit_mod_two_pow, Nat.testBit_div_two_pow]
  by_cases h1 : j < s
  · have h2 : j < s + b := by omega
    have h3 : ¬ s ≤ j := by omega
    simp [h1, h2, h3]
  · by_cases h2 : j < s + b
    · have h3 : s ≤ j := by omega
      have h4 : j - s < b := by omega
      simp [h1, h2, h3, h4]
    · have h3 : s ≤ j := by omega
      have h4 : ¬ j - s < b := by omega
      have h5 : v.testBit (j - s) = false := Nat.testBit_lt_two_pow (Nat.lt_of_lt_of_le hv (Nat.pow_le_pow_right (by omega) (by omega)))
      have h6 : s + b + (j - (s + b)) = j := by omega
      simp [h2, h3, h4, h5]
      congr 1
      omega

/-- How many bits the numbers of a word have, the one with the highest bits first; a word out of its numbers. -/
def WS : List Nat := [1, 1, 1, 3, 3, 3, 2, 2, 2, 2, 2, 2, 2, 2, 2, 2, 2, 2, 2, 2, 3, 3]
def encD : List Nat → List Nat → Nat
  | b :: ws, v :: ds => 2 ^ ws.sum * v + encD ws ds
  | _, _ => 0
def okD : List Nat → List Nat → Prop
  | b :: ws, v :: ds => v < 2 ^ b ∧ okD ws ds
  | [], [] => True
  | _, _ => False
theorem encD_lt {ws : List Nat} : ∀ {ds : List Nat}, okD ws ds → encD ws ds < 2 ^ ws.sum := by
  induction ws with
  | nil => intro ds h; cases ds <;> simp_all [encD, okD]
  | cons b ws ih =>
    intro ds h
    cases ds with
    | nil => simp [okD] at h
    | cons v ds =>
      obtain ⟨hv, h⟩ := h
      have := ih h
      simp only [encD, List.sum_cons]
      rw [Nat.pow_add, Nat.mul_comm (2 ^ b)]
      calc 2 ^ ws.sum * v + encD ws ds < 2 ^ ws.sum * v + 2 ^ ws.sum := by omega
        _ = 2 ^ ws.sum * (v + 1) := by rw [Nat.mul_add, Nat.mul_one]
        _ ≤ 2 ^ ws.sum * 2 ^ b := Nat.mul_le_mul_left _ hv
theorem okD_len {ws : List Nat} : ∀ {ds : List Nat}, okD ws ds → ds.length = ws.length := by
  induction ws with
  | nil => intro ds h; cases ds <;> simp_all [okD]
  | cons b ws ih => intro ds h; cases ds with
    | nil => simp [okD] at h
    | cons v ds => simp [ih h.2]
theorem encD_get {ws : List Nat} : ∀ {ds : List Nat} {p b : Nat}, okD ws ds → ws[p]? = some b → ds[p]? = some (wget (encD ws ds) (ws.drop (p + 1)).sum b) := by
  induction ws with
  | nil => intro ds p b h hp; simp at hp
  | cons c ws ih =>
    intro ds p b h hp
    cases ds with
    | nil => simp [okD] at h
    | cons v ds =>
      obtain ⟨hv, h⟩ := h
      have hlt := encD_lt h
      cases p with
      | zero =>
        simp at hp; subst hp
        simp only [List.getElem?_cons_zero, encD, wget, Nat.zero_add, List.drop_succ_cons, List.drop_zero]
        rw [Nat.mul_add_div (Nat.two_pow_pos _), Nat.div_eq_of_lt hlt, Nat.add_zero, Nat.mod_eq_of_lt hv]
      | succ p =>
        simp at hp
        rw [List.getElem?_cons_succ, ih h hp]
        simp only [encD, wget, List.drop_succ_cons]
        congr 1
        have hs : (ws.drop (p + 1)).sum + b ≤ ws.sum := by
          have e : ws = ws.take p ++ (b :: ws.drop (p + 1)) := by
            have := (List.getElem?_eq_some_iff.1 hp)
            obtain ⟨h1, h2⟩ := this
            rw [← h2, ← List.drop_eq_getElem_cons h1, List.take_append_drop]
          have := congrArg List.sum e
          rw [List.sum_append, List.sum_cons] at this
          omega
        obtain ⟨d, hd⟩ := Nat.exists_eq_add_of_le hs
        rw [hd, Nat.pow_add, Nat.pow_add, show 2 ^ (ws.drop (p + 1)).sum * 2 ^ b * 2 ^ d * v = 2 ^ (ws.drop (p + 1)).sum * (2 ^ b * (2 ^ d * v)) by simp [Nat.mul_assoc],
          Nat.mul_add_div (Nat.two_pow_pos _), Nat.mul_add_mod]
theorem encD_set {ws : List Nat} : ∀ {ds : List Nat} {p b v : Nat}, okD ws ds → ws[p]? = some b → v < 2 ^ b → okD ws (ds.set p v) ∧ encD ws (ds.set p v) = wset (encD ws ds) (ws.drop (p + 1)).sum b v := by
  induction ws with
  | nil => intro ds p b v h hp; simp at hp
  | cons c ws ih =>
    intro ds p b v h hp hb
    cases ds with
    | nil => simp [okD] at h
    | cons u ds =>
      obtain ⟨hv, h⟩ := h
      have hlt := encD_lt h
      cases p with
      | zero =>
        simp at hp; subst hp
        refine ⟨⟨hb, h⟩, ?_⟩
        simp only [List.set_cons_zero, encD, wset, Nat.zero_add, List.drop_succ_cons, List.drop_zero]
        have e0 : 2 ^ ws.sum * u + encD ws ds < 2 ^ (ws.sum + c) := by
          have := encD_lt (ws := c :: ws) (ds := u :: ds) ⟨hv, h⟩
          simpa [encD, Nat.add_comm] using this
        rw [Nat.div_eq_of_lt e0, Nat.mul_zero, Nat.zero_add, Nat.mul_add_mod, Nat.mod_eq_of_lt hlt]
      | succ p =>
        simp at hp
        obtain ⟨k1, k2⟩ := ih h hp hb
        refine ⟨⟨hv, k1⟩, ?_⟩
        simp only [List.set_cons_succ, encD, k2, List.drop_succ_cons]
        unfold wset
        have hs : (ws.drop (p + 1)).sum + b ≤ ws.sum := by
          have e : ws = ws.take p ++ (b :: ws.drop (p + 1)) := by
            have := (List.getElem?_eq_some_iff.1 hp)
            obtain ⟨h1, h2⟩ := this
            rw [← h2, ← List.drop_eq_getElem_cons h1, List.take_append_drop]
          have := congrArg List.sum e
          rw [List.sum_append, List.sum_cons] at this
          omega
        obtain ⟨d, hd⟩ := Nat.exists_eq_add_of_le hs
        generalize (ws.drop (p + 1)).sum = s at *
        rw [hd]
        have e1 : (2 ^ (s + b + d) * u + encD ws ds) / 2 ^ (s + b) = 2 ^ d * u + encD ws ds / 2 ^ (s + b) := by
          rw [Nat.pow_add 2 (s + b) d, Nat.mul_assoc, Nat.mul_add_div (Nat.two_pow_pos _)]
        have e2 : (2 ^ (s + b + d) * u + encD ws ds) % 2 ^ s = encD ws ds % 2 ^ s := by
          rw [show s + b + d = s + (b + d) by omega, Nat.pow_add, Nat.mul_assoc, Nat.mul_add_mod]
        rw [e1, e2, Nat.mul_add, ← Nat.mul_assoc, ← Nat.pow_add]
        omega
/-- Two words of the same numbers are one, and the other way round. -/
theorem encD_inj {ws ds es : List Nat} (h : okD ws ds) (k : okD ws es) (e : encD ws ds = encD ws es) : ds = es := by
  apply List.ext_getElem?
  intro p
  rcases Nat.lt_or_ge p ws.length with hp | hp
  · have hb : ws[p]? = some ws[p] := List.getElem?_eq_getElem hp
    rw [encD_get h hb, encD_get k hb, e]
  · rw [List.getElem?_eq_none (by rw [okD_len h]; exact hp), List.getElem?_eq_none (by rw [okD_len k]; exact hp)]

theorem okD_of {ws : List Nat} : ∀ {ds : List Nat}, ds.length = ws.length → (∀ (p b v : Nat), ws[p]? = some b → ds[p]? = some v → v < 2 ^ b) → okD ws ds := by
  induction ws with
  | nil => intro ds h _; cases ds <;> simp_all [okD]
  | cons b ws ih =>
    intro ds h k
    cases ds with
    | nil => simp at h
    | cons v ds => exact ⟨k 0 b v rfl rfl, ih (by simpa using h) fun p b' v' h1 h2 => k (p + 1) b' v' (by simpa using h1) (by simpa using h2)⟩

/-- A word out of a function that tells its numbers. -/
def digs (n : Nat) (f : Nat → Nat) : List Nat := (List.range n).map f
def enc (ws : List Nat) (f : Nat → Nat) : Nat := encD ws (digs ws.length f)
def okF (ws : List Nat) (f : Nat → Nat) : Prop := okD ws (digs ws.length f)
def upd (f : Nat → Nat) (p v : Nat) : Nat → Nat := fun q => if q = p then v else f q
def wid (ws : List Nat) (p : Nat) : Nat := ws.getD p 0
def shf (ws : List Nat) (p : Nat) : Nat := (ws.drop (p + 1)).sum
section
variable {ws : List Nat} {f g : Nat → Nat} {p v : Nat}
theorem digs_set (n : Nat) (f : Nat → Nat) (p v : Nat) : digs n (upd f p v) = (digs n f).set p v := by
  apply List.ext_getElem?
  intro q
  rw [List.getElem?_set]
  by_cases hq : q < n
  · by_cases e : p = q
    · subst e; simp [digs, upd, hq]
    · have e' : q ≠ p := fun h => e h.symm
      simp [digs, upd, hq, e, e']
  · by_cases e : p = q
    · subst e; simp [digs, hq]
    · simp [digs, hq, e]
theorem wid_at (h : p < ws.length) : ws[p]? = some (wid ws p) := by
  unfold wid
  rw [List.getD, List.getElem?_eq_getElem h]
  rfl
theorem enc_get (h : okF ws f) (hp : p < ws.length) : wget (enc ws f) (shf ws p) (wid ws p) = f p := by
  have := encD_get h (wid_at hp)
  rw [show (digs ws.length f)[p]? = some (f p) by simp [digs, hp]] at this
  injection this with this
  exact this.symm
theorem enc_set (h : okF ws f) (hp : p < ws.length) (hv : v < 2 ^ wid ws p) : okF ws (upd f p v) ∧ enc ws (upd f p v) = wset (enc ws f) (shf ws p) (wid ws p) v := by
  unfold okF enc
  rw [digs_set]
  exact encD_set h (wid_at hp) hv
theorem enc_lt (h : okF ws f) : enc ws f < 2 ^ ws.sum := encD_lt h
theorem okF_at (h : okF ws f) (hp : p < ws.length) : f p < 2 ^ wid ws p := by
  rw [← enc_get h hp]
  exact Nat.mod_lt _ (Nat.two_pow_pos _)
theorem okF_of (h : ∀ p, p < ws.length → f p < 2 ^ wid ws p) : okF ws f := by
  refine okD_of (by simp [digs]) fun p b v h1 h2 => ?_
  have hp : p < ws.length := (List.getElem?_eq_some_iff.1 h1).1
  have e1 : b = wid ws p := by rw [wid_at hp] at h1; injection h1 with h1; exact h1.symm
  have e2 : v = f p := by simp [digs, hp] at h2; exact h2.symm
  rw [e1, e2]; exact h p hp
theorem enc_congr (h : ∀ p, p < ws.length → f p = g p) : enc ws f = enc ws g := by
  unfold enc
  congr 1
  apply List.map_congr_left
  intro p hp
  exact h p (by simpa using hp)
theorem okF_congr (h : ∀ p, p < ws.length → f p = g p) (k : okF ws f) : okF ws g := okF_of fun p hp => by rw [← h p hp]; exact okF_at k hp
theorem enc_inj (h : okF ws f) (k : okF ws g) (e : enc ws f = enc ws g) : ∀ p, p < ws.length → f p = g p := by
  intro p hp
  have := encD_inj h k e
  have e2 := congrArg (fun l => l[p]?) this
  simpa [digs, hp] using e2
end
/-- The numbers of the outcomes' words. -/
def WO : List Nat := [2, 2, 2, 2, 2, 2, 2, 2, 2, 2, 2, 2, 7, 1, 1, 1]
end Go.Proofs.Ytiljakbjbiinkaa
namespace Go.Proofs.Ytiljakbjbiinkaa
open Go.RowKit Pl
set_option maxHeartbeats 1000000
set_option maxRecDepth 100000
set_option linter.unusedVariables false

/-- Where the fields of a word lie. -/
def fF (j : Nat) : Nat := if j = 0 then 34 else if j = 1 then 16 else if j = 2 then 10 else if j = 3 then 6 else if j = 5 then 43 else if j = 9 then 39 else if j = 10 then 41 else 0
def fC (j : Nat) : Nat := if j = 1 then 9 else if j = 3 then 2 else if j = 4 then 2 else if j = 9 then 1 else if j = 10 then 1 else 3
def fB (j : Nat) : Nat := if j = 0 then 3 else if j = 1 then 2 else if j = 2 then 2 else if j = 3 then 2 else if j = 4 then 3 else if j = 7 then 8 else if j = 8 then 13 else if j = 9 then 2 else 1
def fL (j : Nat) : Int := if j = 3 then -1 else if j = 4 then -1 else 0
def fS (j i : Nat) : Nat := fF j + (fC j - 1 - i) * fB j

theorem wrap64_small {x : Int} (h0 : -9223372036854775808 ≤ x) (h1 : x < 9223372036854775808) : IntKind.i64.wrap x = x := by rw [IntKind.wrap_i64]; omega
theorem wrapu_small {x : Int} (h0 : 0 ≤ x) (h1 : x < 18446744073709551616) : IntKind.u64.wrap x = x := by
  simp only [IntKind.wrap, IntKind.bits, IntKind.signed]
  simp
  omega
theorem ofInt_nat {a : Nat} (h : a < 18446744073709551616) : (BitVec.ofInt 64 (a : Int)).toNat = a := by
  rw [BitVec.ofInt_natCast, BitVec.toNat_ofNat]; exact Nat.mod_eq_of_lt (by omega)
theorem and_u64 {a b : Nat} (ha : a < 18446744073709551616) (hb : b < 18446744073709551616) : bits .and .u64 (a : Int) (b : Int) = ((a &&& b : Nat) : Int) := by
  show IntKind.u64.wrap ((BitVec.ofInt 64 (a : Int) &&& BitVec.ofInt 64 (b : Int)).toNat : Int) = _
  rw [BitVec.toNat_and, ofInt_nat ha, ofInt_nat hb]
  have : a &&& b ≤ a := Nat.and_le_left
  exact wrapu_small (by omega) (by omega)
theorem or_u64 {a b : Nat} (ha : a < 18446744073709551616) (hb : b < 18446744073709551616) : bits .or .u64 (a : Int) (b : Int) = ((a ||| b : Nat) : Int) := by
  show IntKind.u64.wrap ((BitVec.ofInt 64 (a : Int) ||| BitVec.ofInt 64 (b : Int)).toNat : Int) = _
  rw [BitVec.toNat_or, ofInt_nat ha, ofInt_nat hb]
  have : a ||| b < 2 ^ 64 := Nat.or_lt_two_pow (by omega) (by omega)
  exact wrapu_small (by omega) (by omega)
theorem andNot_u64 {a b : Nat} (ha : a < 18446744073709551616) (hb : b < 18446744073709551616) : bits .andNot .u64 (a : Int) (b : Int) = ((a ^^^ (a &&& b) : Nat) : Int) := by
  have key : (BitVec.ofInt 64 (a : Int) &&& ~~~ BitVec.ofInt 64 (b : Int)) = BitVec.ofInt 64 (a : Int) ^^^ (BitVec.ofInt 64 (a : Int) &&& BitVec.ofInt 64 (b : Int)) := by
    ext i hi
    simp only [BitVec.getElem_and, BitVec.getElem_not, BitVec.getElem_xor]
    cases (BitVec.ofInt 64 (a : Int))[i] <;> cases (BitVec.ofInt 64 (b : Int))[i] <;> rfl
  show IntKind.u64.wrap ((BitVec.ofInt 64 (a : Int) &&& ~~~ BitVec.ofInt 64 (b : Int)).toNat : Int) = _
  rw [key, BitVec.toNat_xor, BitVec.toNat_and, ofInt_nat ha, ofInt_nat hb]
  have h1 : a &&& b < 2 ^ 64 := Nat.lt_of_le_of_lt Nat.and_le_left (by omega)
  have : a ^^^ (a &&& b) < 2 ^ 64 := Nat.xor_lt_two_pow (by omega) h1
  exact wrapu_small (by omega) (by omega)
theorem div_pow (W : Nat) (s : Nat) (x : Int) (hx : x = (s : Int)) : (W : Int) / 2 ^ x.toNat = ((W / 2 ^ s : Nat) : Int) := by
  subst hx; simp
/-- What entry reckons. -/
theorem entry_num (W s b : Nat) (x : Int) (hx : x = (s : Int)) (hW : W < 18446744073709551616) (hb : b ≤ 13) : bits .and .u64 ((W : Int) / 2 ^ x.toNat) ((2 ^ b - 1 : Nat) : Int) = ((wget W s b : Nat) : Int) := by
  rw [div_pow W s x hx, and_u64 (Nat.lt_of_le_of_lt (Nat.div_le_self _ _) hW) (by have : 2 ^ b ≤ 2 ^ 13 := Nat.pow_le_pow_right (by omega) hb; omega), Nat.and_two_pow_sub_one_eq_mod]
  rfl
theorem wget_lt8 (W s b : Nat) (hb : b ≤ 13) : wget W s b < 8192 := by
  have h1 : wget W s b < 2 ^ b := Nat.mod_lt _ (Nat.two_pow_pos _)
  have h2 : 2 ^ b ≤ 2 ^ 13 := Nat.pow_le_pow_right (by omega) hb
  omega
theorem wget_lt (W s b : Nat) (hb : b ≤ 3) : wget W s b < 8 := by
  have h1 : wget W s b < 2 ^ b := Nat.mod_lt _ (Nat.two_pow_pos _)
  have h2 : 2 ^ b ≤ 2 ^ 3 := Nat.pow_le_pow_right (by omega) hb
  omega
/-- What withEntry reckons. -/
theorem shl_num (v s : Nat) (x : Int) (hx : x = (s : Int)) (hv : v < 8192) (hs : s ≤ 45) : IntKind.u64.wrap ((v : Int) * 2 ^ min x.toNat 64) = ((v <<< s : Nat) : Int) := by
  subst hx
  have e : min (s : Int).toNat 64 = s := by rw [Int.toNat_natCast]; omega
  have e2 : v <<< s = v * 2 ^ s := Nat.shiftLeft_eq v s
  have h2 : 2 ^ s ≤ 2 ^ 45 := Nat.pow_le_pow_right (by omega) hs
  have h3 : v * 2 ^ s ≤ 8191 * 2 ^ 45 := Nat.mul_le_mul (by omega) h2
  have h4 : ((v * 2 ^ s : Nat) : Int) = (v : Int) * 2 ^ s := by simp
  rw [e, e2, ← h4]
  exact wrapu_small (by omega) (by omega)
theorem shl_num' (v s : Nat) (hv : v < 8192) (hs : s ≤ 45) : IntKind.u64.wrap ((v : Int) * 2 ^ s) = ((v <<< s : Nat) : Int) := by
  have := shl_num v s s rfl hv hs
  rwa [show min (s : Int).toNat 64 = s by rw [Int.toNat_natCast]; omega] at this
theorem shl_lt (v s : Nat) (hv : v < 8192) (hs : s ≤ 45) : v <<< s < 18446744073709551616 := by
  rw [Nat.shiftLeft_eq]
  have h2 : 2 ^ s ≤ 2 ^ 45 := Nat.pow_le_pow_right (by omega) hs
  have h3 : v * 2 ^ s ≤ 8191 * 2 ^ 45 := Nat.mul_le_mul (by omega) h2
  omega
theorem with_num (W s b v : Nat) (hW : W < 18446744073709551616) (hb : b ≤ 13) (hs : s ≤ 45) (hv : v < 2 ^ b) :
    bits .or .u64 (bits .andNot .u64 (W : Int) (((2 ^ b - 1) <<< s : Nat) : Int)) ((v <<< s : Nat) : Int) = ((wset W s b v : Nat) : Int) := by
  have h2 : 2 ^ b ≤ 2 ^ 13 := Nat.pow_le_pow_right (by omega) hb
  have hm := shl_lt (2 ^ b - 1) s (by omega) hs
  have hvs := shl_lt v s (by omega) hs
  rw [andNot_u64 hW hm]
  have h1 : W &&& ((2 ^ b - 1) <<< s) < 2 ^ 64 := Nat.lt_of_le_of_lt Nat.and_le_left (by omega)
  have h3 : W ^^^ (W &&& ((2 ^ b - 1) <<< s)) < 2 ^ 64 := Nat.xor_lt_two_pow (by omega) h1
  rw [or_u64 (by omega) hvs, wset_bits W s b v hv]
theorem with_all (W s b v : Nat) (M : Int) (hM : M = ((2 ^ b - 1 : Nat) : Int)) (hW : W < 18446744073709551616) (hb : b ≤ 13) (hs : s ≤ 45) (hv : v < 2 ^ b) :
    bits .or .u64 (bits .andNot .u64 (W : Int) (IntKind.u64.wrap (M * 2 ^ s))) (IntKind.u64.wrap ((v : Int) * 2 ^ s)) = ((wset W s b v : Nat) : Int) := by
  have h2 : 2 ^ b ≤ 2 ^ 13 := Nat.pow_le_pow_right (by omega) hb
  rw [hM, shl_num' _ s (by omega) hs, shl_num' v s (by omega) hs, with_num W s b v hW hb hs hv]
theorem wset_lt (W s b v : Nat) (hW : W < 18446744073709551616) (hb : b ≤ 13) (hs : s ≤ 45) (hv : v < 2 ^ b) : wset W s b v < 18446744073709551616 := by
  have h2 : 2 ^ b ≤ 2 ^ 13 := Nat.pow_le_pow_right (by omega) hb
  have hm := shl_lt (2 ^ b - 1) s (by omega) hs
  have hvs := shl_lt v s (by omega) hs
  have h1 : W &&& ((2 ^ b - 1) <<< s) < 2 ^ 64 := Nat.lt_of_le_of_lt Nat.and_le_left (by omega)
  have h3 : W ^^^ (W &&& ((2 ^ b - 1) <<< s)) < 2 ^ 64 := Nat.xor_lt_two_pow (by omega) h1
  have h4 : (W ^^^ (W &&& ((2 ^ b - 1) <<< s))) ||| (v <<< s) < 2 ^ 64 := Nat.or_lt_two_pow h3 (by omega)
  rw [wset_bits W s b v hv] at h4
  omega
/-- The numbers of a field. -/
def FldV (j : Nat) : Value := .agg #[.int .i64 (fF j), .int .i64 (fC j), .int .i64 (fB j), .int .i64 (fL j)]

theorem fieldOf_0 (w : World) : Calls Try.prog 181 #[.int .i64 0] w fun e w' => e = .returned (.agg #[.int .i64 34, .int .i64 3, .int .i64 3, .int .i64 (0)]) ∧ Below w.heap.size w w' := by
  go_enter Try.func181, Try.ntmps181
  go_wp2
  go_returns
  exact ⟨rfl, by go_grown⟩
theorem shiftOf_0 (i : Nat) (w : World) (hi : i < 3) (r : Int) (hr : Hid ((34 : Int) + (3 - 1 - (i : Int)) * 3 = r)) : Calls Try.prog 182 #[.agg #[.int .i64 34, .int .i64 3, .int .i64 3, .int .i64 (0)], .int .i64 i] w fun e w' => e = .returned (.int .i64 r) ∧ Below w.heap.size w w' := by
  go_enter Try.func182, Try.ntmps182
  go_wp2
  go_ret
  refine ⟨?_, by go_grown⟩
  rw [← hr.out]
  simp
  try omega
theorem maskOf_0 (w : World) : Calls Try.prog 183 #[.agg #[.int .i64 34, .int .i64 3, .int .i64 3, .int .i64 (0)]] w fun e w' => e = .returned (.int .u64 7) ∧ Below w.heap.size w w' := by
  go_enter Try.func183, Try.ntmps183
  go_wp2
  go_ret
  exact ⟨by simp, by go_grown⟩
theorem fieldOf_1 (w : World) : Calls Try.prog 181 #[.int .i64 1] w fun e w' => e = .returned (.agg #[.int .i64 16, .int .i64 9, .int .i64 2, .int .i64 (0)]) ∧ Below w.heap.size w w' := by
  go_enter Try.func181, Try.ntmps181
  go_wp2
  go_returns
  exact ⟨rfl, by go_grown⟩
theorem shiftOf_1 (i : Nat) (w : World) (hi : i < 9) (r : Int) (hr : Hid ((16 : Int) + (9 - 1 - (i : Int)) * 2 = r)) : Calls Try.prog 182 #[.agg #[.int .i64 16, .int .i64 9, .int .i64 2, .int .i64 (0)], .int .i64 i] w fun e w' => e = .returned (.int .i64 r) ∧ Below w.heap.size w w' := by
  go_enter Try.func182, Try.ntmps182
  go_wp2
  go_ret
  refine ⟨?_, by go_grown⟩
  rw [← hr.out]
  simp
  try omega
theorem maskOf_1 (w : World) : Calls Try.prog 183 #[.agg #[.int .i64 16, .int .i64 9, .int .i64 2, .int .i64 (0)]] w fun e w' => e = .returned (.int .u64 3) ∧ Below w.heap.size w w' := by
  go_enter Try.func183, Try.ntmps183
  go_wp2
  go_ret
  exact ⟨by simp, by go_grown⟩
theorem fieldOf_2 (w : World) : Calls Try.prog 181 #[.int .i64 2] w fun e w' => e = .returned (.agg #[.int .i64 10, .int .i64 3, .int .i64 2, .int .i64 (0)]) ∧ Below w.heap.size w w' := by
  go_enter Try.func181, Try.ntmps181
  go_wp2
  go_returns
  exact ⟨rfl, by go_grown⟩
theorem shiftOf_2 (i : Nat) (w : World) (hi : i < 3) (r : Int) (hr : Hid ((10 : Int) + (3 - 1 - (i : Int)) * 2 = r)) : Calls Try.prog 182 #[.agg #[.int .i64 10, .int .i64 3, .int .i64 2, .int .i64 (0)], .int .i64 i] w fun e w' => e = .returned (.int .i64 r) ∧ Below w.heap.size w w' := by
  go_enter Try.func182, Try.ntmps182
  go_wp2
  go_ret
  refine ⟨?_, by go_grown⟩
  rw [← hr.out]
  simp
  try omega
theorem maskOf_2 (w : World) : Calls Try.prog 183 #[.agg #[.int .i64 10, .int .i64 3, .int .i64 2, .int .i64 (0)]] w fun e w' => e = .returned (.int .u64 3) ∧ Below w.heap.size w w' := by
  go_enter Try.func183, Try.ntmps183
  go_wp2
  go_ret
  exact ⟨by simp, by go_grown⟩
theorem fieldOf_3 (w : World) : Calls Try.prog 181 #[.int .i64 3] w fun e w' => e = .returned (.agg #[.int .i64 6, .int .i64 2, .int .i64 2, .int .i64 (-1)]) ∧ Below w.heap.size w w' := by
  go_enter Try.func181, Try.ntmps181
  go_wp2
  go_returns
  exact ⟨rfl, by go_grown⟩
theorem shiftOf_3 (i : Nat) (w : World) (hi : i < 2) (r : Int) (hr : Hid ((6 : Int) + (2 - 1 - (i : Int)) * 2 = r)) : Calls Try.prog 182 #[.agg #[.int .i64 6, .int .i64 2, .int .i64 2, .int .i64 (-1)], .int .i64 i] w fun e w' => e = .returned (.int .i64 r) ∧ Below w.heap.size w w' := by
  go_enter Try.func182, Try.ntmps182
  go_wp2
  go_ret
  refine ⟨?_, by go_grown⟩
  rw [← hr.out]
  simp
  try omega
theorem maskOf_3 (w : World) : Calls Try.prog 183 #[.agg #[.int .i64 6, .int .i64 2, .int .i64 2, .int .i64 (-1)]] w fun e w' => e = .returned (.int .u64 3) ∧ Below w.heap.size w w' := by
  go_enter Try.func183, Try.ntmps183
  go_wp2
  go_ret
  exact ⟨by simp, by go_grown⟩
theorem fieldOf_4 (w : World) : Calls Try.prog 181 #[.int .i64 4] w fun e w' => e = .returned (.agg #[.int .i64 0, .int .i64 2, .int .i64 3, .int .i64 (-1)]) ∧ Below w.heap.size w w' := by
  go_enter Try.func181, Try.ntmps181
  go_wp2
  go_returns
  exact ⟨rfl, by go_grown⟩
theorem shiftOf_4 (i : Nat) (w : World) (hi : i < 2) (r : Int) (hr : Hid ((0 : Int) + (2 - 1 - (i : Int)) * 3 = r)) : Calls Try.prog 182 #[.agg #[.int .i64 0, .int .i64 2, .int .i64 3, .int .i64 (-1)], .int .i64 i] w fun e w' => e = .returned (.int .i64 r) ∧ Below w.heap.size w w' := by
  go_enter Try.func182, Try.ntmps182
  go_wp2
  go_ret
  refine ⟨?_, by go_grown⟩
  rw [← hr.out]
  simp
  try omega
theorem maskOf_4 (w : World) : Calls Try.prog 183 #[.agg #[.int .i64 0, .int .i64 2, .int .i64 3, .int .i64 (-1)]] w fun e w' => e = .returned (.int .u64 7) ∧ Below w.heap.size w w' := by
  go_enter Try.func183, Try.ntmps183
  go_wp2
  go_ret
  exact ⟨by simp, by go_grown⟩
theorem fieldOf_5 (w : World) : Calls Try.prog 181 #[.int .i64 5] w fun e w' => e = .returned (.agg #[.int .i64 43, .int .i64 3, .int .i64 1, .int .i64 (0)]) ∧ Below w.heap.size w w' := by
  go_enter Try.func181, Try.ntmps181
  go_wp2
  go_returns
  exact ⟨rfl, by go_grown⟩
theorem shiftOf_5 (i : Nat) (w : World) (hi : i < 3) (r : Int) (hr : Hid ((43 : Int) + (3 - 1 - (i : Int)) * 1 = r)) : Calls Try.prog 182 #[.agg #[.int .i64 43, .int .i64 3, .int .i64 1, .int .i64 (0)], .int .i64 i] w fun e w' => e = .returned (.int .i64 r) ∧ Below w.heap.size w w' := by
  go_enter Try.func182, Try.ntmps182
  go_wp2
  go_ret
  refine ⟨?_, by go_grown⟩
  rw [← hr.out]
  simp
  try omega
theorem maskOf_5 (w : World) : Calls Try.prog 183 #[.agg #[.int .i64 43, .int .i64 3, .int .i64 1, .int .i64 (0)]] w fun e w' => e = .returned (.int .u64 1) ∧ Below w.heap.size w w' := by
  go_enter Try.func183, Try.ntmps183
  go_wp2
  go_ret
  exact ⟨by simp, by go_grown⟩
theorem fieldOf_6 (w : World) : Calls Try.prog 181 #[.int .i64 6] w fun e w' => e = .returned (.agg #[.int .i64 0, .int .i64 3, .int .i64 1, .int .i64 (0)]) ∧ Below w.heap.size w w' := by
  go_enter Try.func181, Try.ntmps181
  go_wp2
  go_returns
  exact ⟨rfl, by go_grown⟩
theorem shiftOf_6 (i : Nat) (w : World) (hi : i < 3) (r : Int) (hr : Hid ((0 : Int) + (3 - 1 - (i : Int)) * 1 = r)) : Calls Try.prog 182 #[.agg #[.int .i64 0, .int .i64 3, .int .i64 1, .int .i64 (0)], .int .i64 i] w fun e w' => e = .returned (.int .i64 r) ∧ Below w.heap.size w w' := by
  go_enter Try.func182, Try.ntmps182
  go_wp2
  go_ret
  refine ⟨?_, by go_grown⟩
  rw [← hr.out]
  simp
  try omega
theorem maskOf_6 (w : World) : Calls Try.prog 183 #[.agg #[.int .i64 0, .int .i64 3, .int .i64 1, .int .i64 (0)]] w fun e w' => e = .returned (.int .u64 1) ∧ Below w.heap.size w w' := by
  go_enter Try.func183, Try.ntmps183
  go_wp2
  go_ret
  exact ⟨by simp, by go_grown⟩
theorem fieldOf_7 (w : World) : Calls Try.prog 181 #[.int .i64 7] w fun e w' => e = .returned (.agg #[.int .i64 0, .int .i64 3, .int .i64 8, .int .i64 (0)]) ∧ Below w.heap.size w w' := by
  go_enter Try.func181, Try.ntmps181
  go_wp2
  go_returns
  exact ⟨rfl, by go_grown⟩
theorem shiftOf_7 (i : Nat) (w : World) (hi : i < 3) (r : Int) (hr : Hid ((0 : Int) + (3 - 1 - (i : Int)) * 8 = r)) : Calls Try.prog 182 #[.agg #[.int .i64 0, .int .i64 3, .int .i64 8, .int .i64 (0)], .int .i64 i] w fun e w' => e = .returned (.int .i64 r) ∧ Below w.heap.size w w' := by
  go_enter Try.func182, Try.ntmps182
  go_wp2
  go_ret
  refine ⟨?_, by go_grown⟩
  rw [← hr.out]
  simp
  try omega
theorem maskOf_7 (w : World) : Calls Try.prog 183 #[.agg #[.int .i64 0, .int .i64 3, .int .i64 8, .int .i64 (0)]] w fun e w' => e = .returned (.int .u64 255) ∧ Below w.heap.size w w' := by
  go_enter Try.func183, Try.ntmps183
  go_wp2
  go_ret
  exact ⟨by simp, by go_grown⟩
theorem fieldOf_8 (w : World) : Calls Try.prog 181 #[.int .i64 8] w fun e w' => e = .returned (.agg #[.int .i64 0, .int .i64 3, .int .i64 13, .int .i64 (0)]) ∧ Below w.heap.size w w' := by
  go_enter Try.func181, Try.ntmps181
  go_wp2
  go_returns
  exact ⟨rfl, by go_grown⟩
theorem shiftOf_8 (i : Nat) (w : World) (hi : i < 3) (r : Int) (hr : Hid ((0 : Int) + (3 - 1 - (i : Int)) * 13 = r)) : Calls Try.prog 182 #[.agg #[.int .i64 0, .int .i64 3, .int .i64 13, .int .i64 (0)], .int .i64 i] w fun e w' => e = .returned (.int .i64 r) ∧ Below w.heap.size w w' := by
  go_enter Try.func182, Try.ntmps182
  go_wp2
  go_ret
  refine ⟨?_, by go_grown⟩
  rw [← hr.out]
  simp
  try omega
theorem maskOf_8 (w : World) : Calls Try.prog 183 #[.agg #[.int .i64 0, .int .i64 3, .int .i64 13, .int .i64 (0)]] w fun e w' => e = .returned (.int .u64 8191) ∧ Below w.heap.size w w' := by
  go_enter Try.func183, Try.ntmps183
  go_wp2
  go_ret
  exact ⟨by simp, by go_grown⟩
theorem fieldOf_9 (w : World) : Calls Try.prog 181 #[.int .i64 9] w fun e w' => e = .returned (.agg #[.int .i64 39, .int .i64 1, .int .i64 2, .int .i64 (0)]) ∧ Below w.heap.size w w' := by
  go_enter Try.func181, Try.ntmps181
  go_wp2
  go_returns
  exact ⟨rfl, by go_grown⟩
theorem shiftOf_9 (i : Nat) (w : World) (hi : i < 1) (r : Int) (hr : Hid ((39 : Int) + (1 - 1 - (i : Int)) * 2 = r)) : Calls Try.prog 182 #[.agg #[.int .i64 39, .int .i64 1, .int .i64 2, .int .i64 (0)], .int .i64 i] w fun e w' => e = .returned (.int .i64 r) ∧ Below w.heap.size w w' := by
  go_enter Try.func182, Try.ntmps182
  go_wp2
  go_ret
  refine ⟨?_, by go_grown⟩
  rw [← hr.out]
  simp
  try omega
theorem maskOf_9 (w : World) : Calls Try.prog 183 #[.agg #[.int .i64 39, .int .i64 1, .int .i64 2, .int .i64 (0)]] w fun e w' => e = .returned (.int .u64 3) ∧ Below w.heap.size w w' := by
  go_enter Try.func183, Try.ntmps183
  go_wp2
  go_ret
  exact ⟨by simp, by go_grown⟩
theorem fieldOf_10 (w : World) : Calls Try.prog 181 #[.int .i64 10] w fun e w' => e = .returned (.agg #[.int .i64 41, .int .i64 1, .int .i64 1, .int .i64 (0)]) ∧ Below w.heap.size w w' := by
  go_enter Try.func181, Try.ntmps181
  go_wp2
  go_returns
  exact ⟨rfl, by go_grown⟩
theorem shiftOf_10 (i : Nat) (w : World) (hi : i < 1) (r : Int) (hr : Hid ((41 : Int) + (1 - 1 - (i : Int)) * 1 = r)) : Calls Try.prog 182 #[.agg #[.int .i64 41, .int .i64 1, .int .i64 1, .int .i64 (0)], .int .i64 i] w fun e w' => e = .returned (.int .i64 r) ∧ Below w.heap.size w w' := by
  go_enter Try.func182, Try.ntmps182
  go_wp2
  go_ret
  refine ⟨?_, by go_grown⟩
  rw [← hr.out]
  simp
  try omega
theorem maskOf_10 (w : World) : Calls Try.prog 183 #[.agg #[.int .i64 41, .int .i64 1, .int .i64 1, .int .i64 (0)]] w fun e w' => e = .returned (.int .u64 1) ∧ Below w.heap.size w w' := by
  go_enter Try.func183, Try.ntmps183
  go_wp2
  go_ret
  exact ⟨by simp, by go_grown⟩
theorem entry_0 (W i : Nat) (w : World) (hW : W < 18446744073709551616) (hi : i < 3) :
    Calls Try.prog 152 #[.int .u64 W, .int .i64 0, .int .i64 i] w fun e w' => e = .returned (.int .i64 ((wget W (fS 0 i) 3 : Nat) + (0 : Int))) ∧ Below w.heap.size w w' := by
  have hs : ((fS 0 i : Nat) : Int) = 34 + (3 - 1 - (i : Int)) * 3 := by
    have e : fS 0 i = 34 + (3 - 1 - i) * 3 := rfl
    rw [e]; omega
  have hn : bits .and .u64 ((W : Int) / 2 ^ (fS 0 i)) 7 = ((wget W (fS 0 i) 3 : Nat) : Int) := by have := entry_num W (fS 0 i) 3 (fS 0 i : Nat) rfl hW (by omega); simpa using this
  have hlt := wget_lt W (fS 0 i) 3 (by omega)
  have hsl : fS 0 i ≤ 45 := by omega
  generalize fS 0 i = s at *
  have Hs := Lib.hid hs.symm
  have Hn := Lib.hid hn
  clear hs hn
  go_enter Try.func152, Try.ntmps152
  go_wp2_with fail
  refine (fieldOf_0 _).mono ?_
  rintro e w1 ⟨rfl, hb1⟩
  have sz1 := hb1.size
  go_wp2_with fail
  obtain ⟨V, hV⟩ : ∃ V, V = w1.alloc (.cells #[.int .i64 34, .int .i64 3, .int .i64 3, .int .i64 (0)] 218) := ⟨_, rfl⟩
  rw [← hV]
  have kV : Bk V w1.heap.size 218 #[.int .i64 34, .int .i64 3, .int .i64 3, .int .i64 (0)] := by rw [hV]; exact Bk.new _ _ _
  have allS : ∀ w', Below V.heap.size V w' → (Below V.heap.size V w' ∧ w'.cell? ⟨w1.heap.size, 0, none⟩ = some (.int .i64 34) ∧ w'.cell? ⟨w1.heap.size, 1, none⟩ = some (.int .i64 3) ∧ w'.cell? ⟨w1.heap.size, 2, none⟩ = some (.int .i64 3) ∧ w'.cell? ⟨w1.heap.size, 3, none⟩ = some (.int .i64 (0))) := fun w' hb => ⟨hb, (kV.below hb kV.lt).cell 0, (kV.below hb kV.lt).cell 1, (kV.below hb kV.lt).cell 2, (kV.below hb kV.lt).cell 3⟩
  have AllS := Lib.hid allS
  have bV : Below w.heap.size w V := by rw [hV]; exact below_on hb1 ((Below.refl _ _).alloc (Nat.le_refl _) _)
  have BV := Lib.hid bV
  clear allS hV kV bV hb1
  go_region_held3 (fun w' => Below V.heap.size V w' ∧ w'.cell? ⟨w1.heap.size, 0, none⟩ = some (.int .i64 34) ∧ w'.cell? ⟨w1.heap.size, 1, none⟩ = some (.int .i64 3) ∧ w'.cell? ⟨w1.heap.size, 2, none⟩ = some (.int .i64 3) ∧ w'.cell? ⟨w1.heap.size, 3, none⟩ = some (.int .i64 (0))) (first | (go_split_ands; exact AllS.out _ (by go_grown)) | (exact AllS.out _ (by go_grown))) (first | (go_at_call 182; go_split_ands; refine (shiftOf_0 i _ hi _ Hs).mono ?_; rintro e v1 ⟨rfl, hv⟩; have hBv1 : Below V.heap.size V v1 := below_on (by go_grown) hv; clear hv) | (go_at_call 183; go_split_ands; refine (maskOf_0 _).mono ?_; rintro e v2 ⟨rfl, hv⟩; have hBv2 : Below V.heap.size V v2 := below_on (by go_grown) hv; clear hv))
  go_wp2
  go_ret
  refine ⟨?_, below_on BV.out hBv2⟩
  have hn := Hn.out
  simp
  rw [hn]
  simp only [IntKind.wrap_i64]
  omega
theorem withEntry_0 (W i v : Nat) (n : Int) (w : World) (hW : W < 18446744073709551616) (hi : i < 3) (hv : v < 8) (hn : n = (v : Int) + (0)) :
    Calls Try.prog 155 #[.int .u64 W, .int .i64 0, .int .i64 i, .int .i64 n] w fun e w' => e = .returned (.int .u64 (wset W (fS 0 i) 3 v : Nat)) ∧ Below w.heap.size w w' := by
  subst hn
  have hs : ((fS 0 i : Nat) : Int) = 34 + (3 - 1 - (i : Int)) * 3 := by
    have e : fS 0 i = 34 + (3 - 1 - i) * 3 := rfl
    rw [e]; omega
  have hsl : fS 0 i ≤ 45 := by omega
  have Hw := Lib.hid (with_all W (fS 0 i) 3 v 7 rfl hW (by omega) hsl hv)
  generalize fS 0 i = s at *
  have Hs := Lib.hid hs.symm
  clear hs
  go_enter Try.func155, Try.ntmps155
  go_wp2_with fail
  refine (fieldOf_0 _).mono ?_
  rintro e w1 ⟨rfl, hb1⟩
  have sz1 := hb1.size
  go_wp2_with fail
  obtain ⟨V, hV⟩ : ∃ V, V = w1.alloc (.cells #[.int .i64 34, .int .i64 3, .int .i64 3, .int .i64 (0)] 218) := ⟨_, rfl⟩
  rw [← hV]
  have kV : Bk V w1.heap.size 218 #[.int .i64 34, .int .i64 3, .int .i64 3, .int .i64 (0)] := by rw [hV]; exact Bk.new _ _ _
  have allS : ∀ w', Below V.heap.size V w' → (Below V.heap.size V w' ∧ w'.cell? ⟨w1.heap.size, 0, none⟩ = some (.int .i64 34) ∧ w'.cell? ⟨w1.heap.size, 1, none⟩ = some (.int .i64 3) ∧ w'.cell? ⟨w1.heap.size, 2, none⟩ = some (.int .i64 3) ∧ w'.cell? ⟨w1.heap.size, 3, none⟩ = some (.int .i64 (0))) := fun w' hb => ⟨hb, (kV.below hb kV.lt).cell 0, (kV.below hb kV.lt).cell 1, (kV.below hb kV.lt).cell 2, (kV.below hb kV.lt).cell 3⟩
  have AllS := Lib.hid allS
  have bV : Below w.heap.size w V := by rw [hV]; exact below_on hb1 ((Below.refl _ _).alloc (Nat.le_refl _) _)
  have BV := Lib.hid bV
  have c0 := kV.cell 0
  have c1 := kV.cell 1
  have c2 := kV.cell 2
  have c3 := kV.cell 3
  simp only [List.getElem?_toArray, List.getElem?_cons_zero, List.getElem?_cons_succ] at c0 c1 c2 c3
  clear allS hV bV hb1
  go_wp2_with fail
  clear c0 c1 c2 c3
  refine (shiftOf_0 i _ hi _ Hs).mono ?_
  rintro e V2 ⟨rfl, hb2⟩
  have BV2 := Lib.hid (below_on BV.out hb2)
  have kV2 := kV.below hb2 kV.lt
  have allS2 : ∀ w', Below V2.heap.size V2 w' → (Below V2.heap.size V2 w' ∧ w'.cell? ⟨w1.heap.size, 0, none⟩ = some (.int .i64 34) ∧ w'.cell? ⟨w1.heap.size, 1, none⟩ = some (.int .i64 3) ∧ w'.cell? ⟨w1.heap.size, 2, none⟩ = some (.int .i64 3) ∧ w'.cell? ⟨w1.heap.size, 3, none⟩ = some (.int .i64 (0))) := fun w' hb => ⟨hb, (kV2.below hb kV2.lt).cell 0, (kV2.below hb kV2.lt).cell 1, (kV2.below hb kV2.lt).cell 2, (kV2.below hb kV2.lt).cell 3⟩
  clear AllS
  have AllS := Lib.hid allS2
  clear allS2 kV kV2 hb2
  go_wp2_with fail
  go_region_held3 (fun w' => Below V2.heap.size V2 w' ∧ w'.cell? ⟨w1.heap.size, 0, none⟩ = some (.int .i64 34) ∧ w'.cell? ⟨w1.heap.size, 1, none⟩ = some (.int .i64 3) ∧ w'.cell? ⟨w1.heap.size, 2, none⟩ = some (.int .i64 3) ∧ w'.cell? ⟨w1.heap.size, 3, none⟩ = some (.int .i64 (0))) (first | (go_split_ands; exact AllS.out _ (by go_grown)) | (exact AllS.out _ (by go_grown))) (first | (go_at_call 183; go_split_ands; refine (maskOf_0 _).mono ?_; rintro e v2 ⟨rfl, hv2⟩; have hBv2 : Below V2.heap.size V2 v2 := below_on (by go_grown) hv2; clear hv2))
  go_wp2
  go_ret
  refine ⟨?_, below_on BV2.out hBv2⟩
  have hw := Hw.out
  try simp only [Int.one_mul] at hw
  have e1 : IntKind.i64.wrap (v : Int) = v := wrap64_small (by omega) (by omega)
  have e2 : IntKind.u64.wrap (v : Int) = v := wrapu_small (by omega) (by omega)
  have e3 : (v : Int) + -1 + 1 = v := by omega
  simp [e1, e2, hw]
theorem entry_1 (W i : Nat) (w : World) (hW : W < 18446744073709551616) (hi : i < 9) :
    Calls Try.prog 152 #[.int .u64 W, .int .i64 1, .int .i64 i] w fun e w' => e = .returned (.int .i64 ((wget W (fS 1 i) 2 : Nat) + (0 : Int))) ∧ Below w.heap.size w w' := by
  have hs : ((fS 1 i : Nat) : Int) = 16 + (9 - 1 - (i : Int)) * 2 := by
    have e : fS 1 i = 16 + (9 - 1 - i) * 2 := rfl
    rw [e]; omega
  have hn : bits .and .u64 ((W : Int) / 2 ^ (fS 1 i)) 3 = ((wget W (fS 1 i) 2 : Nat) : Int) := by have := entry_num W (fS 1 i) 2 (fS 1 i : Nat) rfl hW (by omega); simpa using this
  have hlt := wget_lt W (fS 1 i) 2 (by omega)
  have hsl : fS 1 i ≤ 45 := by omega
  generalize fS 1 i = s at *
  have Hs := Lib.hid hs.symm
  have Hn := Lib.hid hn
  clear hs hn
  go_enter Try.func152, Try.ntmps152
  go_wp2_with fail
  refine (fieldOf_1 _).mono ?_
  rintro e w1 ⟨rfl, hb1⟩
  have sz1 := hb1.size
  go_wp2_with fail
  obtain ⟨V, hV⟩ : ∃ V, V = w1.alloc (.cells #[.int .i64 16, .int .i64 9, .int .i64 2, .int .i64 (0)] 218) := ⟨_, rfl⟩
  rw [← hV]
  have kV : Bk V w1.heap.size 218 #[.int .i64 16, .int .i64 9, .int .i64 2, .int .i64 (0)] := by rw [hV]; exact Bk.new _ _ _
  have allS : ∀ w', Below V.heap.size V w' → (Below V.heap.size V w' ∧ w'.cell? ⟨w1.heap.size, 0, none⟩ = some (.int .i64 16) ∧ w'.cell? ⟨w1.heap.size, 1, none⟩ = some (.int .i64 9) ∧ w'.cell? ⟨w1.heap.size, 2, none⟩ = some (.int .i64 2) ∧ w'.cell? ⟨w1.heap.size, 3, none⟩ = some (.int .i64 (0))) := fun w' hb => ⟨hb, (kV.below hb kV.lt).cell 0, (kV.below hb kV.lt).cell 1, (kV.below hb kV.lt).cell 2, (kV.below hb kV.lt).cell 3⟩
  have AllS := Lib.hid allS
  have bV : Below w.heap.size w V := by rw [hV]; exact below_on hb1 ((Below.refl _ _).alloc (Nat.le_refl _) _)
  have BV := Lib.hid bV
  clear allS hV kV bV hb1
  go_region_held3 (fun w' => Below V.heap.size V w' ∧ w'.cell? ⟨w1.heap.size, 0, none⟩ = some (.int .i64 16) ∧ w'.cell? ⟨w1.heap.size, 1, none⟩ = some (.int .i64 9) ∧ w'.cell? ⟨w1.heap.size, 2, none⟩ = some (.int .i64 2) ∧ w'.cell? ⟨w1.heap.size, 3, none⟩ = some (.int .i64 (0))) (first | (go_split_ands; exact AllS.out _ (by go_grown)) | (exact AllS.out _ (by go_grown))) (first | (go_at_call 182; go_split_ands; refine (shiftOf_1 i _ hi _ Hs).mono ?_; rintro e v1 ⟨rfl, hv⟩; have hBv1 : Below V.heap.size V v1 := below_on (by go_grown) hv; clear hv) | (go_at_call 183; go_split_ands; refine (maskOf_1 _).mono ?_; rintro e v2 ⟨rfl, hv⟩; have hBv2 : Below V.heap.size V v2 := below_on (by go_grown) hv; clear hv))
  go_wp2
  go_ret
  refine ⟨?_, below_on BV.out hBv2⟩
  have hn := Hn.out
  simp
  rw [hn]
  simp only [IntKind.wrap_i64]
  omega
theorem withEntry_1 (W i v : Nat) (n : Int) (w : World) (hW : W < 18446744073709551616) (hi : i < 9) (hv : v < 4) (hn : n = (v : Int) + (0)) :
    Calls Try.prog 155 #[.int .u64 W, .int .i64 1, .int .i64 i, .int .i64 n] w fun e w' => e = .returned (.int .u64 (wset W (fS 1 i) 2 v : Nat)) ∧ Below w.heap.size w w' := by
  subst hn
  have hs : ((fS 1 i : Nat) : Int) = 16 + (9 - 1 - (i : Int)) * 2 := by
    have e : fS 1 i = 16 + (9 - 1 - i) * 2 := rfl
    rw [e]; omega
  have hsl : fS 1 i ≤ 45 := by omega
  have Hw := Lib.hid (with_all W (fS 1 i) 2 v 3 rfl hW (by omega) hsl hv)
  generalize fS 1 i = s at *
  have Hs := Lib.hid hs.symm
  clear hs
  go_enter Try.func155, Try.ntmps155
  go_wp2_with fail
  refine (fieldOf_1 _).mono ?_
  rintro e w1 ⟨rfl, hb1⟩
  have sz1 := hb1.size
  go_wp2_with fail
  obtain ⟨V, hV⟩ : ∃ V, V = w1.alloc (.cells #[.int .i64 16, .int .i64 9, .int .i64 2, .int .i64 (0)] 218) := ⟨_, rfl⟩
  rw [← hV]
  have kV : Bk V w1.heap.size 218 #[.int .i64 16, .int .i64 9, .int .i64 2, .int .i64 (0)] := by rw [hV]; exact Bk.new _ _ _
  have allS : ∀ w', Below V.heap.size V w' → (Below V.heap.size V w' ∧ w'.cell? ⟨w1.heap.size, 0, none⟩ = some (.int .i64 16) ∧ w'.cell? ⟨w1.heap.size, 1, none⟩ = some (.int .i64 9) ∧ w'.cell? ⟨w1.heap.size, 2, none⟩ = some (.int .i64 2) ∧ w'.cell? ⟨w1.heap.size, 3, none⟩ = some (.int .i64 (0))) := fun w' hb => ⟨hb, (kV.below hb kV.lt).cell 0, (kV.below hb kV.lt).cell 1, (kV.below hb kV.lt).cell 2, (kV.below hb kV.lt).cell 3⟩
  have AllS := Lib.hid allS
  have bV : Below w.heap.size w V := by rw [hV]; exact below_on hb1 ((Below.refl _ _).alloc (Nat.le_refl _) _)
  have BV := Lib.hid bV
  have c0 := kV.cell 0
  have c1 := kV.cell 1
  have c2 := kV.cell 2
  have c3 := kV.cell 3
  simp only [List.getElem?_toArray, List.getElem?_cons_zero, List.getElem?_cons_succ] at c0 c1 c2 c3
  clear allS hV bV hb1
  go_wp2_with fail
  clear c0 c1 c2 c3
  refine (shiftOf_1 i _ hi _ Hs).mono ?_
  rintro e V2 ⟨rfl, hb2⟩
  have BV2 := Lib.hid (below_on BV.out hb2)
  have kV2 := kV.below hb2 kV.lt
  have allS2 : ∀ w', Below V2.heap.size V2 w' → (Below V2.heap.size V2 w' ∧ w'.cell? ⟨w1.heap.size, 0, none⟩ = some (.int .i64 16) ∧ w'.cell? ⟨w1.heap.size, 1, none⟩ = some (.int .i64 9) ∧ w'.cell? ⟨w1.heap.size, 2, none⟩ = some (.int .i64 2) ∧ w'.cell? ⟨w1.heap.size, 3, none⟩ = some (.int .i64 (0))) := fun w' hb => ⟨hb, (kV2.below hb kV2.lt).cell 0, (kV2.below hb kV2.lt).cell 1, (kV2.below hb kV2.lt).cell 2, (kV2.below hb kV2.lt).cell 3⟩
  clear AllS
  have AllS := Lib.hid allS2
  clear allS2 kV kV2 hb2
  go_wp2_with fail
  go_region_held3 (fun w' => Below V2.heap.size V2 w' ∧ w'.cell? ⟨w1.heap.size, 0, none⟩ = some (.int .i64 16) ∧ w'.cell? ⟨w1.heap.size, 1, none⟩ = some (.int .i64 9) ∧ w'.cell? ⟨w1.heap.size, 2, none⟩ = some (.int .i64 2) ∧ w'.cell? ⟨w1.heap.size, 3, none⟩ = some (.int .i64 (0))) (first | (go_split_ands; exact AllS.out _ (by go_grown)) | (exact AllS.out _ (by go_grown))) (first | (go_at_call 183; go_split_ands; refine (maskOf_1 _).mono ?_; rintro e v2 ⟨rfl, hv2⟩; have hBv2 : Below V2.heap.size V2 v2 := below_on (by go_grown) hv2; clear hv2))
  go_wp2
  go_ret
  refine ⟨?_, below_on BV2.out hBv2⟩
  have hw := Hw.out
  try simp only [Int.one_mul] at hw
  have e1 : IntKind.i64.wrap (v : Int) = v := wrap64_small (by omega) (by omega)
  have e2 : IntKind.u64.wrap (v : Int) = v := wrapu_small (by omega) (by omega)
  have e3 : (v : Int) + -1 + 1 = v := by omega
  simp [e1, e2, hw]
theorem entry_2 (W i : Nat) (w : World) (hW : W < 18446744073709551616) (hi : i < 3) :
    Calls Try.prog 152 #[.int .u64 W, .int .i64 2, .int .i64 i] w fun e w' => e = .returned (.int .i64 ((wget W (fS 2 i) 2 : Nat) + (0 : Int))) ∧ Below w.heap.size w w' := by
  have hs : ((fS 2 i : Nat) : Int) = 10 + (3 - 1 - (i : Int)) * 2 := by
    have e : fS 2 i = 10 + (3 - 1 - i) * 2 := rfl
    rw [e]; omega
  have hn : bits .and .u64 ((W : Int) / 2 ^ (fS 2 i)) 3 = ((wget W (fS 2 i) 2 : Nat) : Int) := by have := entry_num W (fS 2 i) 2 (fS 2 i : Nat) rfl hW (by omega); simpa using this
  have hlt := wget_lt W (fS 2 i) 2 (by omega)
  have hsl : fS 2 i ≤ 45 := by omega
  generalize fS 2 i = s at *
  have Hs := Lib.hid hs.symm
  have Hn := Lib.hid hn
  clear hs hn
  go_enter Try.func152, Try.ntmps152
  go_wp2_with fail
  refine (fieldOf_2 _).mono ?_
  rintro e w1 ⟨rfl, hb1⟩
  have sz1 := hb1.size
  go_wp2_with fail
  obtain ⟨V, hV⟩ : ∃ V, V = w1.alloc (.cells #[.int .i64 10, .int .i64 3, .int .i64 2, .int .i64 (0)] 218) := ⟨_, rfl⟩
  rw [← hV]
  have kV : Bk V w1.heap.size 218 #[.int .i64 10, .int .i64 3, .int .i64 2, .int .i64 (0)] := by rw [hV]; exact Bk.new _ _ _
  have allS : ∀ w', Below V.heap.size V w' → (Below V.heap.size V w' ∧ w'.cell? ⟨w1.heap.size, 0, none⟩ = some (.int .i64 10) ∧ w'.cell? ⟨w1.heap.size, 1, none⟩ = some (.int .i64 3) ∧ w'.cell? ⟨w1.heap.size, 2, none⟩ = some (.int .i64 2) ∧ w'.cell? ⟨w1.heap.size, 3, none⟩ = some (.int .i64 (0))) := fun w' hb => ⟨hb, (kV.below hb kV.lt).cell 0, (kV.below hb kV.lt).cell 1, (kV.below hb kV.lt).cell 2, (kV.below hb kV.lt).cell 3⟩
  have AllS := Lib.hid allS
  have bV : Below w.heap.size w V := by rw [hV]; exact below_on hb1 ((Below.refl _ _).alloc (Nat.le_refl _) _)
  have BV := Lib.hid bV
  clear allS hV kV bV hb1
  go_region_held3 (fun w' => Below V.heap.size V w' ∧ w'.cell? ⟨w1.heap.size, 0, none⟩ = some (.int .i64 10) ∧ w'.cell? ⟨w1.heap.size, 1, none⟩ = some (.int .i64 3) ∧ w'.cell? ⟨w1.heap.size, 2, none⟩ = some (.int .i64 2) ∧ w'.cell? ⟨w1.heap.size, 3, none⟩ = some (.int .i64 (0))) (first | (go_split_ands; exact AllS.out _ (by go_grown)) | (exact AllS.out _ (by go_grown))) (first | (go_at_call 182; go_split_ands; refine (shiftOf_2 i _ hi _ Hs).mono ?_; rintro e v1 ⟨rfl, hv⟩; have hBv1 : Below V.heap.size V v1 := below_on (by go_grown) hv; clear hv) | (go_at_call 183; go_split_ands; refine (maskOf_2 _).mono ?_; rintro e v2 ⟨rfl, hv⟩; have hBv2 : Below V.heap.size V v2 := below_on (by go_grown) hv; clear hv))
  go_wp2
  go_ret
  refine ⟨?_, below_on BV.out hBv2⟩
  have hn := Hn.out
  simp
  rw [hn]
  simp only [IntKind.wrap_i64]
  omega
theorem withEntry_2 (W i v : Nat) (n : Int) (w : World) (hW : W < 18446744073709551616) (hi : i < 3) (hv : v < 4) (hn : n = (v : Int) + (0)) :
    Calls Try.prog 155 #[.int .u64 W, .int .i64 2, .int .i64 i, .int .i64 n] w fun e w' => e = .returned (.int .u64 (wset W (fS 2 i) 2 v : Nat)) ∧ Below w.heap.size w w' := by
  subst hn
  have hs : ((fS 2 i : Nat) : Int) = 10 + (3 - 1 - (i : Int)) * 2 := by
    have e : fS 2 i = 10 + (3 - 1 - i) * 2 := rfl
    rw [e]; omega
  have hsl : fS 2 i ≤ 45 := by omega
  have Hw := Lib.hid (with_all W (fS 2 i) 2 v 3 rfl hW (by omega) hsl hv)
  generalize fS 2 i = s at *
  have Hs := Lib.hid hs.symm
  clear hs
  go_enter Try.func155, Try.ntmps155
  go_wp2_with fail
  refine (fieldOf_2 _).mono ?_
  rintro e w1 ⟨rfl, hb1⟩
  have sz1 := hb1.size
  go_wp2_with fail
  obtain ⟨V, hV⟩ : ∃ V, V = w1.alloc (.cells #[.int .i64 10, .int .i64 3, .int .i64 2, .int .i64 (0)] 218) := ⟨_, rfl⟩
  rw [← hV]
  have kV : Bk V w1.heap.size 218 #[.int .i64 10, .int .i64 3, .int .i64 2, .int .i64 (0)] := by rw [hV]; exact Bk.new _ _ _
  have allS : ∀ w', Below V.heap.size V w' → (Below V.heap.size V w' ∧ w'.cell? ⟨w1.heap.size, 0, none⟩ = some (.int .i64 10) ∧ w'.cell? ⟨w1.heap.size, 1, none⟩ = some (.int .i64 3) ∧ w'.cell? ⟨w1.heap.size, 2, none⟩ = some (.int .i64 2) ∧ w'.cell? ⟨w1.heap.size, 3, none⟩ = some (.int .i64 (0))) := fun w' hb => ⟨hb, (kV.below hb kV.lt).cell 0, (kV.below hb kV.lt).cell 1, (kV.below hb kV.lt).cell 2, (kV.below hb kV.lt).cell 3⟩
  have AllS := Lib.hid allS
  have bV : Below w.heap.size w V := by rw [hV]; exact below_on hb1 ((Below.refl _ _).alloc (Nat.le_refl _) _)
  have BV := Lib.hid bV
  have c0 := kV.cell 0
  have c1 := kV.cell 1
  have c2 := kV.cell 2
  have c3 := kV.cell 3
  simp only [List.getElem?_toArray, List.getElem?_cons_zero, List.getElem?_cons_succ] at c0 c1 c2 c3
  clear allS hV bV hb1
  go_wp2_with fail
  clear c0 c1 c2 c3
  refine (shiftOf_2 i _ hi _ Hs).mono ?_
  rintro e V2 ⟨rfl, hb2⟩
  have BV2 := Lib.hid (below_on BV.out hb2)
  have kV2 := kV.below hb2 kV.lt
  have allS2 : ∀ w', Below V2.heap.size V2 w' → (Below V2.heap.size V2 w' ∧ w'.cell? ⟨w1.heap.size, 0, none⟩ = some (.int .i64 10) ∧ w'.cell? ⟨w1.heap.size, 1, none⟩ = some (.int .i64 3) ∧ w'.cell? ⟨w1.heap.size, 2, none⟩ = some (.int .i64 2) ∧ w'.cell? ⟨w1.heap.size, 3, none⟩ = some (.int .i64 (0))) := fun w' hb => ⟨hb, (kV2.below hb kV2.lt).cell 0, (kV2.below hb kV2.lt).cell 1, (kV2.below hb kV2.lt).cell 2, (kV2.below hb kV2.lt).cell 3⟩
  clear AllS
  have AllS := Lib.hid allS2
  clear allS2 kV kV2 hb2
  go_wp2_with fail
  go_region_held3 (fun w' => Below V2.heap.size V2 w' ∧ w'.cell? ⟨w1.heap.size, 0, none⟩ = some (.int .i64 10) ∧ w'.cell? ⟨w1.heap.size, 1, none⟩ = some (.int .i64 3) ∧ w'.cell? ⟨w1.heap.size, 2, none⟩ = some (.int .i64 2) ∧ w'.cell? ⟨w1.heap.size, 3, none⟩ = some (.int .i64 (0))) (first | (go_split_ands; exact AllS.out _ (by go_grown)) | (exact AllS.out _ (by go_grown))) (first | (go_at_call 183; go_split_ands; refine (maskOf_2 _).mono ?_; rintro e v2 ⟨rfl, hv2⟩; have hBv2 : Below V2.heap.size V2 v2 := below_on (by go_grown) hv2; clear hv2))
  go_wp2
  go_ret
  refine ⟨?_, below_on BV2.out hBv2⟩
  have hw := Hw.out
  try simp only [Int.one_mul] at hw
  have e1 : IntKind.i64.wrap (v : Int) = v := wrap64_small (by omega) (by omega)
  have e2 : IntKind.u64.wrap (v : Int) = v := wrapu_small (by omega) (by omega)
  have e3 : (v : Int) + -1 + 1 = v := by omega
  simp [e1, e2, hw]
theorem entry_3 (W i : Nat) (w : World) (hW : W < 18446744073709551616) (hi : i < 2) :
    Calls Try.prog 152 #[.int .u64 W, .int .i64 3, .int .i64 i] w fun e w' => e = .returned (.int .i64 ((wget W (fS 3 i) 2 : Nat) + (-1 : Int))) ∧ Below w.heap.size w w' := by
  have hs : ((fS 3 i : Nat) : Int) = 6 + (2 - 1 - (i : Int)) * 2 := by
    have e : fS 3 i = 6 + (2 - 1 - i) * 2 := rfl
    rw [e]; omega
  have hn : bits .and .u64 ((W : Int) / 2 ^ (fS 3 i)) 3 = ((wget W (fS 3 i) 2 : Nat) : Int) := by have := entry_num W (fS 3 i) 2 (fS 3 i : Nat) rfl hW (by omega); simpa using this
  have hlt := wget_lt W (fS 3 i) 2 (by omega)
  have hsl : fS 3 i ≤ 45 := by omega
  generalize fS 3 i = s at *
  have Hs := Lib.hid hs.symm
  have Hn := Lib.hid hn
  clear hs hn
  go_enter Try.func152, Try.ntmps152
  go_wp2_with fail
  refine (fieldOf_3 _).mono ?_
  rintro e w1 ⟨rfl, hb1⟩
  have sz1 := hb1.size
  go_wp2_with fail
  obtain ⟨V, hV⟩ : ∃ V, V = w1.alloc (.cells #[.int .i64 6, .int .i64 2, .int .i64 2, .int .i64 (-1)] 218) := ⟨_, rfl⟩
  rw [← hV]
  have kV : Bk V w1.heap.size 218 #[.int .i64 6, .int .i64 2, .int .i64 2, .int .i64 (-1)] := by rw [hV]; exact Bk.new _ _ _
  have allS : ∀ w', Below V.heap.size V w' → (Below V.heap.size V w' ∧ w'.cell? ⟨w1.heap.size, 0, none⟩ = some (.int .i64 6) ∧ w'.cell? ⟨w1.heap.size, 1, none⟩ = some (.int .i64 2) ∧ w'.cell? ⟨w1.heap.size, 2, none⟩ = some (.int .i64 2) ∧ w'.cell? ⟨w1.heap.size, 3, none⟩ = some (.int .i64 (-1))) := fun w' hb => ⟨hb, (kV.below hb kV.lt).cell 0, (kV.below hb kV.lt).cell 1, (kV.below hb kV.lt).cell 2, (kV.below hb kV.lt).cell 3⟩
  have AllS := Lib.hid allS
  have bV : Below w.heap.size w V := by rw [hV]; exact below_on hb1 ((Below.refl _ _).alloc (Nat.le_refl _) _)
  have BV := Lib.hid bV
  clear allS hV kV bV hb1
  go_region_held3 (fun w' => Below V.heap.size V w' ∧ w'.cell? ⟨w1.heap.size, 0, none⟩ = some (.int .i64 6) ∧ w'.cell? ⟨w1.heap.size, 1, none⟩ = some (.int .i64 2) ∧ w'.cell? ⟨w1.heap.size, 2, none⟩ = some (.int .i64 2) ∧ w'.cell? ⟨w1.heap.size, 3, none⟩ = some (.int .i64 (-1))) (first | (go_split_ands; exact AllS.out _ (by go_grown)) | (exact AllS.out _ (by go_grown))) (first | (go_at_call 182; go_split_ands; refine (shiftOf_3 i _ hi _ Hs).mono ?_; rintro e v1 ⟨rfl, hv⟩; have hBv1 : Below V.heap.size V v1 := below_on (by go_grown) hv; clear hv) | (go_at_call 183; go_split_ands; refine (maskOf_3 _).mono ?_; rintro e v2 ⟨rfl, hv⟩; have hBv2 : Below V.heap.size V v2 := below_on (by go_grown) hv; clear hv))
  go_wp2
  go_ret
  refine ⟨?_, below_on BV.out hBv2⟩
  have hn := Hn.out
  simp
  rw [hn]
  simp only [IntKind.wrap_i64]
  omega
theorem withEntry_3 (W i v : Nat) (n : Int) (w : World) (hW : W < 18446744073709551616) (hi : i < 2) (hv : v < 4) (hn : n = (v : Int) + (-1)) :
    Calls Try.prog 155 #[.int .u64 W, .int .i64 3, .int .i64 i, .int .i64 n] w fun e w' => e = .returned (.int .u64 (wset W (fS 3 i) 2 v : Nat)) ∧ Below w.heap.size w w' := by
  subst hn
  have hs : ((fS 3 i : Nat) : Int) = 6 + (2 - 1 - (i : Int)) * 2 := by
    have e : fS 3 i = 6 + (2 - 1 - i) * 2 := rfl
    rw [e]; omega
  have hsl : fS 3 i ≤ 45 := by omega
  have Hw := Lib.hid (with_all W (fS 3 i) 2 v 3 rfl hW (by omega) hsl hv)
  generalize fS 3 i = s at *
  have Hs := Lib.hid hs.symm
  clear hs
  go_enter Try.func155, Try.ntmps155
  go_wp2_with fail
  refine (fieldOf_3 _).mono ?_
  rintro e w1 ⟨rfl, hb1⟩
  have sz1 := hb1.size
  go_wp2_with fail
  obtain ⟨V, hV⟩ : ∃ V, V = w1.alloc (.cells #[.int .i64 6, .int .i64 2, .int .i64 2, .int .i64 (-1)] 218) := ⟨_, rfl⟩
  rw [← hV]
  have kV : Bk V w1.heap.size 218 #[.int .i64 6, .int .i64 2, .int .i64 2, .int .i64 (-1)] := by rw [hV]; exact Bk.new _ _ _
  have allS : ∀ w', Below V.heap.size V w' → (Below V.heap.size V w' ∧ w'.cell? ⟨w1.heap.size, 0, none⟩ = some (.int .i64 6) ∧ w'.cell? ⟨w1.heap.size, 1, none⟩ = some (.int .i64 2) ∧ w'.cell? ⟨w1.heap.size, 2, none⟩ = some (.int .i64 2) ∧ w'.cell? ⟨w1.heap.size, 3, none⟩ = some (.int .i64 (-1))) := fun w' hb => ⟨hb, (kV.below hb kV.lt).cell 0, (kV.below hb kV.lt).cell 1, (kV.below hb kV.lt).cell 2, (kV.below hb kV.lt).cell 3⟩
  have AllS := Lib.hid allS
  have bV : Below w.heap.size w V := by rw [hV]; exact below_on hb1 ((Below.refl _ _).alloc (Nat.le_refl _) _)
  have BV := Lib.hid bV
  have c0 := kV.cell 0
  have c1 := kV.cell 1
  have c2 := kV.cell 2
  have c3 := kV.cell 3
  simp only [List.getElem?_toArray, List.getElem?_cons_zero, List.getElem?_cons_succ] at c0 c1 c2 c3
  clear allS hV bV hb1
  go_wp2_with fail
  clear c0 c1 c2 c3
  refine (shiftOf_3 i _ hi _ Hs).mono ?_
  rintro e V2 ⟨rfl, hb2⟩
  have BV2 := Lib.hid (below_on BV.out hb2)
  have kV2 := kV.below hb2 kV.lt
  have allS2 : ∀ w', Below V2.heap.size V2 w' → (Below V2.heap.size V2 w' ∧ w'.cell? ⟨w1.heap.size, 0, none⟩ = some (.int .i64 6) ∧ w'.cell? ⟨w1.heap.size, 1, none⟩ = some (.int .i64 2) ∧ w'.cell? ⟨w1.heap.size, 2, none⟩ = some (.int .i64 2) ∧ w'.cell? ⟨w1.heap.size, 3, none⟩ = some (.int .i64 (-1))) := fun w' hb => ⟨hb, (kV2.below hb kV2.lt).cell 0, (kV2.below hb kV2.lt).cell 1, (kV2.below hb kV2.lt).cell 2, (kV2.below hb kV2.lt).cell 3⟩
  clear AllS
  have AllS := Lib.hid allS2
  clear allS2 kV kV2 hb2
  go_wp2_with fail
  go_region_held3 (fun w' => Below V2.heap.size V2 w' ∧ w'.cell? ⟨w1.heap.size, 0, none⟩ = some (.int .i64 6) ∧ w'.cell? ⟨w1.heap.size, 1, none⟩ = some (.int .i64 2) ∧ w'.cell? ⟨w1.heap.size, 2, none⟩ = some (.int .i64 2) ∧ w'.cell? ⟨w1.heap.size, 3, none⟩ = some (.int .i64 (-1))) (first | (go_split_ands; exact AllS.out _ (by go_grown)) | (exact AllS.out _ (by go_grown))) (first | (go_at_call 183; go_split_ands; refine (maskOf_3 _).mono ?_; rintro e v2 ⟨rfl, hv2⟩; have hBv2 : Below V2.heap.size V2 v2 := below_on (by go_grown) hv2; clear hv2))
  go_wp2
  go_ret
  refine ⟨?_, below_on BV2.out hBv2⟩
  have hw := Hw.out
  try simp only [Int.one_mul] at hw
  have e1 : IntKind.i64.wrap (v : Int) = v := wrap64_small (by omega) (by omega)
  have e2 : IntKind.u64.wrap (v : Int) = v := wrapu_small (by omega) (by omega)
  have e3 : (v : Int) + -1 + 1 = v := by omega
  simp [e1, e2, e3, hw]
theorem entry_4 (W i : Nat) (w : World) (hW : W < 18446744073709551616) (hi : i < 2) :
    Calls Try.prog 152 #[.int .u64 W, .int .i64 4, .int .i64 i] w fun e w' => e = .returned (.int .i64 ((wget W (fS 4 i) 3 : Nat) + (-1 : Int))) ∧ Below w.heap.size w w' := by
  have hs : ((fS 4 i : Nat) : Int) = 0 + (2 - 1 - (i : Int)) * 3 := by
    have e : fS 4 i = 0 + (2 - 1 - i) * 3 := rfl
    rw [e]; omega
  have hn : bits .and .u64 ((W : Int) / 2 ^ (fS 4 i)) 7 = ((wget W (fS 4 i) 3 : Nat) : Int) := by have := entry_num W (fS 4 i) 3 (fS 4 i : Nat) rfl hW (by omega); simpa using this
  have hlt := wget_lt W (fS 4 i) 3 (by omega)
  have hsl : fS 4 i ≤ 45 := by omega
  generalize fS 4 i = s at *
  have Hs := Lib.hid hs.symm
  have Hn := Lib.hid hn
  clear hs hn
  go_enter Try.func152, Try.ntmps152
  go_wp2_with fail
  refine (fieldOf_4 _).mono ?_
  rintro e w1 ⟨rfl, hb1⟩
  have sz1 := hb1.size
  go_wp2_with fail
  obtain ⟨V, hV⟩ : ∃ V, V = w1.alloc (.cells #[.int .i64 0, .int .i64 2, .int .i64 3, .int .i64 (-1)] 218) := ⟨_, rfl⟩
  rw [← hV]
  have kV : Bk V w1.heap.size 218 #[.int .i64 0, .int .i64 2, .int .i64 3, .int .i64 (-1)] := by rw [hV]; exact Bk.new _ _ _
  have allS : ∀ w', Below V.heap.size V w' → (Below V.heap.size V w' ∧ w'.cell? ⟨w1.heap.size, 0, none⟩ = some (.int .i64 0) ∧ w'.cell? ⟨w1.heap.size, 1, none⟩ = some (.int .i64 2) ∧ w'.cell? ⟨w1.heap.size, 2, none⟩ = some (.int .i64 3) ∧ w'.cell? ⟨w1.heap.size, 3, none⟩ = some (.int .i64 (-1))) := fun w' hb => ⟨hb, (kV.below hb kV.lt).cell 0, (kV.below hb kV.lt).cell 1, (kV.below hb kV.lt).cell 2, (kV.below hb kV.lt).cell 3⟩
  have AllS := Lib.hid allS
  have bV : Below w.heap.size w V := by rw [hV]; exact below_on hb1 ((Below.refl _ _).alloc (Nat.le_refl _) _)
  have BV := Lib.hid bV
  clear allS hV kV bV hb1
  go_region_held3 (fun w' => Below V.heap.size V w' ∧ w'.cell? ⟨w1.heap.size, 0, none⟩ = some (.int .i64 0) ∧ w'.cell? ⟨w1.heap.size, 1, none⟩ = some (.int .i64 2) ∧ w'.cell? ⟨w1.heap.size, 2, none⟩ = some (.int .i64 3) ∧ w'.cell? ⟨w1.heap.size, 3, none⟩ = some (.int .i64 (-1))) (first | (go_split_ands; exact AllS.out _ (by go_grown)) | (exact AllS.out _ (by go_grown))) (first | (go_at_call 182; go_split_ands; refine (shiftOf_4 i _ hi _ Hs).mono ?_; rintro e v1 ⟨rfl, hv⟩; have hBv1 : Below V.heap.size V v1 := below_on (by go_grown) hv; clear hv) | (go_at_call 183; go_split_ands; refine (maskOf_4 _).mono ?_; rintro e v2 ⟨rfl, hv⟩; have hBv2 : Below V.heap.size V v2 := below_on (by go_grown) hv; clear hv))
  go_wp2
  go_ret
  refine ⟨?_, below_on BV.out hBv2⟩
  have hn := Hn.out
  simp
  rw [hn]
  simp only [IntKind.wrap_i64]
  omega
theorem withEntry_4 (W i v : Nat) (n : Int) (w : World) (hW : W < 18446744073709551616) (hi : i < 2) (hv : v < 8) (hn : n = (v : Int) + (-1)) :
    Calls Try.prog 155 #[.int .u64 W, .int .i64 4, .int .i64 i, .int .i64 n] w fun e w' => e = .returned (.int .u64 (wset W (fS 4 i) 3 v : Nat)) ∧ Below w.heap.size w w' := by
  subst hn
  have hs : ((fS 4 i : Nat) : Int) = 0 + (2 - 1 - (i : Int)) * 3 := by
    have e : fS 4 i = 0 + (2 - 1 - i) * 3 := rfl
    rw [e]; omega
  have hsl : fS 4 i ≤ 45 := by omega
  have Hw := Lib.hid (with_all W (fS 4 i) 3 v 7 rfl hW (by omega) hsl hv)
  generalize fS 4 i = s at *
  have Hs := Lib.hid hs.symm
  clear hs
  go_enter Try.func155, Try.ntmps155
  go_wp2_with fail
  refine (fieldOf_4 _).mono ?_
  rintro e w1 ⟨rfl, hb1⟩
  have sz1 := hb1.size
  go_wp2_with fail
  obtain ⟨V, hV⟩ : ∃ V, V = w1.alloc (.cells #[.int .i64 0, .int .i64 2, .int .i64 3, .int .i64 (-1)] 218) := ⟨_, rfl⟩
  rw [← hV]
  have kV : Bk V w1.heap.size 218 #[.int .i64 0, .int .i64 2, .int .i64 3, .int .i64 (-1)] := by rw [hV]; exact Bk.new _ _ _
  have allS : ∀ w', Below V.heap.size V w' → (Below V.heap.size V w' ∧ w'.cell? ⟨w1.heap.size, 0, none⟩ = some (.int .i64 0) ∧ w'.cell? ⟨w1.heap.size, 1, none⟩ = some (.int .i64 2) ∧ w'.cell? ⟨w1.heap.size, 2, none⟩ = some (.int .i64 3) ∧ w'.cell? ⟨w1.heap.size, 3, none⟩ = some (.int .i64 (-1))) := fun w' hb => ⟨hb, (kV.below hb kV.lt).cell 0, (kV.below hb kV.lt).cell 1, (kV.below hb kV.lt).cell 2, (kV.below hb kV.lt).cell 3⟩
  have AllS := Lib.hid allS
  have bV : Below w.heap.size w V := by rw [hV]; exact below_on hb1 ((Below.refl _ _).alloc (Nat.le_refl _) _)
  have BV := Lib.hid bV
  have c0 := kV.cell 0
  have c1 := kV.cell 1
  have c2 := kV.cell 2
  have c3 := kV.cell 3
  simp only [List.getElem?_toArray, List.getElem?_cons_zero, List.getElem?_cons_succ] at c0 c1 c2 c3
  clear allS hV bV hb1
  go_wp2_with fail
  clear c0 c1 c2 c3
  refine (shiftOf_4 i _ hi _ Hs).mono ?_
  rintro e V2 ⟨rfl, hb2⟩
  have BV2 := Lib.hid (below_on BV.out hb2)
  have kV2 := kV.below hb2 kV.lt
  have allS2 : ∀ w', Below V2.heap.size V2 w' → (Below V2.heap.size V2 w' ∧ w'.cell? ⟨w1.heap.size, 0, none⟩ = some (.int .i64 0) ∧ w'.cell? ⟨w1.heap.size, 1, none⟩ = some (.int .i64 2) ∧ w'.cell? ⟨w1.heap.size, 2, none⟩ = some (.int .i64 3) ∧ w'.cell? ⟨w1.heap.size, 3, none⟩ = some (.int .i64 (-1))) := fun w' hb => ⟨hb, (kV2.below hb kV2.lt).cell 0, (kV2.below hb kV2.lt).cell 1, (kV2.below hb kV2.lt).cell 2, (kV2.below hb kV2.lt).cell 3⟩
  clear AllS
  have AllS := Lib.hid allS2
  clear allS2 kV kV2 hb2
  go_wp2_with fail
  go_region_held3 (fun w' => Below V2.heap.size V2 w' ∧ w'.cell? ⟨w1.heap.size, 0, none⟩ = some (.int .i64 0) ∧ w'.cell? ⟨w1.heap.size, 1, none⟩ = some (.int .i64 2) ∧ w'.cell? ⟨w1.heap.size, 2, none⟩ = some (.int .i64 3) ∧ w'.cell? ⟨w1.heap.size, 3, none⟩ = some (.int .i64 (-1))) (first | (go_split_ands; exact AllS.out _ (by go_grown)) | (exact AllS.out _ (by go_grown))) (first | (go_at_call 183; go_split_ands; refine (maskOf_4 _).mono ?_; rintro e v2 ⟨rfl, hv2⟩; have hBv2 : Below V2.heap.size V2 v2 := below_on (by go_grown) hv2; clear hv2))
  go_wp2
  go_ret
  refine ⟨?_, below_on BV2.out hBv2⟩
  have hw := Hw.out
  try simp only [Int.one_mul] at hw
  have e1 : IntKind.i64.wrap (v : Int) = v := wrap64_small (by omega) (by omega)
  have e2 : IntKind.u64.wrap (v : Int) = v := wrapu_small (by omega) (by omega)
  have e3 : (v : Int) + -1 + 1 = v := by omega
  simp [e1, e2, e3, hw]
theorem entry_5 (W i : Nat) (w : World) (hW : W < 18446744073709551616) (hi : i < 3) :
    Calls Try.prog 152 #[.int .u64 W, .int .i64 5, .int .i64 i] w fun e w' => e = .returned (.int .i64 ((wget W (fS 5 i) 1 : Nat) + (0 : Int))) ∧ Below w.heap.size w w' := by
  have hs : ((fS 5 i : Nat) : Int) = 43 + (3 - 1 - (i : Int)) * 1 := by
    have e : fS 5 i = 43 + (3 - 1 - i) * 1 := rfl
    rw [e]; omega
  have hn : bits .and .u64 ((W : Int) / 2 ^ (fS 5 i)) 1 = ((wget W (fS 5 i) 1 : Nat) : Int) := by have := entry_num W (fS 5 i) 1 (fS 5 i : Nat) rfl hW (by omega); simpa using this
  have hlt := wget_lt W (fS 5 i) 1 (by omega)
  have hsl : fS 5 i ≤ 45 := by omega
  generalize fS 5 i = s at *
  have Hs := Lib.hid hs.symm
  have Hn := Lib.hid hn
  clear hs hn
  go_enter Try.func152, Try.ntmps152
  go_wp2_with fail
  refine (fieldOf_5 _).mono ?_
  rintro e w1 ⟨rfl, hb1⟩
  have sz1 := hb1.size
  go_wp2_with fail
  obtain ⟨V, hV⟩ : ∃ V, V = w1.alloc (.cells #[.int .i64 43, .int .i64 3, .int .i64 1, .int .i64 (0)] 218) := ⟨_, rfl⟩
  rw [← hV]
  have kV : Bk V w1.heap.size 218 #[.int .i64 43, .int .i64 3, .int .i64 1, .int .i64 (0)] := by rw [hV]; exact Bk.new _ _ _
  have allS : ∀ w', Below V.heap.size V w' → (Below V.heap.size V w' ∧ w'.cell? ⟨w1.heap.size, 0, none⟩ = some (.int .i64 43) ∧ w'.cell? ⟨w1.heap.size, 1, none⟩ = some (.int .i64 3) ∧ w'.cell? ⟨w1.heap.size, 2, none⟩ = some (.int .i64 1) ∧ w'.cell? ⟨w1.heap.size, 3, none⟩ = some (.int .i64 (0))) := fun w' hb => ⟨hb, (kV.below hb kV.lt).cell 0, (kV.below hb kV.lt).cell 1, (kV.below hb kV.lt).cell 2, (kV.below hb kV.lt).cell 3⟩
  have AllS := Lib.hid allS
  have bV : Below w.heap.size w V := by rw [hV]; exact below_on hb1 ((Below.refl _ _).alloc (Nat.le_refl _) _)
  have BV := Lib.hid bV
  clear allS hV kV bV hb1
  go_region_held3 (fun w' => Below V.heap.size V w' ∧ w'.cell? ⟨w1.heap.size, 0, none⟩ = some (.int .i64 43) ∧ w'.cell? ⟨w1.heap.size, 1, none⟩ = some (.int .i64 3) ∧ w'.cell? ⟨w1.heap.size, 2, none⟩ = some (.int .i64 1) ∧ w'.cell? ⟨w1.heap.size, 3, none⟩ = some (.int .i64 (0))) (first | (go_split_ands; exact AllS.out _ (by go_grown)) | (exact AllS.out _ (by go_grown))) (first | (go_at_call 182; go_split_ands; refine (shiftOf_5 i _ hi _ Hs).mono ?_; rintro e v1 ⟨rfl, hv⟩; have hBv1 : Below V.heap.size V v1 := below_on (by go_grown) hv; clear hv) | (go_at_call 183; go_split_ands; refine (maskOf_5 _).mono ?_; rintro e v2 ⟨rfl, hv⟩; have hBv2 : Below V.heap.size V v2 := below_on (by go_grown) hv; clear hv))
  go_wp2
  go_ret
  refine ⟨?_, below_on BV.out hBv2⟩
  have hn := Hn.out
  simp
  rw [hn]
  simp only [IntKind.wrap_i64]
  omega
theorem withEntry_5 (W i v : Nat) (n : Int) (w : World) (hW : W < 18446744073709551616) (hi : i < 3) (hv : v < 2) (hn : n = (v : Int) + (0)) :
    Calls Try.prog 155 #[.int .u64 W, .int .i64 5, .int .i64 i, .int .i64 n] w fun e w' => e = .returned (.int .u64 (wset W (fS 5 i) 1 v : Nat)) ∧ Below w.heap.size w w' := by
  subst hn
  have hs : ((fS 5 i : Nat) : Int) = 43 + (3 - 1 - (i : Int)) * 1 := by
    have e : fS 5 i = 43 + (3 - 1 - i) * 1 := rfl
    rw [e]; omega
  have hsl : fS 5 i ≤ 45 := by omega
  have Hw := Lib.hid (with_all W (fS 5 i) 1 v 1 rfl hW (by omega) hsl hv)
  generalize fS 5 i = s at *
  have Hs := Lib.hid hs.symm
  clear hs
  go_enter Try.func155, Try.ntmps155
  go_wp2_with fail
  refine (fieldOf_5 _).mono ?_
  rintro e w1 ⟨rfl, hb1⟩
  have sz1 := hb1.size
  go_wp2_with fail
  obtain ⟨V, hV⟩ : ∃ V, V = w1.alloc (.cells #[.int .i64 43, .int .i64 3, .int .i64 1, .int .i64 (0)] 218) := ⟨_, rfl⟩
  rw [← hV]
  have kV : Bk V w1.heap.size 218 #[.int .i64 43, .int .i64 3, .int .i64 1, .int .i64 (0)] := by rw [hV]; exact Bk.new _ _ _
  have allS : ∀ w', Below V.heap.size V w' → (Below V.heap.size V w' ∧ w'.cell? ⟨w1.heap.size, 0, none⟩ = some (.int .i64 43) ∧ w'.cell? ⟨w1.heap.size, 1, none⟩ = some (.int .i64 3) ∧ w'.cell? ⟨w1.heap.size, 2, none⟩ = some (.int .i64 1) ∧ w'.cell? ⟨w1.heap.size, 3, none⟩ = some (.int .i64 (0))) := fun w' hb => ⟨hb, (kV.below hb kV.lt).cell 0, (kV.below hb kV.lt).cell 1, (kV.below hb kV.lt).cell 2, (kV.below hb kV.lt).cell 3⟩
  have AllS := Lib.hid allS
  have bV : Below w.heap.size w V := by rw [hV]; exact below_on hb1 ((Below.refl _ _).alloc (Nat.le_refl _) _)
  have BV := Lib.hid bV
  have c0 := kV.cell 0
  have c1 := kV.cell 1
  have c2 := kV.cell 2
  have c3 := kV.cell 3
  simp only [List.getElem?_toArray, List.getElem?_cons_zero, List.getElem?_cons_succ] at c0 c1 c2 c3
  clear allS hV bV hb1
  go_wp2_with fail
  clear c0 c1 c2 c3
  refine (shiftOf_5 i _ hi _ Hs).mono ?_
  rintro e V2 ⟨rfl, hb2⟩
  have BV2 := Lib.hid (below_on BV.out hb2)
  have kV2 := kV.below hb2 kV.lt
  have allS2 : ∀ w', Below V2.heap.size V2 w' → (Below V2.heap.size V2 w' ∧ w'.cell? ⟨w1.heap.size, 0, none⟩ = some (.int .i64 43) ∧ w'.cell? ⟨w1.heap.size, 1, none⟩ = some (.int .i64 3) ∧ w'.cell? ⟨w1.heap.size, 2, none⟩ = some (.int .i64 1) ∧ w'.cell? ⟨w1.heap.size, 3, none⟩ = some (.int .i64 (0))) := fun w' hb => ⟨hb, (kV2.below hb kV2.lt).cell 0, (kV2.below hb kV2.lt).cell 1, (kV2.below hb kV2.lt).cell 2, (kV2.below hb kV2.lt).cell 3⟩
  clear AllS
  have AllS := Lib.hid allS2
  clear allS2 kV kV2 hb2
  go_wp2_with fail
  go_region_held3 (fun w' => Below V2.heap.size V2 w' ∧ w'.cell? ⟨w1.heap.size, 0, none⟩ = some (.int .i64 43) ∧ w'.cell? ⟨w1.heap.size, 1, none⟩ = some (.int .i64 3) ∧ w'.cell? ⟨w1.heap.size, 2, none⟩ = some (.int .i64 1) ∧ w'.cell? ⟨w1.heap.size, 3, none⟩ = some (.int .i64 (0))) (first | (go_split_ands; exact AllS.out _ (by go_grown)) | (exact AllS.out _ (by go_grown))) (first | (go_at_call 183; go_split_ands; refine (maskOf_5 _).mono ?_; rintro e v2 ⟨rfl, hv2⟩; have hBv2 : Below V2.heap.size V2 v2 := below_on (by go_grown) hv2; clear hv2))
  go_wp2
  go_ret
  refine ⟨?_, below_on BV2.out hBv2⟩
  have hw := Hw.out
  try simp only [Int.one_mul] at hw
  have e1 : IntKind.i64.wrap (v : Int) = v := wrap64_small (by omega) (by omega)
  have e2 : IntKind.u64.wrap (v : Int) = v := wrapu_small (by omega) (by omega)
  have e3 : (v : Int) + -1 + 1 = v := by omega
  simp [e1, e2, hw]
theorem entry_6 (W i : Nat) (w : World) (hW : W < 18446744073709551616) (hi : i < 3) :
    Calls Try.prog 152 #[.int .u64 W, .int .i64 6, .int .i64 i] w fun e w' => e = .returned (.int .i64 ((wget W (fS 6 i) 1 : Nat) + (0 : Int))) ∧ Below w.heap.size w w' := by
  have hs : ((fS 6 i : Nat) : Int) = 0 + (3 - 1 - (i : Int)) * 1 := by
    have e : fS 6 i = 0 + (3 - 1 - i) * 1 := rfl
    rw [e]; omega
  have hn : bits .and .u64 ((W : Int) / 2 ^ (fS 6 i)) 1 = ((wget W (fS 6 i) 1 : Nat) : Int) := by have := entry_num W (fS 6 i) 1 (fS 6 i : Nat) rfl hW (by omega); simpa using this
  have hlt := wget_lt W (fS 6 i) 1 (by omega)
  have hsl : fS 6 i ≤ 45 := by omega
  generalize fS 6 i = s at *
  have Hs := Lib.hid hs.symm
  have Hn := Lib.hid hn
  clear hs hn
  go_enter Try.func152, Try.ntmps152
  go_wp2_with fail
  refine (fieldOf_6 _).mono ?_
  rintro e w1 ⟨rfl, hb1⟩
  have sz1 := hb1.size
  go_wp2_with fail
  obtain ⟨V, hV⟩ : ∃ V, V = w1.alloc (.cells #[.int .i64 0, .int .i64 3, .int .i64 1, .int .i64 (0)] 218) := ⟨_, rfl⟩
  rw [← hV]
  have kV : Bk V w1.heap.size 218 #[.int .i64 0, .int .i64 3, .int .i64 1, .int .i64 (0)] := by rw [hV]; exact Bk.new _ _ _
  have allS : ∀ w', Below V.heap.size V w' → (Below V.heap.size V w' ∧ w'.cell? ⟨w1.heap.size, 0, none⟩ = some (.int .i64 0) ∧ w'.cell? ⟨w1.heap.size, 1, none⟩ = some (.int .i64 3) ∧ w'.cell? ⟨w1.heap.size, 2, none⟩ = some (.int .i64 1) ∧ w'.cell? ⟨w1.heap.size, 3, none⟩ = some (.int .i64 (0))) := fun w' hb => ⟨hb, (kV.below hb kV.lt).cell 0, (kV.below hb kV.lt).cell 1, (kV.below hb kV.lt).cell 2, (kV.below hb kV.lt).cell 3⟩
  have AllS := Lib.hid allS
  have bV : Below w.heap.size w V := by rw [hV]; exact below_on hb1 ((Below.refl _ _).alloc (Nat.le_refl _) _)
  have BV := Lib.hid bV
  clear allS hV kV bV hb1
  go_region_held3 (fun w' => Below V.heap.size V w' ∧ w'.cell? ⟨w1.heap.size, 0, none⟩ = some (.int .i64 0) ∧ w'.cell? ⟨w1.heap.size, 1, none⟩ = some (.int .i64 3) ∧ w'.cell? ⟨w1.heap.size, 2, none⟩ = some (.int .i64 1) ∧ w'.cell? ⟨w1.heap.size, 3, none⟩ = some (.int .i64 (0))) (first | (go_split_ands; exact AllS.out _ (by go_grown)) | (exact AllS.out _ (by go_grown))) (first | (go_at_call 182; go_split_ands; refine (shiftOf_6 i _ hi _ Hs).mono ?_; rintro e v1 ⟨rfl, hv⟩; have hBv1 : Below V.heap.size V v1 := below_on (by go_grown) hv; clear hv) | (go_at_call 183; go_split_ands; refine (maskOf_6 _).mono ?_; rintro e v2 ⟨rfl, hv⟩; have hBv2 : Below V.heap.size V v2 := below_on (by go_grown) hv; clear hv))
  go_wp2
  go_ret
  refine ⟨?_, below_on BV.out hBv2⟩
  have hn := Hn.out
  simp
  rw [hn]
  simp only [IntKind.wrap_i64]
  omega
theorem withEntry_6 (W i v : Nat) (n : Int) (w : World) (hW : W < 18446744073709551616) (hi : i < 3) (hv : v < 2) (hn : n = (v : Int) + (0)) :
    Calls Try.prog 155 #[.int .u64 W, .int .i64 6, .int .i64 i, .int .i64 n] w fun e w' => e = .returned (.int .u64 (wset W (fS 6 i) 1 v : Nat)) ∧ Below w.heap.size w w' := by
  subst hn
  have hs : ((fS 6 i : Nat) : Int) = 0 + (3 - 1 - (i : Int)) * 1 := by
    have e : fS 6 i = 0 + (3 - 1 - i) * 1 := rfl
    rw [e]; omega
  have hsl : fS 6 i ≤ 45 := by omega
  have Hw := Lib.hid (with_all W (fS 6 i) 1 v 1 rfl hW (by omega) hsl hv)
  generalize fS 6 i = s at *
  have Hs := Lib.hid hs.symm
  clear hs
  go_enter Try.func155, Try.ntmps155
  go_wp2_with fail
  refine (fieldOf_6 _).mono ?_
  rintro e w1 ⟨rfl, hb1⟩
  have sz1 := hb1.size
  go_wp2_with fail
  obtain ⟨V, hV⟩ : ∃ V, V = w1.alloc (.cells #[.int .i64 0, .int .i64 3, .int .i64 1, .int .i64 (0)] 218) := ⟨_, rfl⟩
  rw [← hV]
  have kV : Bk V w1.heap.size 218 #[.int .i64 0, .int .i64 3, .int .i64 1, .int .i64 (0)] := by rw [hV]; exact Bk.new _ _ _
  have allS : ∀ w', Below V.heap.size V w' → (Below V.heap.size V w' ∧ w'.cell? ⟨w1.heap.size, 0, none⟩ = some (.int .i64 0) ∧ w'.cell? ⟨w1.heap.size, 1, none⟩ = some (.int .i64 3) ∧ w'.cell? ⟨w1.heap.size, 2, none⟩ = some (.int .i64 1) ∧ w'.cell? ⟨w1.heap.size, 3, none⟩ = some (.int .i64 (0))) := fun w' hb => ⟨hb, (kV.below hb kV.lt).cell 0, (kV.below hb kV.lt).cell 1, (kV.below hb kV.lt).cell 2, (kV.below hb kV.lt).cell 3⟩
  have AllS := Lib.hid allS
  have bV : Below w.heap.size w V := by rw [hV]; exact below_on hb1 ((Below.refl _ _).alloc (Nat.le_refl _) _)
  have BV := Lib.hid bV
  have c0 := kV.cell 0
  have c1 := kV.cell 1
  have c2 := kV.cell 2
  have c3 := kV.cell 3
  simp only [List.getElem?_toArray, List.getElem?_cons_zero, List.getElem?_cons_succ] at c0 c1 c2 c3
  clear allS hV bV hb1
  go_wp2_with fail
  clear c0 c1 c2 c3
  refine (shiftOf_6 i _ hi _ Hs).mono ?_
  rintro e V2 ⟨rfl, hb2⟩
  have BV2 := Lib.hid (below_on BV.out hb2)
  have kV2 := kV.below hb2 kV.lt
  have allS2 : ∀ w', Below V2.heap.size V2 w' → (Below V2.heap.size V2 w' ∧ w'.cell? ⟨w1.heap.size, 0, none⟩ = some (.int .i64 0) ∧ w'.cell? ⟨w1.heap.size, 1, none⟩ = some (.int .i64 3) ∧ w'.cell? ⟨w1.heap.size, 2, none⟩ = some (.int .i64 1) ∧ w'.cell? ⟨w1.heap.size, 3, none⟩ = some (.int .i64 (0))) := fun w' hb => ⟨hb, (kV2.below hb kV2.lt).cell 0, (kV2.below hb kV2.lt).cell 1, (kV2.below hb kV2.lt).cell 2, (kV2.below hb kV2.lt).cell 3⟩
  clear AllS
  have AllS := Lib.hid allS2
  clear allS2 kV kV2 hb2
  go_wp2_with fail
  go_region_held3 (fun w' => Below V2.heap.size V2 w' ∧ w'.cell? ⟨w1.heap.size, 0, none⟩ = some (.int .i64 0) ∧ w'.cell? ⟨w1.heap.size, 1, none⟩ = some (.int .i64 3) ∧ w'.cell? ⟨w1.heap.size, 2, none⟩ = some (.int .i64 1) ∧ w'.cell? ⟨w1.heap.size, 3, none⟩ = some (.int .i64 (0))) (first | (go_split_ands; exact AllS.out _ (by go_grown)) | (exact AllS.out _ (by go_grown))) (first | (go_at_call 183; go_split_ands; refine (maskOf_6 _).mono ?_; rintro e v2 ⟨rfl, hv2⟩; have hBv2 : Below V2.heap.size V2 v2 := below_on (by go_grown) hv2; clear hv2))
  go_wp2
  go_ret
  refine ⟨?_, below_on BV2.out hBv2⟩
  have hw := Hw.out
  try simp only [Int.one_mul] at hw
  have e1 : IntKind.i64.wrap (v : Int) = v := wrap64_small (by omega) (by omega)
  have e2 : IntKind.u64.wrap (v : Int) = v := wrapu_small (by omega) (by omega)
  have e3 : (v : Int) + -1 + 1 = v := by omega
  simp [e1, e2, hw]
theorem entry_7 (W i : Nat) (w : World) (hW : W < 18446744073709551616) (hi : i < 3) :
    Calls Try.prog 152 #[.int .u64 W, .int .i64 7, .int .i64 i] w fun e w' => e = .returned (.int .i64 ((wget W (fS 7 i) 8 : Nat) + (0 : Int))) ∧ Below w.heap.size w w' := by
  have hs : ((fS 7 i : Nat) : Int) = 0 + (3 - 1 - (i : Int)) * 8 := by
    have e : fS 7 i = 0 + (3 - 1 - i) * 8 := rfl
    rw [e]; omega
  have hn : bits .and .u64 ((W : Int) / 2 ^ (fS 7 i)) 255 = ((wget W (fS 7 i) 8 : Nat) : Int) := by have := entry_num W (fS 7 i) 8 (fS 7 i : Nat) rfl hW (by omega); simpa using this
  have hlt := wget_lt8 W (fS 7 i) 8 (by omega)
  have hsl : fS 7 i ≤ 45 := by omega
  generalize fS 7 i = s at *
  have Hs := Lib.hid hs.symm
  have Hn := Lib.hid hn
  clear hs hn
  go_enter Try.func152, Try.ntmps152
  go_wp2_with fail
  refine (fieldOf_7 _).mono ?_
  rintro e w1 ⟨rfl, hb1⟩
  have sz1 := hb1.size
  go_wp2_with fail
  obtain ⟨V, hV⟩ : ∃ V, V = w1.alloc (.cells #[.int .i64 0, .int .i64 3, .int .i64 8, .int .i64 (0)] 218) := ⟨_, rfl⟩
  rw [← hV]
  have kV : Bk V w1.heap.size 218 #[.int .i64 0, .int .i64 3, .int .i64 8, .int .i64 (0)] := by rw [hV]; exact Bk.new _ _ _
  have allS : ∀ w', Below V.heap.size V w' → (Below V.heap.size V w' ∧ w'.cell? ⟨w1.heap.size, 0, none⟩ = some (.int .i64 0) ∧ w'.cell? ⟨w1.heap.size, 1, none⟩ = some (.int .i64 3) ∧ w'.cell? ⟨w1.heap.size, 2, none⟩ = some (.int .i64 8) ∧ w'.cell? ⟨w1.heap.size, 3, none⟩ = some (.int .i64 (0))) := fun w' hb => ⟨hb, (kV.below hb kV.lt).cell 0, (kV.below hb kV.lt).cell 1, (kV.below hb kV.lt).cell 2, (kV.below hb kV.lt).cell 3⟩
  have AllS := Lib.hid allS
  have bV : Below w.heap.size w V := by rw [hV]; exact below_on hb1 ((Below.refl _ _).alloc (Nat.le_refl _) _)
  have BV := Lib.hid bV
  clear allS hV kV bV hb1
  go_region_held3 (fun w' => Below V.heap.size V w' ∧ w'.cell? ⟨w1.heap.size, 0, none⟩ = some (.int .i64 0) ∧ w'.cell? ⟨w1.heap.size, 1, none⟩ = some (.int .i64 3) ∧ w'.cell? ⟨w1.heap.size, 2, none⟩ = some (.int .i64 8) ∧ w'.cell? ⟨w1.heap.size, 3, none⟩ = some (.int .i64 (0))) (first | (go_split_ands; exact AllS.out _ (by go_grown)) | (exact AllS.out _ (by go_grown))) (first | (go_at_call 182; go_split_ands; refine (shiftOf_7 i _ hi _ Hs).mono ?_; rintro e v1 ⟨rfl, hv⟩; have hBv1 : Below V.heap.size V v1 := below_on (by go_grown) hv; clear hv) | (go_at_call 183; go_split_ands; refine (maskOf_7 _).mono ?_; rintro e v2 ⟨rfl, hv⟩; have hBv2 : Below V.heap.size V v2 := below_on (by go_grown) hv; clear hv))
  go_wp2
  go_ret
  refine ⟨?_, below_on BV.out hBv2⟩
  have hn := Hn.out
  simp
  rw [hn]
  simp only [IntKind.wrap_i64]
  omega
theorem withEntry_7 (W i v : Nat) (n : Int) (w : World) (hW : W < 18446744073709551616) (hi : i < 3) (hv : v < 256) (hn : n = (v : Int) + (0)) :
    Calls Try.prog 155 #[.int .u64 W, .int .i64 7, .int .i64 i, .int .i64 n] w fun e w' => e = .returned (.int .u64 (wset W (fS 7 i) 8 v : Nat)) ∧ Below w.heap.size w w' := by
  subst hn
  have hs : ((fS 7 i : Nat) : Int) = 0 + (3 - 1 - (i : Int)) * 8 := by
    have e : fS 7 i = 0 + (3 - 1 - i) * 8 := rfl
    rw [e]; omega
  have hsl : fS 7 i ≤ 45 := by omega
  have Hw := Lib.hid (with_all W (fS 7 i) 8 v 255 rfl hW (by omega) hsl hv)
  generalize fS 7 i = s at *
  have Hs := Lib.hid hs.symm
  clear hs
  go_enter Try.func155, Try.ntmps155
  go_wp2_with fail
  refine (fieldOf_7 _).mono ?_
  rintro e w1 ⟨rfl, hb1⟩
  have sz1 := hb1.size
  go_wp2_with fail
  obtain ⟨V, hV⟩ : ∃ V, V = w1.alloc (.cells #[.int .i64 0, .int .i64 3, .int .i64 8, .int .i64 (0)] 218) := ⟨_, rfl⟩
  rw [← hV]
  have kV : Bk V w1.heap.size 218 #[.int .i64 0, .int .i64 3, .int .i64 8, .int .i64 (0)] := by rw [hV]; exact Bk.new _ _ _
  have allS : ∀ w', Below V.heap.size V w' → (Below V.heap.size V w' ∧ w'.cell? ⟨w1.heap.size, 0, none⟩ = some (.int .i64 0) ∧ w'.cell? ⟨w1.heap.size, 1, none⟩ = some (.int .i64 3) ∧ w'.cell? ⟨w1.heap.size, 2, none⟩ = some (.int .i64 8) ∧ w'.cell? ⟨w1.heap.size, 3, none⟩ = some (.int .i64 (0))) := fun w' hb => ⟨hb, (kV.below hb kV.lt).cell 0, (kV.below hb kV.lt).cell 1, (kV.below hb kV.lt).cell 2, (kV.below hb kV.lt).cell 3⟩
  have AllS := Lib.hid allS
  have bV : Below w.heap.size w V := by rw [hV]; exact below_on hb1 ((Below.refl _ _).alloc (Nat.le_refl _) _)
  have BV := Lib.hid bV
  have c0 := kV.cell 0
  have c1 := kV.cell 1
  have c2 := kV.cell 2
  have c3 := kV.cell 3
  simp only [List.getElem?_toArray, List.getElem?_cons_zero, List.getElem?_cons_succ] at c0 c1 c2 c3
  clear allS hV bV hb1
  go_wp2_with fail
  clear c0 c1 c2 c3
  refine (shiftOf_7 i _ hi _ Hs).mono ?_
  rintro e V2 ⟨rfl, hb2⟩
  have BV2 := Lib.hid (below_on BV.out hb2)
  have kV2 := kV.below hb2 kV.lt
  have allS2 : ∀ w', Below V2.heap.size V2 w' → (Below V2.heap.size V2 w' ∧ w'.cell? ⟨w1.heap.size, 0, none⟩ = some (.int .i64 0) ∧ w'.cell? ⟨w1.heap.size, 1, none⟩ = some (.int .i64 3) ∧ w'.cell? ⟨w1.heap.size, 2, none⟩ = some (.int .i64 8) ∧ w'.cell? ⟨w1.heap.size, 3, none⟩ = some (.int .i64 (0))) := fun w' hb => ⟨hb, (kV2.below hb kV2.lt).cell 0, (kV2.below hb kV2.lt).cell 1, (kV2.below hb kV2.lt).cell 2, (kV2.below hb kV2.lt).cell 3⟩
  clear AllS
  have AllS := Lib.hid allS2
  clear allS2 kV kV2 hb2
  go_wp2_with fail
  go_region_held3 (fun w' => Below V2.heap.size V2 w' ∧ w'.cell? ⟨w1.heap.size, 0, none⟩ = some (.int .i64 0) ∧ w'.cell? ⟨w1.heap.size, 1, none⟩ = some (.int .i64 3) ∧ w'.cell? ⟨w1.heap.size, 2, none⟩ = some (.int .i64 8) ∧ w'.cell? ⟨w1.heap.size, 3, none⟩ = some (.int .i64 (0))) (first | (go_split_ands; exact AllS.out _ (by go_grown)) | (exact AllS.out _ (by go_grown))) (first | (go_at_call 183; go_split_ands; refine (maskOf_7 _).mono ?_; rintro e v2 ⟨rfl, hv2⟩; have hBv2 : Below V2.heap.size V2 v2 := below_on (by go_grown) hv2; clear hv2))
  go_wp2
  go_ret
  refine ⟨?_, below_on BV2.out hBv2⟩
  have hw := Hw.out
  try simp only [Int.one_mul] at hw
  have e1 : IntKind.i64.wrap (v : Int) = v := wrap64_small (by omega) (by omega)
  have e2 : IntKind.u64.wrap (v : Int) = v := wrapu_small (by omega) (by omega)
  have e3 : (v : Int) + -1 + 1 = v := by omega
  simp [e1, e2, hw]
theorem entry_8 (W i : Nat) (w : World) (hW : W < 18446744073709551616) (hi : i < 3) :
    Calls Try.prog 152 #[.int .u64 W, .int .i64 8, .int .i64 i] w fun e w' => e = .returned (.int .i64 ((wget W (fS 8 i) 13 : Nat) + (0 : Int))) ∧ Below w.heap.size w w' := by
  have hs : ((fS 8 i : Nat) : Int) = 0 + (3 - 1 - (i : Int)) * 13 := by
    have e : fS 8 i = 0 + (3 - 1 - i) * 13 := rfl
    rw [e]; omega
  have hn : bits .and .u64 ((W : Int) / 2 ^ (fS 8 i)) 8191 = ((wget W (fS 8 i) 13 : Nat) : Int) := by have := entry_num W (fS 8 i) 13 (fS 8 i : Nat) rfl hW (by omega); simpa using this
  have hlt := wget_lt8 W (fS 8 i) 13 (by omega)
  have hsl : fS 8 i ≤ 45 := by omega
  generalize fS 8 i = s at *
  have Hs := Lib.hid hs.symm
  have Hn := Lib.hid hn
  clear hs hn
  go_enter Try.func152, Try.ntmps152
  go_wp2_with fail
  refine (fieldOf_8 _).mono ?_
  rintro e w1 ⟨rfl, hb1⟩
  have sz1 := hb1.size
  go_wp2_with fail
  obtain ⟨V, hV⟩ : ∃ V, V = w1.alloc (.cells #[.int .i64 0, .int .i64 3, .int .i64 13, .int .i64 (0)] 218) := ⟨_, rfl⟩
  rw [← hV]
  have kV : Bk V w1.heap.size 218 #[.int .i64 0, .int .i64 3, .int .i64 13, .int .i64 (0)] := by rw [hV]; exact Bk.new _ _ _
  have allS : ∀ w', Below V.heap.size V w' → (Below V.heap.size V w' ∧ w'.cell? ⟨w1.heap.size, 0, none⟩ = some (.int .i64 0) ∧ w'.cell? ⟨w1.heap.size, 1, none⟩ = some (.int .i64 3) ∧ w'.cell? ⟨w1.heap.size, 2, none⟩ = some (.int .i64 13) ∧ w'.cell? ⟨w1.heap.size, 3, none⟩ = some (.int .i64 (0))) := fun w' hb => ⟨hb, (kV.below hb kV.lt).cell 0, (kV.below hb kV.lt).cell 1, (kV.below hb kV.lt).cell 2, (kV.below hb kV.lt).cell 3⟩
  have AllS := Lib.hid allS
  have bV : Below w.heap.size w V := by rw [hV]; exact below_on hb1 ((Below.refl _ _).alloc (Nat.le_refl _) _)
  have BV := Lib.hid bV
  clear allS hV kV bV hb1
  go_region_held3 (fun w' => Below V.heap.size V w' ∧ w'.cell? ⟨w1.heap.size, 0, none⟩ = some (.int .i64 0) ∧ w'.cell? ⟨w1.heap.size, 1, none⟩ = some (.int .i64 3) ∧ w'.cell? ⟨w1.heap.size, 2, none⟩ = some (.int .i64 13) ∧ w'.cell? ⟨w1.heap.size, 3, none⟩ = some (.int .i64 (0))) (first | (go_split_ands; exact AllS.out _ (by go_grown)) | (exact AllS.out _ (by go_grown))) (first | (go_at_call 182; go_split_ands; refine (shiftOf_8 i _ hi _ Hs).mono ?_; rintro e v1 ⟨rfl, hv⟩; have hBv1 : Below V.heap.size V v1 := below_on (by go_grown) hv; clear hv) | (go_at_call 183; go_split_ands; refine (maskOf_8 _).mono ?_; rintro e v2 ⟨rfl, hv⟩; have hBv2 : Below V.heap.size V v2 := below_on (by go_grown) hv; clear hv))
  go_wp2
  go_ret
  refine ⟨?_, below_on BV.out hBv2⟩
  have hn := Hn.out
  simp
  rw [hn]
  simp only [IntKind.wrap_i64]
  omega
theorem withEntry_8 (W i v : Nat) (n : Int) (w : World) (hW : W < 18446744073709551616) (hi : i < 3) (hv : v < 8192) (hn : n = (v : Int) + (0)) :
    Calls Try.prog 155 #[.int .u64 W, .int .i64 8, .int .i64 i, .int .i64 n] w fun e w' => e = .returned (.int .u64 (wset W (fS 8 i) 13 v : Nat)) ∧ Below w.heap.size w w' := by
  subst hn
  have hs : ((fS 8 i : Nat) : Int) = 0 + (3 - 1 - (i : Int)) * 13 := by
    have e : fS 8 i = 0 + (3 - 1 - i) * 13 := rfl
    rw [e]; omega
  have hsl : fS 8 i ≤ 45 := by omega
  have Hw := Lib.hid (with_all W (fS 8 i) 13 v 8191 rfl hW (by omega) hsl hv)
  generalize fS 8 i = s at *
  have Hs := Lib.hid hs.symm
  clear hs
  go_enter Try.func155, Try.ntmps155
  go_wp2_with fail
  refine (fieldOf_8 _).mono ?_
  rintro e w1 ⟨rfl, hb1⟩
  have sz1 := hb1.size
  go_wp2_with fail
  obtain ⟨V, hV⟩ : ∃ V, V = w1.alloc (.cells #[.int .i64 0, .int .i64 3, .int .i64 13, .int .i64 (0)] 218) := ⟨_, rfl⟩
  rw [← hV]
  have kV : Bk V w1.heap.size 218 #[.int .i64 0, .int .i64 3, .int .i64 13, .int .i64 (0)] := by rw [hV]; exact Bk.new _ _ _
  have allS : ∀ w', Below V.heap.size V w' → (Below V.heap.size V w' ∧ w'.cell? ⟨w1.heap.size, 0, none⟩ = some (.int .i64 0) ∧ w'.cell? ⟨w1.heap.size, 1, none⟩ = some (.int .i64 3) ∧ w'.cell? ⟨w1.heap.size, 2, none⟩ = some (.int .i64 13) ∧ w'.cell? ⟨w1.heap.size, 3, none⟩ = some (.int .i64 (0))) := fun w' hb => ⟨hb, (kV.below hb kV.lt).cell 0, (kV.below hb kV.lt).cell 1, (kV.below hb kV.lt).cell 2, (kV.below hb kV.lt).cell 3⟩
  have AllS := Lib.hid allS
  have bV : Below w.heap.size w V := by rw [hV]; exact below_on hb1 ((Below.refl _ _).alloc (Nat.le_refl _) _)
  have BV := Lib.hid bV
  have c0 := kV.cell 0
  have c1 := kV.cell 1
  have c2 := kV.cell 2
  have c3 := kV.cell 3
  simp only [List.getElem?_toArray, List.getElem?_cons_zero, List.getElem?_cons_succ] at c0 c1 c2 c3
  clear allS hV bV hb1
  go_wp2_with fail
  clear c0 c1 c2 c3
  refine (shiftOf_8 i _ hi _ Hs).mono ?_
  rintro e V2 ⟨rfl, hb2⟩
  have BV2 := Lib.hid (below_on BV.out hb2)
  have kV2 := kV.below hb2 kV.lt
  have allS2 : ∀ w', Below V2.heap.size V2 w' → (Below V2.heap.size V2 w' ∧ w'.cell? ⟨w1.heap.size, 0, none⟩ = some (.int .i64 0) ∧ w'.cell? ⟨w1.heap.size, 1, none⟩ = some (.int .i64 3) ∧ w'.cell? ⟨w1.heap.size, 2, none⟩ = some (.int .i64 13) ∧ w'.cell? ⟨w1.heap.size, 3, none⟩ = some (.int .i64 (0))) := fun w' hb => ⟨hb, (kV2.below hb kV2.lt).cell 0, (kV2.below hb kV2.lt).cell 1, (kV2.below hb kV2.lt).cell 2, (kV2.below hb kV2.lt).cell 3⟩
  clear AllS
  have AllS := Lib.hid allS2
  clear allS2 kV kV2 hb2
  go_wp2_with fail
  go_region_held3 (fun w' => Below V2.heap.size V2 w' ∧ w'.cell? ⟨w1.heap.size, 0, none⟩ = some (.int .i64 0) ∧ w'.cell? ⟨w1.heap.size, 1, none⟩ = some (.int .i64 3) ∧ w'.cell? ⟨w1.heap.size, 2, none⟩ = some (.int .i64 13) ∧ w'.cell? ⟨w1.heap.size, 3, none⟩ = some (.int .i64 (0))) (first | (go_split_ands; exact AllS.out _ (by go_grown)) | (exact AllS.out _ (by go_grown))) (first | (go_at_call 183; go_split_ands; refine (maskOf_8 _).mono ?_; rintro e v2 ⟨rfl, hv2⟩; have hBv2 : Below V2.heap.size V2 v2 := below_on (by go_grown) hv2; clear hv2))
  go_wp2
  go_ret
  refine ⟨?_, below_on BV2.out hBv2⟩
  have hw := Hw.out
  try simp only [Int.one_mul] at hw
  have e1 : IntKind.i64.wrap (v : Int) = v := wrap64_small (by omega) (by omega)
  have e2 : IntKind.u64.wrap (v : Int) = v := wrapu_small (by omega) (by omega)
  have e3 : (v : Int) + -1 + 1 = v := by omega
  simp [e1, e2, hw]
theorem entry_9 (W i : Nat) (w : World) (hW : W < 18446744073709551616) (hi : i < 1) :
    Calls Try.prog 152 #[.int .u64 W, .int .i64 9, .int .i64 i] w fun e w' => e = .returned (.int .i64 ((wget W (fS 9 i) 2 : Nat) + (0 : Int))) ∧ Below w.heap.size w w' := by
  have hs : ((fS 9 i : Nat) : Int) = 39 + (1 - 1 - (i : Int)) * 2 := by
    have e : fS 9 i = 39 + (1 - 1 - i) * 2 := rfl
    rw [e]; omega
  have hn : bits .and .u64 ((W : Int) / 2 ^ (fS 9 i)) 3 = ((wget W (fS 9 i) 2 : Nat) : Int) := by have := entry_num W (fS 9 i) 2 (fS 9 i : Nat) rfl hW (by omega); simpa using this
  have hlt := wget_lt W (fS 9 i) 2 (by omega)
  have hsl : fS 9 i ≤ 45 := by omega
  generalize fS 9 i = s at *
  have Hs := Lib.hid hs.symm
  have Hn := Lib.hid hn
  clear hs hn
  go_enter Try.func152, Try.ntmps152
  go_wp2_with fail
  refine (fieldOf_9 _).mono ?_
  rintro e w1 ⟨rfl, hb1⟩
  have sz1 := hb1.size
  go_wp2_with fail
  obtain ⟨V, hV⟩ : ∃ V, V = w1.alloc (.cells #[.int .i64 39, .int .i64 1, .int .i64 2, .int .i64 (0)] 218) := ⟨_, rfl⟩
  rw [← hV]
  have kV : Bk V w1.heap.size 218 #[.int .i64 39, .int .i64 1, .int .i64 2, .int .i64 (0)] := by rw [hV]; exact Bk.new _ _ _
  have allS : ∀ w', Below V.heap.size V w' → (Below V.heap.size V w' ∧ w'.cell? ⟨w1.heap.size, 0, none⟩ = some (.int .i64 39) ∧ w'.cell? ⟨w1.heap.size, 1, none⟩ = some (.int .i64 1) ∧ w'.cell? ⟨w1.heap.size, 2, none⟩ = some (.int .i64 2) ∧ w'.cell? ⟨w1.heap.size, 3, none⟩ = some (.int .i64 (0))) := fun w' hb => ⟨hb, (kV.below hb kV.lt).cell 0, (kV.below hb kV.lt).cell 1, (kV.below hb kV.lt).cell 2, (kV.below hb kV.lt).cell 3⟩
  have AllS := Lib.hid allS
  have bV : Below w.heap.size w V := by rw [hV]; exact below_on hb1 ((Below.refl _ _).alloc (Nat.le_refl _) _)
  have BV := Lib.hid bV
  clear allS hV kV bV hb1
  go_region_held3 (fun w' => Below V.heap.size V w' ∧ w'.cell? ⟨w1.heap.size, 0, none⟩ = some (.int .i64 39) ∧ w'.cell? ⟨w1.heap.size, 1, none⟩ = some (.int .i64 1) ∧ w'.cell? ⟨w1.heap.size, 2, none⟩ = some (.int .i64 2) ∧ w'.cell? ⟨w1.heap.size, 3, none⟩ = some (.int .i64 (0))) (first | (go_split_ands; exact AllS.out _ (by go_grown)) | (exact AllS.out _ (by go_grown))) (first | (go_at_call 182; go_split_ands; refine (shiftOf_9 i _ hi _ Hs).mono ?_; rintro e v1 ⟨rfl, hv⟩; have hBv1 : Below V.heap.size V v1 := below_on (by go_grown) hv; clear hv) | (go_at_call 183; go_split_ands; refine (maskOf_9 _).mono ?_; rintro e v2 ⟨rfl, hv⟩; have hBv2 : Below V.heap.size V v2 := below_on (by go_grown) hv; clear hv))
  go_wp2
  go_ret
  refine ⟨?_, below_on BV.out hBv2⟩
  have hn := Hn.out
  simp
  rw [hn]
  simp only [IntKind.wrap_i64]
  omega
theorem withEntry_9 (W i v : Nat) (n : Int) (w : World) (hW : W < 18446744073709551616) (hi : i < 1) (hv : v < 4) (hn : n = (v : Int) + (0)) :
    Calls Try.prog 155 #[.int .u64 W, .int .i64 9, .int .i64 i, .int .i64 n] w fun e w' => e = .returned (.int .u64 (wset W (fS 9 i) 2 v : Nat)) ∧ Below w.heap.size w w' := by
  subst hn
  have hs : ((fS 9 i : Nat) : Int) = 39 + (1 - 1 - (i : Int)) * 2 := by
    have e : fS 9 i = 39 + (1 - 1 - i) * 2 := rfl
    rw [e]; omega
  have hsl : fS 9 i ≤ 45 := by omega
  have Hw := Lib.hid (with_all W (fS 9 i) 2 v 3 rfl hW (by omega) hsl hv)
  generalize fS 9 i = s at *
  have Hs := Lib.hid hs.symm
  clear hs
  go_enter Try.func155, Try.ntmps155
  go_wp2_with fail
  refine (fieldOf_9 _).mono ?_
  rintro e w1 ⟨rfl, hb1⟩
  have sz1 := hb1.size
  go_wp2_with fail
  obtain ⟨V, hV⟩ : ∃ V, V = w1.alloc (.cells #[.int .i64 39, .int .i64 1, .int .i64 2, .int .i64 (0)] 218) := ⟨_, rfl⟩
  rw [← hV]
  have kV : Bk V w1.heap.size 218 #[.int .i64 39, .int .i64 1, .int .i64 2, .int .i64 (0)] := by rw [hV]; exact Bk.new _ _ _
  have allS : ∀ w', Below V.heap.size V w' → (Below V.heap.size V w' ∧ w'.cell? ⟨w1.heap.size, 0, none⟩ = some (.int .i64 39) ∧ w'.cell? ⟨w1.heap.size, 1, none⟩ = some (.int .i64 1) ∧ w'.cell? ⟨w1.heap.size, 2, none⟩ = some (.int .i64 2) ∧ w'.cell? ⟨w1.heap.size, 3, none⟩ = some (.int .i64 (0))) := fun w' hb => ⟨hb, (kV.below hb kV.lt).cell 0, (kV.below hb kV.lt).cell 1, (kV.below hb kV.lt).cell 2, (kV.below hb kV.lt).cell 3⟩
  have AllS := Lib.hid allS
  have bV : Below w.heap.size w V := by rw [hV]; exact below_on hb1 ((Below.refl _ _).alloc (Nat.le_refl _) _)
  have BV := Lib.hid bV
  have c0 := kV.cell 0
  have c1 := kV.cell 1
  have c2 := kV.cell 2
  have c3 := kV.cell 3
  simp only [List.getElem?_toArray, List.getElem?_cons_zero, List.getElem?_cons_succ] at c0 c1 c2 c3
  clear allS hV bV hb1
  go_wp2_with fail
  clear c0 c1 c2 c3
  refine (shiftOf_9 i _ hi _ Hs).mono ?_
  rintro e V2 ⟨rfl, hb2⟩
  have BV2 := Lib.hid (below_on BV.out hb2)
  have kV2 := kV.below hb2 kV.lt
  have allS2 : ∀ w', Below V2.heap.size V2 w' → (Below V2.heap.size V2 w' ∧ w'.cell? ⟨w1.heap.size, 0, none⟩ = some (.int .i64 39) ∧ w'.cell? ⟨w1.heap.size, 1, none⟩ = some (.int .i64 1) ∧ w'.cell? ⟨w1.heap.size, 2, none⟩ = some (.int .i64 2) ∧ w'.cell? ⟨w1.heap.size, 3, none⟩ = some (.int .i64 (0))) := fun w' hb => ⟨hb, (kV2.below hb kV2.lt).cell 0, (kV2.below hb kV2.lt).cell 1, (kV2.below hb kV2.lt).cell 2, (kV2.below hb kV2.lt).cell 3⟩
  clear AllS
  have AllS := Lib.hid allS2
  clear allS2 kV kV2 hb2
  go_wp2_with fail
  go_region_held3 (fun w' => Below V2.heap.size V2 w' ∧ w'.cell? ⟨w1.heap.size, 0, none⟩ = some (.int .i64 39) ∧ w'.cell? ⟨w1.heap.size, 1, none⟩ = some (.int .i64 1) ∧ w'.cell? ⟨w1.heap.size, 2, none⟩ = some (.int .i64 2) ∧ w'.cell? ⟨w1.heap.size, 3, none⟩ = some (.int .i64 (0))) (first | (go_split_ands; exact AllS.out _ (by go_grown)) | (exact AllS.out _ (by go_grown))) (first | (go_at_call 183; go_split_ands; refine (maskOf_9 _).mono ?_; rintro e v2 ⟨rfl, hv2⟩; have hBv2 : Below V2.heap.size V2 v2 := below_on (by go_grown) hv2; clear hv2))
  go_wp2
  go_ret
  refine ⟨?_, below_on BV2.out hBv2⟩
  have hw := Hw.out
  try simp only [Int.one_mul] at hw
  have e1 : IntKind.i64.wrap (v : Int) = v := wrap64_small (by omega) (by omega)
  have e2 : IntKind.u64.wrap (v : Int) = v := wrapu_small (by omega) (by omega)
  have e3 : (v : Int) + -1 + 1 = v := by omega
  simp [e1, e2, hw]
theorem entry_10 (W i : Nat) (w : World) (hW : W < 18446744073709551616) (hi : i < 1) :
    Calls Try.prog 152 #[.int .u64 W, .int .i64 10, .int .i64 i] w fun e w' => e = .returned (.int .i64 ((wget W (fS 10 i) 1 : Nat) + (0 : Int))) ∧ Below w.heap.size w w' := by
  have hs : ((fS 10 i : Nat) : Int) = 41 + (1 - 1 - (i : Int)) * 1 := by
    have e : fS 10 i = 41 + (1 - 1 - i) * 1 := rfl
    rw [e]; omega
  have hn : bits .and .u64 ((W : Int) / 2 ^ (fS 10 i)) 1 = ((wget W (fS 10 i) 1 : Nat) : Int) := by have := entry_num W (fS 10 i) 1 (fS 10 i : Nat) rfl hW (by omega); simpa using this
  have hlt := wget_lt W (fS 10 i) 1 (by omega)
  have hsl : fS 10 i ≤ 45 := by omega
  generalize fS 10 i = s at *
  have Hs := Lib.hid hs.symm
  have Hn := Lib.hid hn
  clear hs hn
  go_enter Try.func152, Try.ntmps152
  go_wp2_with fail
  refine (fieldOf_10 _).mono ?_
  rintro e w1 ⟨rfl, hb1⟩
  have sz1 := hb1.size
  go_wp2_with fail
  obtain ⟨V, hV⟩ : ∃ V, V = w1.alloc (.cells #[.int .i64 41, .int .i64 1, .int .i64 1, .int .i64 (0)] 218) := ⟨_, rfl⟩
  rw [← hV]
  have kV : Bk V w1.heap.size 218 #[.int .i64 41, .int .i64 1, .int .i64 1, .int .i64 (0)] := by rw [hV]; exact Bk.new _ _ _
  have allS : ∀ w', Below V.heap.size V w' → (Below V.heap.size V w' ∧ w'.cell? ⟨w1.heap.size, 0, none⟩ = some (.int .i64 41) ∧ w'.cell? ⟨w1.heap.size, 1, none⟩ = some (.int .i64 1) ∧ w'.cell? ⟨w1.heap.size, 2, none⟩ = some (.int .i64 1) ∧ w'.cell? ⟨w1.heap.size, 3, none⟩ = some (.int .i64 (0))) := fun w' hb => ⟨hb, (kV.below hb kV.lt).cell 0, (kV.below hb kV.lt).cell 1, (kV.below hb kV.lt).cell 2, (kV.below hb kV.lt).cell 3⟩
  have AllS := Lib.hid allS
  have bV : Below w.heap.size w V := by rw [hV]; exact below_on hb1 ((Below.refl _ _).alloc (Nat.le_refl _) _)
  have BV := Lib.hid bV
  clear allS hV kV bV hb1
  go_region_held3 (fun w' => Below V.heap.size V w' ∧ w'.cell? ⟨w1.heap.size, 0, none⟩ = some (.int .i64 41) ∧ w'.cell? ⟨w1.heap.size, 1, none⟩ = some (.int .i64 1) ∧ w'.cell? ⟨w1.heap.size, 2, none⟩ = some (.int .i64 1) ∧ w'.cell? ⟨w1.heap.size, 3, none⟩ = some (.int .i64 (0))) (first | (go_split_ands; exact AllS.out _ (by go_grown)) | (exact AllS.out _ (by go_grown))) (first | (go_at_call 182; go_split_ands; refine (shiftOf_10 i _ hi _ Hs).mono ?_; rintro e v1 ⟨rfl, hv⟩; have hBv1 : Below V.heap.size V v1 := below_on (by go_grown) hv; clear hv) | (go_at_call 183; go_split_ands; refine (maskOf_10 _).mono ?_; rintro e v2 ⟨rfl, hv⟩; have hBv2 : Below V.heap.size V v2 := below_on (by go_grown) hv; clear hv))
  go_wp2
  go_ret
  refine ⟨?_, below_on BV.out hBv2⟩
  have hn := Hn.out
  simp
  rw [hn]
  simp only [IntKind.wrap_i64]
  omega
theorem withEntry_10 (W i v : Nat) (n : Int) (w : World) (hW : W < 18446744073709551616) (hi : i < 1) (hv : v < 2) (hn : n = (v : Int) + (0)) :
    Calls Try.prog 155 #[.int .u64 W, .int .i64 10, .int .i64 i, .int .i64 n] w fun e w' => e = .returned (.int .u64 (wset W (fS 10 i) 1 v : Nat)) ∧ Below w.heap.size w w' := by
  subst hn
  have hs : ((fS 10 i : Nat) : Int) = 41 + (1 - 1 - (i : Int)) * 1 := by
    have e : fS 10 i = 41 + (1 - 1 - i) * 1 := rfl
    rw [e]; omega
  have hsl : fS 10 i ≤ 45 := by omega
  have Hw := Lib.hid (with_all W (fS 10 i) 1 v 1 rfl hW (by omega) hsl hv)
  generalize fS 10 i = s at *
  have Hs := Lib.hid hs.symm
  clear hs
  go_enter Try.func155, Try.ntmps155
  go_wp2_with fail
  refine (fieldOf_10 _).mono ?_
  rintro e w1 ⟨rfl, hb1⟩
  have sz1 := hb1.size
  go_wp2_with fail
  obtain ⟨V, hV⟩ : ∃ V, V = w1.alloc (.cells #[.int .i64 41, .int .i64 1, .int .i64 1, .int .i64 (0)] 218) := ⟨_, rfl⟩
  rw [← hV]
  have kV : Bk V w1.heap.size 218 #[.int .i64 41, .int .i64 1, .int .i64 1, .int .i64 (0)] := by rw [hV]; exact Bk.new _ _ _
  have allS : ∀ w', Below V.heap.size V w' → (Below V.heap.size V w' ∧ w'.cell? ⟨w1.heap.size, 0, none⟩ = some (.int .i64 41) ∧ w'.cell? ⟨w1.heap.size, 1, none⟩ = some (.int .i64 1) ∧ w'.cell? ⟨w1.heap.size, 2, none⟩ = some (.int .i64 1) ∧ w'.cell? ⟨w1.heap.size, 3, none⟩ = some (.int .i64 (0))) := fun w' hb => ⟨hb, (kV.below hb kV.lt).cell 0, (kV.below hb kV.lt).cell 1, (kV.below hb kV.lt).cell 2, (kV.below hb kV.lt).cell 3⟩
  have AllS := Lib.hid allS
  have bV : Below w.heap.size w V := by rw [hV]; exact below_on hb1 ((Below.refl _ _).alloc (Nat.le_refl _) _)
  have BV := Lib.hid bV
  have c0 := kV.cell 0
  have c1 := kV.cell 1
  have c2 := kV.cell 2
  have c3 := kV.cell 3
  simp only [List.getElem?_toArray, List.getElem?_cons_zero, List.getElem?_cons_succ] at c0 c1 c2 c3
  clear allS hV bV hb1
  go_wp2_with fail
  clear c0 c1 c2 c3
  refine (shiftOf_10 i _ hi _ Hs).mono ?_
  rintro e V2 ⟨rfl, hb2⟩
  have BV2 := Lib.hid (below_on BV.out hb2)
  have kV2 := kV.below hb2 kV.lt
  have allS2 : ∀ w', Below V2.heap.size V2 w' → (Below V2.heap.size V2 w' ∧ w'.cell? ⟨w1.heap.size, 0, none⟩ = some (.int .i64 41) ∧ w'.cell? ⟨w1.heap.size, 1, none⟩ = some (.int .i64 1) ∧ w'.cell? ⟨w1.heap.size, 2, none⟩ = some (.int .i64 1) ∧ w'.cell? ⟨w1.heap.size, 3, none⟩ = some (.int .i64 (0))) := fun w' hb => ⟨hb, (kV2.below hb kV2.lt).cell 0, (kV2.below hb kV2.lt).cell 1, (kV2.below hb kV2.lt).cell 2, (kV2.below hb kV2.lt).cell 3⟩
  clear AllS
  have AllS := Lib.hid allS2
  clear allS2 kV kV2 hb2
  go_wp2_with fail
  go_region_held3 (fun w' => Below V2.heap.size V2 w' ∧ w'.cell? ⟨w1.heap.size, 0, none⟩ = some (.int .i64 41) ∧ w'.cell? ⟨w1.heap.size, 1, none⟩ = some (.int .i64 1) ∧ w'.cell? ⟨w1.heap.size, 2, none⟩ = some (.int .i64 1) ∧ w'.cell? ⟨w1.heap.size, 3, none⟩ = some (.int .i64 (0))) (first | (go_split_ands; exact AllS.out _ (by go_grown)) | (exact AllS.out _ (by go_grown))) (first | (go_at_call 183; go_split_ands; refine (maskOf_10 _).mono ?_; rintro e v2 ⟨rfl, hv2⟩; have hBv2 : Below V2.heap.size V2 v2 := below_on (by go_grown) hv2; clear hv2))
  go_wp2
  go_ret
  refine ⟨?_, below_on BV2.out hBv2⟩
  have hw := Hw.out
  try simp only [Int.one_mul] at hw
  have e1 : IntKind.i64.wrap (v : Int) = v := wrap64_small (by omega) (by omega)
  have e2 : IntKind.u64.wrap (v : Int) = v := wrapu_small (by omega) (by omega)
  have e3 : (v : Int) + -1 + 1 = v := by omega
  simp [e1, e2, hw]
end Go.Proofs.Ytiljakbjbiinkaa
namespace Go.Proofs.Ytiljakbjbiinkaa
open Go.RowKit Pl
set_option maxHeartbeats 1000000
set_option maxRecDepth 100000
set_option linter.unusedVariables false

theorem entry_any (j W i : Nat) (w : World) (hj : j < 11) (hW : W < 18446744073709551616) (hi : i < fC j) (r : Int) (hr : Hid ((wget W (fS j i) (fB j) : Nat) + fL j = r)) :
    Calls Try.prog 152 #[.int .u64 W, .int .i64 j, .int .i64 i] w fun e w' => e = .returned (.int .i64 r) ∧ Below w.heap.size w w' := by
  rw [← hr.out]
  match j, hj with
  | 0, _ => exact entry_0 W i w hW hi
  | 1, _ => exact entry_1 W i w hW hi
  | 2, _ => exact entry_2 W i w hW hi
  | 3, _ => exact entry_3 W i w hW hi
  | 4, _ => exact entry_4 W i w hW hi
  | 5, _ => exact entry_5 W i w hW hi
  | 6, _ => exact entry_6 W i w hW hi
  | 7, _ => exact entry_7 W i w hW hi
  | 8, _ => exact entry_8 W i w hW hi
  | 9, _ => exact entry_9 W i w hW hi
  | 10, _ => exact entry_10 W i w hW hi
theorem withEntry_any (j W i v : Nat) (n : Int) (w : World) (hj : j < 11) (hW : W < 18446744073709551616) (hi : i < fC j) (hv : v < 2 ^ fB j) (hn : n = (v : Int) + fL j) (R : Nat) (hR : Hid (wset W (fS j i) (fB j) v = R)) :
    Calls Try.prog 155 #[.int .u64 W, .int .i64 j, .int .i64 i, .int .i64 n] w fun e w' => e = .returned (.int .u64 (R : Int)) ∧ Below w.heap.size w w' := by
  rw [← hR.out]
  match j, hj with
  | 0, _ => exact withEntry_0 W i v n w hW hi hv hn
  | 1, _ => exact withEntry_1 W i v n w hW hi hv hn
  | 2, _ => exact withEntry_2 W i v n w hW hi hv hn
  | 3, _ => exact withEntry_3 W i v n w hW hi hv hn
  | 4, _ => exact withEntry_4 W i v n w hW hi hv hn
  | 5, _ => exact withEntry_5 W i v n w hW hi hv hn
  | 6, _ => exact withEntry_6 W i v n w hW hi hv hn
  | 7, _ => exact withEntry_7 W i v n w hW hi hv hn
  | 8, _ => exact withEntry_8 W i v n w hW hi hv hn
  | 9, _ => exact withEntry_9 W i v n w hW hi hv hn
  | 10, _ => exact withEntry_10 W i v n w hW hi hv hn

/-- The numbers of field j stand in words of the form ws from place b on. -/
def Fld (ws : List Nat) (j b : Nat) : Prop := j < 11 ∧ ws.sum ≤ 46 ∧ ∀ i, i < fC j → b + i < ws.length ∧ shf ws (b + i) = fS j i ∧ wid ws (b + i) = fB j
theorem fld0 : Fld WS 0 3 := by unfold Fld; decide
theorem fld1 : Fld WS 1 6 := by unfold Fld; decide
theorem fld2 : Fld WS 2 15 := by unfold Fld; decide
theorem fld3 : Fld WS 3 18 := by unfold Fld; decide
theorem fld4 : Fld WS 4 20 := by unfold Fld; decide
theorem fld5 : Fld WS 5 0 := by unfold Fld; decide
theorem flo1 : Fld WO 1 0 := by unfold Fld; decide
theorem flo2 : Fld WO 2 9 := by unfold Fld; decide
theorem flo6 : Fld WO 6 13 := by unfold Fld; decide
/-- The numbers of the clocks' words. -/
def WC : List Nat := [8, 8, 8]
theorem flc7 : Fld WC 7 0 := by unfold Fld; decide
/-- The numbers of the words of views and of stores: whether one is glued, its value, and the stamps. -/
def WV : List Nat := [1, 2, 13, 13, 13]
theorem flv8 : Fld WV 8 2 := by unfold Fld; decide
theorem flv9 : Fld WV 9 1 := by unfold Fld; decide
theorem flv10 : Fld WV 10 0 := by unfold Fld; decide

section
variable {ws : List Nat} {j b : Nat} {f : Nat → Nat}
theorem enc_small (F : Fld ws j b) (h : okF ws f) : enc ws f < 18446744073709551616 := by
  have h1 := enc_lt h
  have h2 : 2 ^ ws.sum ≤ 2 ^ 46 := Nat.pow_le_pow_right (by omega) F.2.1
  omega
theorem entF (F : Fld ws j b) (h : okF ws f) (i : Nat) (hi : i < fC j) (w : World) (r : Int) (hr : Hid ((f (b + i) : Nat) + fL j = r)) :
    Calls Try.prog 152 #[.int .u64 (enc ws f : Nat), .int .i64 j, .int .i64 i] w fun e w' => e = .returned (.int .i64 r) ∧ Below w.heap.size w w' := by
  obtain ⟨h1, h2, h3⟩ := F.2.2 i hi
  refine entry_any j (enc ws f) i w F.1 (enc_small F h) hi r (Lib.hid ?_)
  rw [← h2, ← h3, enc_get h h1]
  exact hr.out
theorem wentF (F : Fld ws j b) (h : okF ws f) (i v : Nat) (n : Int) (hi : i < fC j) (hv : v < 2 ^ fB j) (hn : n = (v : Int) + fL j) (w : World) :
    Calls Try.prog 155 #[.int .u64 (enc ws f : Nat), .int .i64 j, .int .i64 i, .int .i64 n] w fun e w' => e = .returned (.int .u64 (enc ws (upd f (b + i) v) : Nat)) ∧ Below w.heap.size w w' := by
  obtain ⟨h1, h2, h3⟩ := F.2.2 i hi
  refine withEntry_any j (enc ws f) i v n w F.1 (enc_small F h) hi hv hn _ (Lib.hid ?_)
  rw [(enc_set h h1 (by rw [h3]; exact hv)).2, h2, h3]
theorem okF_upd (F : Fld ws j b) (h : okF ws f) {i v : Nat} (hi : i < fC j) (hv : v < 2 ^ fB j) : okF ws (upd f (b + i) v) := by
  obtain ⟨h1, h2, h3⟩ := F.2.2 i hi
  exact (enc_set h h1 (by rw [h3]; exact hv)).1
theorem fld_lt (F : Fld ws j b) (h : okF ws f) {i : Nat} (hi : i < fC j) : f (b + i) < 2 ^ fB j := by
  obtain ⟨h1, h2, h3⟩ := F.2.2 i hi
  have := okF_at h h1
  rwa [h3] at this
end
/-- A list of numbers written into a field, from its first place on. -/
def updL (f : Nat → Nat) (b : Nat) : List Nat → Nat → Nat
  | [] => f
  | v :: r => updL (upd f b v) (b + 1) r
theorem updL_at (vs : List Nat) : ∀ (f : Nat → Nat) (b q : Nat), updL f b vs q = if b ≤ q ∧ q < b + vs.length then vs.getD (q - b) 0 else f q := by
  induction vs with
  | nil => intro f b q; simp [updL]; intro h1 h2; omega
  | cons v r ih =>
    intro f b q
    rw [updL, ih]
    by_cases h1 : b + 1 ≤ q ∧ q < b + 1 + r.length
    · rw [if_pos h1, if_pos (by simp; omega), show q - b = (q - (b + 1)) + 1 by omega]
      simp
    · rw [if_neg h1]
      by_cases h2 : q = b
      · subst h2; simp [upd]
      · rw [if_neg (by simp; omega)]; simp [upd, h2]
theorem updL_take (f : Nat → Nat) (b : Nat) (vs : List Nat) (k : Nat) (v : Nat) (h : vs[k]? = some v) : upd (updL f b (vs.take k)) (b + k) v = updL f b (vs.take (k + 1)) := by
  have hk := (List.getElem?_eq_some_iff.1 h).1
  funext q
  rw [updL_at]
  unfold upd
  rw [updL_at]
  simp only [List.length_take]
  by_cases h1 : q = b + k
  · subst h1
    rw [if_pos rfl, if_pos (by omega), show b + k - b = k by omega, List.getD, List.getElem?_take, if_pos (by omega), h]
    rfl
  · rw [if_neg h1]
    by_cases h2 : b ≤ q ∧ q < b + min k vs.length
    · rw [if_pos h2, if_pos (by omega)]
      simp only [List.getD, List.getElem?_take]
      rw [if_pos (by omega), if_pos (by omega)]
    · rw [if_neg h2, if_neg (by omega)]
/-- The numbers of a field, as the program hands them out. -/
def fldI (f : Nat → Nat) (b : Nat) (l : Int) (n : Nat) : List Int := (List.range n).map fun i => (f (b + i) : Int) + l
theorem fldI_length (f : Nat → Nat) (b : Nat) (l : Int) (n : Nat) : (fldI f b l n).length = n := by simp [fldI]
theorem fldI_at {f : Nat → Nat} {b : Nat} {l : Int} {n k : Nat} (h : k < n) : (fldI f b l n)[k]? = some ((f (b + k) : Int) + l) := by simp [fldI, h]

theorem okF_updL {ws : List Nat} {j b : Nat} (F : Fld ws j b) (vs : List Nat) : ∀ (f : Nat → Nat) (k : Nat), okF ws f → k + vs.length ≤ fC j → (∀ v ∈ vs, v < 2 ^ fB j) → okF ws (updL f (b + k) vs) := by
  induction vs with
  | nil => intro f k h _ _; exact h
  | cons v r ih =>
    intro f k h hl hv
    simp at hl
    have := ih (upd f (b + k) v) (k + 1) (okF_upd F h (by omega) (hv v (by simp))) (by omega) (fun u hu => hv u (by simp [hu]))
    rw [updL]
    exact this

theorem entries_any (ws : List Nat) (j b : Nat) (f : Nat → Nat) (n : Nat) (w : World) (F : Fld ws j b) (h : okF ws f) (hn : n ≤ fC j) :
    Calls Try.prog 153 #[.int .u64 (enc ws f : Nat), .int .i64 j, .int .i64 n] w fun e w' => e = .returned (.slice (some ⟨w.heap.size, 0, none⟩) n n) ∧ CopyV w w' 3 (ints (fldI f b (fL j) n)) n := by
  obtain ⟨i0, hi, hz0, hz1, hz2⟩ := info_parts Try.info3
  have hn9 : n ≤ 9 := by
    have : fC j ≤ 9 := by unfold fC; repeat (first | omega | split)
    omega
  have hmk := make_any Try.underlying39 hi hz0 n (by rw [hz2]; omega) (by omega)
  rw [hz1, Nat.mul_one] at hmk
  have start := Lib.hid (show CopyV w (w.alloc (.cells (madeCells #[.int .i64 0] n) 3)) 3 (ints (fldI f b (fL j) n)) 0 from
    ⟨(Below.refl _ _).alloc (Nat.le_refl _) _, _, Bk.new _ _ _, by simp [size_madeCells, fldI_length], fun j x hj => absurd hj (by omega)⟩)
  clear hz0 hz1 hz2 hi
  generalize hW : enc ws f = W at *
  have HW := Lib.hid hW
  clear hW
  go_enter Try.func153, Try.ntmps153
  go_wp2
  go_loopw [13] (fun i wr => ∃ k : Nat, k ≤ n ∧ i = .int .i64 k ∧ CopyV w wr 3 (ints (fldI f b (fL j) n)) k) (fun i _ => n - (intOf i).toNat)
  case atStart => exact ⟨0, Nat.zero_le _, rfl, start.out⟩
  case round =>
    obtain ⟨k, hk, rfl, hcp⟩ := hrel
    clear start hmk
    by_cases hlt : k < n
    · obtain ⟨hbel, cs, hbk, hsz, -⟩ := id hcp
      rw [ints_length, fldI_length] at hsz
      have Hx := Lib.hid (ints_at (fldI_at (f := f) (b := b) (l := fL j) hlt))
      obtain ⟨x, hx⟩ : ∃ x, (f (b + k) : Int) + fL j = x := ⟨_, rfl⟩
      rw [hx] at Hx
      have HX := Lib.hid hx
      have Hcp := Lib.hid hcp
      have hkc : k < fC j := by omega
      have kb := Lib.hid hbk
      have hg := hbk.lt
      clear hx hbk hbel hcp
      go_wp2_with fail
      rw [← HW.out]
      refine (entF F h k hkc wr x HX).mono ?_
      rintro e w1 ⟨rfl, hb1⟩
      have kb1 := kb.out.below hb1 hg
      obtain ⟨v0, e0⟩ := kb1.some_ (i := k) (by omega)
      have q0 := kb1.free k
      have hcp1 : CopyV w w1 3 (ints (fldI f b (fL j) n)) k := ⟨below_on Hcp.out.1 hb1, by
        obtain ⟨_, cs', hb', hs', hc'⟩ := Hcp.out
        exact ⟨cs', hb'.below hb1 hb'.lt, hs', hc'⟩⟩
      have Hc1 := Lib.hid hcp1
      clear kb1 hcp1 hb1
      rw [HW.out]
      go_wp2
      go_roundw
      case rel => exact ⟨k + 1, by omega, by go_num, Hc1.out.next Hx.out⟩
      case measure => simp [intOf]; omega
    · have hkn : k = n := by omega
      subst hkn
      go_wp2
      go_ret
      exact ⟨rfl, hcp⟩

theorem withEntries_any (ws : List Nat) (j b : Nat) (f : Nat → Nat) (A : Option Addr) (xs : List Int) (vs : List Nat) (c : Nat) (w : World) (B : Nat) (F : Fld ws j b) (h : okF ws f) (hV : Vs w B A (ints xs)) (hB : B ≤ w.heap.size) (hn : xs.length ≤ fC j) (hvl : vs.length = xs.length)
    (hv : Hid (∀ v ∈ vs, v < 2 ^ fB j)) (hx : Hid (∀ (k v : Nat), vs[k]? = some v → xs[k]? = some ((v : Int) + fL j))) :
    Calls Try.prog 154 #[.int .u64 (enc ws f : Nat), .int .i64 j, .slice A xs.length c] w fun e w' => e = .returned (.int .u64 (enc ws (updL f b vs) : Nat)) ∧ Below w.heap.size w w' := by
  have hn9 : xs.length ≤ 9 := by
    have : fC j ≤ 9 := by unfold fC; repeat (first | omega | split)
    omega
  go_enter Try.func154, Try.ntmps154
  go_wp2
  go_loopw [0, 11] (fun x i wr => ∃ k : Nat, k ≤ xs.length ∧ i = .int .i64 k ∧ x = .int .u64 (enc ws (updL f b (vs.take k)) : Nat) ∧ Below w.heap.size w wr) (fun _ i _ => xs.length - (intOf i).toNat)
  case atStart => exact ⟨0, Nat.zero_le _, rfl, by simp [updL], Below.refl _ _⟩
  case round =>
    obtain ⟨k, hk, rfl, rfl, hbel⟩ := hrel
    by_cases hlt : k < xs.length
    · obtain ⟨bb, off, x, rfl, hb, hxk, -, hx0⟩ := (hV.below hbel hB).int_ hlt
      obtain ⟨v, hvk⟩ : ∃ v, vs[k]? = some v := ⟨_, List.getElem?_eq_getElem (by omega)⟩
      have hxv := hx.out k v hvk
      have hxe : x = (v : Int) + fL j := by rw [hxk] at hxv; injection hxv
      have hvlt := hv.out v (List.mem_of_getElem? hvk)
      have hok : okF ws (updL f b (vs.take k)) := by
        have := okF_updL F (vs.take k) f 0 h (by rw [List.length_take]; omega) (fun u hu => hv.out u (List.mem_of_mem_take hu))
        simpa using this
      have Hok := Lib.hid hok
      have Hxe := Lib.hid hxe
      have Hvk := Lib.hid hvk
      have Hb := Lib.hid hbel
      clear hxe hxv hvk hok hxk hbel
      go_wp2_with fail
      refine (wentF F Hok.out k v x (by omega) hvlt Hxe.out wr).mono ?_
      rintro e w1 ⟨rfl, hb1⟩
      have Hb1 := Lib.hid (below_on Hb.out hb1)
      clear hb1
      go_wp2
      go_roundw
      case rel => exact ⟨k + 1, by omega, by go_num, by rw [updL_take f b vs k v Hvk.out], Hb1.out⟩
      case measure => simp [intOf]; omega
    · have hkl : k = vs.length := by omega
      subst hkl
      rw [List.take_length]
      go_wp2
      go_ret
      exact ⟨rfl, hbel⟩
end Go.Proofs.Ytiljakbjbiinkaa
