/-
  Words: what fieldOf, shiftOf, maskOf, entry and withEntry come to.
-/
import Derived.Test.YtaghidaamcnpkabWd
import Derived.Test.YtaghidaamcnpkabVec
import Derived.Deep.RegionHeld3
import Derived.Laws.BitsLemmas
namespace Go.Proofs.Ytaghidaamcnpkab
open Go.RowKit Pl
set_option maxHeartbeats 1000000
set_option maxRecDepth 100000
set_option linter.unusedVariables false

/-- Where the fields of a word lie. -/
def fF (j : Nat) : Nat := if j = 0 then 34 else if j = 1 then 16 else if j = 2 then 10 else if j = 3 then 6 else if j = 5 then 43 else if j = 9 then 39 else if j = 10 then 41 else 0
def fC (j : Nat) : Nat := if j = 1 then 9 else if j = 3 then 2 else if j = 4 then 2 else if j = 9 then 1 else if j = 10 then 1 else 3
def fB (j : Nat) : Nat := if j = 0 then 3 else if j = 1 then 2 else if j = 2 then 2 else if j = 3 then 2 else if j = 4 then 3 else if j = 7 then 8 else if j = 8 then 13 else if j = 9 then 2 else 1
def fL (j : Nat) : Int := if j = 3 then -1 else if j = 4 then -1 else 0
def fS (j i : Nat) : Nat := fF j + (fC j - 1 - i) * fB j

theorem wrap64_small {x : Int} (h0 : -9223372036854775808 ≤ x) (h1 : x < 9223372036854775808) : IntKind.i64.wrap x = x := by rw [IntKind.wrap_i64]; omega
theorem wrapu_small {x : Int} (h0 : 0 ≤ x) (h1 : x < 18446744073709551616) : IntKind.u64.wrap x = x := by
  simp only [IntKind.wrap, IntKind.bits, IntKind.signed]
  simp
  omega
theorem ofInt_nat {a : Nat} (h : a < 18446744073709551616) : (BitVec.ofInt 64 (a : Int)).toNat = a := by
  rw [BitVec.ofInt_natCast, BitVec.toNat_ofNat]; exact Nat.mod_eq_of_lt (by omega)
theorem and_u64 {a b : Nat} (ha : a < 18446744073709551616) (hb : b < 18446744073709551616) : bits .and .u64 (a : Int) (b : Int) = ((a &&& b : Nat) : Int) := by
  show IntKind.u64.wrap ((BitVec.ofInt 64 (a : Int) &&& BitVec.ofInt 64 (b : Int)).toNat : Int) = _
  rw [BitVec.toNat_and, ofInt_nat ha, ofInt_nat hb]
  have : a &&& b ≤ a := Nat.and_le_left
  exact wrapu_small (by omega) (by omega)
theorem or_u64 {a b : Nat} (ha : a < 18446744073709551616) (hb : b < 18446744073709551616) : bits .or .u64 (a : Int) (b : Int) = ((a ||| b : Nat) : Int) := by
  show IntKind.u64.wrap ((BitVec.ofInt 64 (a : Int) ||| BitVec.ofInt 64 (b : Int)).toNat : Int) = _
  rw [BitVec.toNat_or, ofInt_nat ha, ofInt_nat hb]
  have : a ||| b < 2 ^ 64 := Nat.or_lt_two_pow (by omega) (by omega)
  exact wrapu_small (by omega) (by omega)
theorem andNot_u64 {a b : Nat} (ha : a < 18446744073709551616) (hb : b < 18446744073709551616) : bits .andNot .u64 (a : Int) (b : Int) = ((a ^^^ (a &&& b) : Nat) : Int) := by
  have key : (BitVec.ofInt 64 (a : Int) &&& ~~~ BitVec.ofInt 64 (b : Int)) = BitVec.ofInt 64 (a : Int) ^^^ (BitVec.ofInt 64 (a : Int) &&& BitVec.ofInt 64 (b : Int)) := by
    ext i hi
    simp only [BitVec.getElem_and, BitVec.getElem_not, BitVec.getElem_xor]
    cases (BitVec.ofInt 64 (a : Int))[i] <;> cases (BitVec.ofInt 64 (b : Int))[i] <;> rfl
  show IntKind.u64.wrap ((BitVec.ofInt 64 (a : Int) &&& ~~~ BitVec.ofInt 64 (b : Int)).toNat : Int) = _
  rw [key, BitVec.toNat_xor, BitVec.toNat_and, ofInt_nat ha, ofInt_nat hb]
  have h1 : a &&& b < 2 ^ 64 := Nat.lt_of_le_of_lt Nat.and_le_left (by omega)
  have : a ^^^ (a &&& b) < 2 ^ 64 := Nat.xor_lt_two_pow (by omega) h1
  exact wrapu_small (by omega) (by omega)
theorem div_pow (W : Nat) (s : Nat) (x : Int) (hx : x = (s : Int)) : (W : Int) / 2 ^ x.toNat = ((W / 2 ^ s : Nat) : Int) := by
  subst hx; simp
/-- What entry reckons. -/
theorem entry_num (W s b : Nat) (x : Int) (hx : x = (s : Int)) (hW : W < 18446744073709551616) (hb : b ≤ 13) : bits .and .u64 ((W : Int) / 2 ^ x.toNat) ((2 ^ b - 1 : Nat) : Int) = ((wget W s b : Nat) : Int) := by
  rw [div_pow W s x hx, and_u64 (Nat.lt_of_le_of_lt (Nat.div_le_self _ _) hW) (by have : 2 ^ b ≤ 2 ^ 13 := Nat.pow_le_pow_right (by omega) hb; omega), Nat.and_two_pow_sub_one_eq_mod]
  rfl
theorem wget_lt8 (W s b : Nat) (hb : b ≤ 13) : wget W s b < 8192 := by
  have h1 : wget W s b < 2 ^ b := Nat.mod_lt _ (Nat.two_pow_pos _)
  have h2 : 2 ^ b ≤ 2 ^ 13 := Nat.pow_le_pow_right (by omega) hb
  omega
theorem wget_lt (W s b : Nat) (hb : b ≤ 3) : wget W s b < 8 := by
  have h1 : wget W s b < 2 ^ b := Nat.mod_lt _ (Nat.two_pow_pos _)
  have h2 : 2 ^ b ≤ 2 ^ 3 := Nat.pow_le_pow_right (by omega) hb
  omega
/-- What withEntry reckons. -/
theorem shl_num (v s : Nat) (x : Int) (hx : x = (s : Int)) (hv : v < 8192) (hs : s ≤ 45) : IntKind.u64.wrap ((v : Int) * 2 ^ min x.toNat 64) = ((v <<< s : Nat) : Int) := by
  subst hx
  have e : min (s : Int).toNat 64 = s := by rw [Int.toNat_natCast]; omega
  have e2 : v <<< s = v * 2 ^ s := Nat.shiftLeft_eq v s
  have h2 : 2 ^ s ≤ 2 ^ 45 := Nat.pow_le_pow_right (by omega) hs
  have h3 : v * 2 ^ s ≤ 8191 * 2 ^ 45 := Nat.mul_le_mul (by omega) h2
  have h4 : ((v * 2 ^ s : Nat) : Int) = (v : Int) * 2 ^ s := by simp
  rw [e, e2, ← h4]
  exact wrapu_small (by omega) (by omega)
theorem shl_num' (v s : Nat) (hv : v < 8192) (hs : s ≤ 45) : IntKind.u64.wrap ((v : Int) * 2 ^ s) = ((v <<< s : Nat) : Int) := by
  have := shl_num v s s rfl hv hs
  rwa [show min (s : Int).toNat 64 = s by rw [Int.toNat_natCast]; omega] at this
theorem shl_lt (v s : Nat) (hv : v < 8192) (hs : s ≤ 45) : v <<< s < 18446744073709551616 := by
  rw [Nat.shiftLeft_eq]
  have h2 : 2 ^ s ≤ 2 ^ 45 := Nat.pow_le_pow_right (by omega) hs
  have h3 : v * 2 ^ s ≤ 8191 * 2 ^ 45 := Nat.mul_le_mul (by omega) h2
  omega
theorem with_num (W s b v : Nat) (hW : W < 18446744073709551616) (hb : b ≤ 13) (hs : s ≤ 45) (hv : v < 2 ^ b) :
    bits .or .u64 (bits .andNot .u64 (W : Int) (((2 ^ b - 1) <<< s : Nat) : Int)) ((v <<< s : Nat) : Int) = ((wset W s b v : Nat) : Int) := by
  have h2 : 2 ^ b ≤ 2 ^ 13 := Nat.pow_le_pow_right (by omega) hb
  have hm := shl_lt (2 ^ b - 1) s (by omega) hs
  have hvs := shl_lt v s (by omega) hs
  rw [andNot_u64 hW hm]
  have h1 : W &&& ((2 ^ b - 1) <<< s) < 2 ^ 64 := Nat.lt_of_le_of_lt Nat.and_le_left (by omega)
  have h3 : W ^^^ (W &&& ((2 ^ b - 1) <<< s)) < 2 ^ 64 := Nat.xor_lt_two_pow (by omega) h1
  rw [or_u64 (by omega) hvs, wset_bits W s b v hv]
theorem with_all (W s b v : Nat) (M : Int) (hM : M = ((2 ^ b - 1 : Nat) : Int)) (hW : W < 18446744073709551616) (hb : b ≤ 13) (hs : s ≤ 45) (hv : v < 2 ^ b) :
    bits .or .u64 (bits .andNot .u64 (W : Int) (IntKind.u64.wrap (M * 2 ^ s))) (IntKind.u64.wrap ((v : Int) * 2 ^ s)) = ((wset W s b v : Nat) : Int) := by
  have h2 : 2 ^ b ≤ 2 ^ 13 := Nat.pow_le_pow_right (by omega) hb
  rw [hM, shl_num' _ s (by omega) hs, shl_num' v s (by omega) hs, with_num W s b v hW hb hs hv]
theorem wset_lt (W s b v : Nat) (hW : W < 18446744073709551616) (hb : b ≤ 13) (hs : s ≤ 45) (hv : v < 2 ^ b) : wset W s b v < 18446744073709551616 := by
  have h2 : 2 ^ b ≤ 2 ^ 13 := Nat.pow_le_pow_right (by omega) hb
  have hm := shl_lt (2 ^ b - 1) s (by omega) hs
  have hvs := shl_lt v s (by omega) hs
  have h1 : W &&& ((2 ^ b - 1) <<< s) < 2 ^ 64 := Nat.lt_of_le_of_lt Nat.and_le_left (by omega)
  have h3 : W ^^^ (W &&& ((2 ^ b - 1) <<< s)) < 2 ^ 64 := Nat.xor_lt_two_pow (by omega) h1
  have h4 : (W ^^^ (W &&& ((2 ^ b - 1) <<< s))) ||| (v <<< s) < 2 ^ 64 := Nat.or_lt_two_pow h3 (by omega)
  rw [wset_bits W s b v hv] at h4
  omega
/-- The numbers of a field. -/
def FldV (j : Nat) : Value := .agg #[.int .i64 (fF j), .int .i64 (fC j), .int .i64 (fB j), .int .i64 (fL j)]

theorem fieldOf_0 (w : World) : Calls Try.prog 133 #[.int .i64 0] w fun e w' => e = .returned (.agg #[.int .i64 34, .int .i64 3, .int .i64 3, .int .i64 (0)]) ∧ Below w.heap.size w w' := by
  go_enter Try.func133, Try.ntmps133
  go_wp2
  go_returns
  exact ⟨rfl, by go_grown⟩
theorem shiftOf_0 (i : Nat) (w : World) (hi : i < 3) (r : Int) (hr : Hid ((34 : Int) + (3 - 1 - (i : Int)) * 3 = r)) : Calls Try.prog 134 #[.agg #[.int .i64 34, .int .i64 3, .int .i64 3, .int .i64 (0)], .int .i64 i] w fun e w' => e = .returned (.int .i64 r) ∧ Below w.heap.size w w' := by
  go_enter Try.func134, Try.ntmps134
  go_wp2
  go_ret
  refine ⟨?_, by go_grown⟩
  rw [← hr.out]
  simp
  try omega
theorem maskOf_0 (w : World) : Calls Try.prog 135 #[.agg #[.int .i64 34, .int .i64 3, .int .i64 3, .int .i64 (0)]] w fun e w' => e = .returned (.int .u64 7) ∧ Below w.heap.size w w' := by
  go_enter Try.func135, Try.ntmps135
  go_wp2
  go_ret
  exact ⟨by simp, by go_grown⟩
theorem fieldOf_1 (w : World) : Calls Try.prog 133 #[.int .i64 1] w fun e w' => e = .returned (.agg #[.int .i64 16, .int .i64 9, .int .i64 2, .int .i64 (0)]) ∧ Below w.heap.size w w' := by
  go_enter Try.func133, Try.ntmps133
  go_wp2
  go_returns
  exact ⟨rfl, by go_grown⟩
theorem shiftOf_1 (i : Nat) (w : World) (hi : i < 9) (r : Int) (hr : Hid ((16 : Int) + (9 - 1 - (i : Int)) * 2 = r)) : Calls Try.prog 134 #[.agg #[.int .i64 16, .int .i64 9, .int .i64 2, .int .i64 (0)], .int .i64 i] w fun e w' => e = .returned (.int .i64 r) ∧ Below w.heap.size w w' := by
  go_enter Try.func134, Try.ntmps134
  go_wp2
  go_ret
  refine ⟨?_, by go_grown⟩
  rw [← hr.out]
  simp
  try omega
theorem maskOf_1 (w : World) : Calls Try.prog 135 #[.agg #[.int .i64 16, .int .i64 9, .int .i64 2, .int .i64 (0)]] w fun e w' => e = .returned (.int .u64 3) ∧ Below w.heap.size w w' := by
  go_enter Try.func135, Try.ntmps135
  go_wp2
  go_ret
  exact ⟨by simp, by go_grown⟩
theorem fieldOf_2 (w : World) : Calls Try.prog 133 #[.int .i64 2] w fun e w' => e = .returned (.agg #[.int .i64 10, .int .i64 3, .int .i64 2, .int .i64 (0)]) ∧ Below w.heap.size w w' := by
  go_enter Try.func133, Try.ntmps133
  go_wp2
  go_returns
  exact ⟨rfl, by go_grown⟩
theorem shiftOf_2 (i : Nat) (w : World) (hi : i < 3) (r : Int) (hr : Hid ((10 : Int) + (3 - 1 - (i : Int)) * 2 = r)) : Calls Try.prog 134 #[.agg #[.int .i64 10, .int .i64 3, .int .i64 2, .int .i64 (0)], .int .i64 i] w fun e w' => e = .returned (.int .i64 r) ∧ Below w.heap.size w w' := by
  go_enter Try.func134, Try.ntmps134
  go_wp2
  go_ret
  refine ⟨?_, by go_grown⟩
  rw [← hr.out]
  simp
  try omega
theorem maskOf_2 (w : World) : Calls Try.prog 135 #[.agg #[.int .i64 10, .int .i64 3, .int .i64 2, .int .i64 (0)]] w fun e w' => e = .returned (.int .u64 3) ∧ Below w.heap.size w w' := by
  go_enter Try.func135, Try.ntmps135
  go_wp2
  go_ret
  exact ⟨by simp, by go_grown⟩
theorem fieldOf_3 (w : World) : Calls Try.prog 133 #[.int .i64 3] w fun e w' => e = .returned (.agg #[.int .i64 6, .int .i64 2, .int .i64 2, .int .i64 (-1)]) ∧ Below w.heap.size w w' := by
  go_enter Try.func133, Try.ntmps133
  go_wp2
  go_returns
  exact ⟨rfl, by go_grown⟩
theorem shiftOf_3 (i : Nat) (w : World) (hi : i < 2) (r : Int) (hr : Hid ((6 : Int) + (2 - 1 - (i : Int)) * 2 = r)) : Calls Try.prog 134 #[.agg #[.int .i64 6, .int .i64 2, .int .i64 2, .int .i64 (-1)], .int .i64 i] w fun e w' => e = .returned (.int .i64 r) ∧ Below w.heap.size w w' := by
  go_enter Try.func134, Try.ntmps134
  go_wp2
  go_ret
  refine ⟨?_, by go_grown⟩
  rw [← hr.out]
  simp
  try omega
theorem maskOf_3 (w : World) : Calls Try.prog 135 #[.agg #[.int .i64 6, .int .i64 2, .int .i64 2, .int .i64 (-1)]] w fun e w' => e = .returned (.int .u64 3) ∧ Below w.heap.size w w' := by
  go_enter Try.func135, Try.ntmps135
  go_wp2
  go_ret
  exact ⟨by simp, by go_grown⟩
theorem fieldOf_4 (w : World) : Calls Try.prog 133 #[.int .i64 4] w fun e w' => e = .returned (.agg #[.int .i64 0, .int .i64 2, .int .i64 3, .int .i64 (-1)]) ∧ Below w.heap.size w w' := by
  go_enter Try.func133, Try.ntmps133
  go_wp2
  go_returns
  exact ⟨rfl, by go_grown⟩
theorem shiftOf_4 (i : Nat) (w : World) (hi : i < 2) (r : Int) (hr : Hid ((0 : Int) + (2 - 1 - (i : Int)) * 3 = r)) : Calls Try.prog 134 #[.agg #[.int .i64 0, .int .i64 2, .int .i64 3, .int .i64 (-1)], .int .i64 i] w fun e w' => e = .returned (.int .i64 r) ∧ Below w.heap.size w w' := by
  go_enter Try.func134, Try.ntmps134
  go_wp2
  go_ret
  refine ⟨?_, by go_grown⟩
  rw [← hr.out]
  simp
  try omega
theorem maskOf_4 (w : World) : Calls Try.prog 135 #[.agg #[.int .i64 0, .int .i64 2, .int .i64 3, .int .i64 (-1)]] w fun e w' => e = .returned (.int .u64 7) ∧ Below w.heap.size w w' := by
  go_enter Try.func135, Try.ntmps135
  go_wp2
  go_ret
  exact ⟨by simp, by go_grown⟩
theorem fieldOf_5 (w : World) : Calls Try.prog 133 #[.int .i64 5] w fun e w' => e = .returned (.agg #[.int .i64 43, .int .i64 3, .int .i64 1, .int .i64 (0)]) ∧ Below w.heap.size w w' := by
  go_enter Try.func133, Try.ntmps133
  go_wp2
  go_returns
  exact ⟨rfl, by go_grown⟩
theorem shiftOf_5 (i : Nat) (w : World) (hi : i < 3) (r : Int) (hr : Hid ((43 : Int) + (3 - 1 - (i : Int)) * 1 = r)) : Calls Try.prog 134 #[.agg #[.int .i64 43, .int .i64 3, .int .i64 1, .int .i64 (0)], .int .i64 i] w fun e w' => e = .returned (.int .i64 r) ∧ Below w.heap.size w w' := by
  go_enter Try.func134, Try.ntmps134
  go_wp2
  go_ret
  refine ⟨?_, by go_grown⟩
  rw [← hr.out]
  simp
  try omega
theorem maskOf_5 (w : World) : Calls Try.prog 135 #[.agg #[.int .i64 43, .int .i64 3, .int .i64 1, .int .i64 (0)]] w fun e w' => e = .returned (.int .u64 1) ∧ Below w.heap.size w w' := by
  go_enter Try.func135, Try.ntmps135
  go_wp2
  go_ret
  exact ⟨by simp, by go_grown⟩
theorem fieldOf_6 (w : World) : Calls Try.prog 133 #[.int .i64 6] w fun e w' => e = .returned (.agg #[.int .i64 0, .int .i64 3, .int .i64 1, .int .i64 (0)]) ∧ Below w.heap.size w w' := by
  go_enter Try.func133, Try.ntmps133
  go_wp2
  go_returns
  exact ⟨rfl, by go_grown⟩
theorem shiftOf_6 (i : Nat) (w : World) (hi : i < 3) (r : Int) (hr : Hid ((0 : Int) + (3 - 1 - (i : Int)) * 1 = r)) : Calls Try.prog 134 #[.agg #[.int .i64 0, .int .i64 3, .int .i64 1, .int .i64 (0)], .int .i64 i] w fun e w' => e = .returned (.int .i64 r) ∧ Below w.heap.size w w' := by
  go_enter Try.func134, Try.ntmps134
  go_wp2
  go_ret
  refine ⟨?_, by go_grown⟩
  rw [← hr.out]
  simp
  try omega
theorem maskOf_6 (w : World) : Calls Try.prog 135 #[.agg #[.int .i64 0, .int .i64 3, .int .i64 1, .int .i64 (0)]] w fun e w' => e = .returned (.int .u64 1) ∧ Below w.heap.size w w' := by
  go_enter Try.func135, Try.ntmps135
  go_wp2
  go_ret
  exact ⟨by simp, by go_grown⟩
theorem fieldOf_7 (w : World) : Calls Try.prog 133 #[.int .i64 7] w fun e w' => e = .returned (.agg #[.int .i64 0, .int .i64 3, .int .i64 8, .int .i64 (0)]) ∧ Below w.heap.size w w' := by
  go_enter Try.func133, Try.ntmps133
  go_wp2
  go_returns
  exact ⟨rfl, by go_grown⟩
theorem shiftOf_7 (i : Nat) (w : World) (hi : i < 3) (r : Int) (hr : Hid ((0 : Int) + (3 - 1 - (i : Int)) * 8 = r)) : Calls Try.prog 134 #[.agg #[.int .i64 0, .int .i64 3, .int .i64 8, .int .i64 (0)], .int .i64 i] w fun e w' => e = .returned (.int .i64 r) ∧ Below w.heap.size w w' := by
  go_enter Try.func134, Try.ntmps134
  go_wp2
  go_ret
  refine ⟨?_, by go_grown⟩
  rw [← hr.out]
  simp
  try omega
theorem maskOf_7 (w : World) : Calls Try.prog 135 #[.agg #[.int .i64 0, .int .i64 3, .int .i64 8, .int .i64 (0)]] w fun e w' => e = .returned (.int .u64 255) ∧ Below w.heap.size w w' := by
  go_enter Try.func135, Try.ntmps135
  go_wp2
  go_ret
  exact ⟨by simp, by go_grown⟩
theorem fieldOf_8 (w : World) : Calls Try.prog 133 #[.int .i64 8] w fun e w' => e = .returned (.agg #[.int .i64 0, .int .i64 3, .int .i64 13, .int .i64 (0)]) ∧ Below w.heap.size w w' := by
  go_enter Try.func133, Try.ntmps133
  go_wp2
  go_returns
  exact ⟨rfl, by go_grown⟩
theorem shiftOf_8 (i : Nat) (w : World) (hi : i < 3) (r : Int) (hr : Hid ((0 : Int) + (3 - 1 - (i : Int)) * 13 = r)) : Calls Try.prog 134 #[.agg #[.int .i64 0, .int .i64 3, .int .i64 13, .int .i64 (0)], .int .i64 i] w fun e w' => e = .returned (.int .i64 r) ∧ Below w.heap.size w w' := by
  go_enter Try.func134, Try.ntmps134
  go_wp2
  go_ret
  refine ⟨?_, by go_grown⟩
  rw [← hr.out]
  simp
  try omega
theorem maskOf_8 (w : World) : Calls Try.prog 135 #[.agg #[.int .i64 0, .int .i64 3, .int .i64 13, .int .i64 (0)]] w fun e w' => e = .returned (.int .u64 8191) ∧ Below w.heap.size w w' := by
  go_enter Try.func135, Try.ntmps135
  go_wp2
  go_ret
  exact ⟨by simp, by go_grown⟩
theorem fieldOf_9 (w : World) : Calls Try.prog 133 #[.int .i64 9] w fun e w' => e = .returned (.agg #[.int .i64 39, .int .i64 1, .int .i64 2, .int .i64 (0)]) ∧ Below w.heap.size w w' := by
  go_enter Try.func133, Try.ntmps133
  go_wp2
  go_returns
  exact ⟨rfl, by go_grown⟩
theorem shiftOf_9 (i : Nat) (w : World) (hi : i < 1) (r : Int) (hr : Hid ((39 : Int) + (1 - 1 - (i : Int)) * 2 = r)) : Calls Try.prog 134 #[.agg #[.int .i64 39, .int .i64 1, .int .i64 2, .int .i64 (0)], .int .i64 i] w fun e w' => e = .returned (.int .i64 r) ∧ Below w.heap.size w w' := by
  go_enter Try.func134, Try.ntmps134
  go_wp2
  go_ret
  refine ⟨?_, by go_grown⟩
  rw [← hr.out]
  simp
  try omega
theorem maskOf_9 (w : World) : Calls Try.prog 135 #[.agg #[.int .i64 39, .int .i64 1, .int .i64 2, .int .i64 (0)]] w fun e w' => e = .returned (.int .u64 3) ∧ Below w.heap.size w w' := by
  go_enter Try.func135, Try.ntmps135
  go_wp2
  go_ret
  exact ⟨by simp, by go_grown⟩
theorem fieldOf_10 (w : World) : Calls Try.prog 133 #[.int .i64 10] w fun e w' => e = .returned (.agg #[.int .i64 41, .int .i64 1, .int .i64 1, .int .i64 (0)]) ∧ Below w.heap.size w w' := by
  go_enter Try.func133, Try.ntmps133
  go_wp2
  go_returns
  exact ⟨rfl, by go_grown⟩
theorem shiftOf_10 (i : Nat) (w : World) (hi : i < 1) (r : Int) (hr : Hid ((41 : Int) + (1 - 1 - (i : Int)) * 1 = r)) : Calls Try.prog 134 #[.agg #[.int .i64 41, .int .i64 1, .int .i64 1, .int .i64 (0)], .int .i64 i] w fun e w' => e = .returned (.int .i64 r) ∧ Below w.heap.size w w' := by
  go_enter Try.func134, Try.ntmps134
  go_wp2
  go_ret
  refine ⟨?_, by go_grown⟩
  rw [← hr.out]
  simp
  try omega
theorem maskOf_10 (w : World) : Calls Try.prog 135 #[.agg #[.int .i64 41, .int .i64 1, .int .i64 1, .int .i64 (0)]] w fun e w' => e = .returned (.int .u64 1) ∧ Below w.heap.size w w' := by
  go_enter Try.func135, Try.ntmps135
  go_wp2
  go_ret
  exact ⟨by simp, by go_grown⟩
theorem entry_0 (W i : Nat) (w : World) (hW : W < 18446744073709551616) (hi : i < 3) :
    Calls Try.prog 104 #[.int .u64 W, .int .i64 0, .int .i64 i] w fun e w' => e = .returned (.int .i64 ((wget W (fS 0 i) 3 : Nat) + (0 : Int))) ∧ Below w.heap.size w w' := by
  have hs : ((fS 0 i : Nat) : Int) = 34 + (3 - 1 - (i : Int)) * 3 := by
    have e : fS 0 i = 34 + (3 - 1 - i) * 3 := rfl
    rw [e]; omega
  have hn : bits .and .u64 ((W : Int) / 2 ^ (fS 0 i)) 7 = ((wget W (fS 0 i) 3 : Nat) : Int) := by have := entry_num W (fS 0 i) 3 (fS 0 i : Nat) rfl hW (by omega); simpa using this
  have hlt := wget_lt W (fS 0 i) 3 (by omega)
  have hsl : fS 0 i ≤ 45 := by omega
  generalize fS 0 i = s at *
  have Hs := Lib.hid hs.symm
  have Hn := Lib.hid hn
  clear hs hn
  go_enter Try.func104, Try.ntmps104
  go_wp2_with fail
  refine (fieldOf_0 _).mono ?_
  rintro e w1 ⟨rfl, hb1⟩
  have sz1 := hb1.size
  go_wp2_with fail
  obtain ⟨V, hV⟩ : ∃ V, V = w1.alloc (.cells #[.int .i64 34, .int .i64 3, .int .i64 3, .int .i64 (0)] 173) := ⟨_, rfl⟩
  rw [← hV]
  have kV : Bk V w1.heap.size 173 #[.int .i64 34, .int .i64 3, .int .i64 3, .int .i64 (0)] := by rw [hV]; exact Bk.new _ _ _
  have allS : ∀ w', Below V.heap.size V w' → (Below V.heap.size V w' ∧ w'.cell? ⟨w1.heap.size, 0, none⟩ = some (.int .i64 34) ∧ w'.cell? ⟨w1.heap.size, 1, none⟩ = some (.int .i64 3) ∧ w'.cell? ⟨w1.heap.size, 2, none⟩ = some (.int .i64 3) ∧ w'.cell? ⟨w1.heap.size, 3, none⟩ = some (.int .i64 (0))) := fun w' hb => ⟨hb, (kV.below hb kV.lt).cell 0, (kV.below hb kV.lt).cell 1, (kV.below hb kV.lt).cell 2, (kV.below hb kV.lt).cell 3⟩
  have AllS := Lib.hid allS
  have bV : Below w.heap.size w V := by rw [hV]; exact below_on hb1 ((Below.refl _ _).alloc (Nat.le_refl _) _)
  have BV := Lib.hid bV
  clear allS hV kV bV hb1
  go_region_held3 (fun w' => Below V.heap.size V w' ∧ w'.cell? ⟨w1.heap.size, 0, none⟩ = some (.int .i64 34) ∧ w'.cell? ⟨w1.heap.size, 1, none⟩ = some (.int .i64 3) ∧ w'.cell? ⟨w1.heap.size, 2, none⟩ = some (.int .i64 3) ∧ w'.cell? ⟨w1.heap.size, 3, none⟩ = some (.int .i64 (0))) (first | (go_split_ands; exact AllS.out _ (by go_grown)) | (exact AllS.out _ (by go_grown))) (first | (go_at_call 134; go_split_ands; refine (shiftOf_0 i _ hi _ Hs).mono ?_; rintro e v1 ⟨rfl, hv⟩; have hBv1 : Below V.heap.size V v1 := below_on (by go_grown) hv; clear hv) | (go_at_call 135; go_split_ands; refine (maskOf_0 _).mono ?_; rintro e v2 ⟨rfl, hv⟩; have hBv2 : Below V.heap.size V v2 := below_on (by go_grown) hv; clear hv))
  go_wp2
  go_ret
  refine ⟨?_, below_on BV.out hBv2⟩
  have hn := Hn.out
  simp
  rw [hn]
  simp only [IntKind.wrap_i64]
  omega
theorem withEntry_0 (W i v : Nat) (n : Int) (w : World) (hW : W < 18446744073709551616) (hi : i < 3) (hv : v < 8) (hn : n = (v : Int) + (0)) :
    Calls Try.prog 107 #[.int .u64 W, .int .i64 0, .int .i64 i, .int .i64 n] w fun e w' => e = .returned (.int .u64 (wset W (fS 0 i) 3 v : Nat)) ∧ Below w.heap.size w w' := by
  subst hn
  have hs : ((fS 0 i : Nat) : Int) = 34 + (3 - 1 - (i : Int)) * 3 := by
    have e : fS 0 i = 34 + (3 - 1 - i) * 3 := rfl
    rw [e]; omega
  have hsl : fS 0 i ≤ 45 := by omega
  have Hw := Lib.hid (with_all W (fS 0 i) 3 v 7 rfl hW (by omega) hsl hv)
  generalize fS 0 i = s at *
  have Hs := Lib.hid hs.symm
  clear hs
  go_enter Try.func107, Try.ntmps107
  go_wp2_with fail
  refine (fieldOf_0 _).mono ?_
  rintro e w1 ⟨rfl, hb1⟩
  have sz1 := hb1.size
  go_wp2_with fail
  obtain ⟨V, hV⟩ : ∃ V, V = w1.alloc (.cells #[.int .i64 34, .int .i64 3, .int .i64 3, .int .i64 (0)] 173) := ⟨_, rfl⟩
  rw [← hV]
  have kV : Bk V w1.heap.size 173 #[.int .i64 34, .int .i64 3, .int .i64 3, .int .i64 (0)] := by rw [hV]; exact Bk.new _ _ _
  have allS : ∀ w', Below V.heap.size V w' → (Below V.heap.size V w' ∧ w'.cell? ⟨w1.heap.size, 0, none⟩ = some (.int .i64 34) ∧ w'.cell? ⟨w1.heap.size, 1, none⟩ = some (.int .i64 3) ∧ w'.cell? ⟨w1.heap.size, 2, none⟩ = some (.int .i64 3) ∧ w'.cell? ⟨w1.heap.size, 3, none⟩ = some (.int .i64 (0))) := fun w' hb => ⟨hb, (kV.below hb kV.lt).cell 0, (kV.below hb kV.lt).cell 1, (kV.below hb kV.lt).cell 2, (kV.below hb kV.lt).cell 3⟩
  have AllS := Lib.hid allS
  have bV : Below w.heap.size w V := by rw [hV]; exact below_on hb1 ((Below.refl _ _).alloc (Nat.le_refl _) _)
  have BV := Lib.hid bV
  have c0 := kV.cell 0
  have c1 := kV.cell 1
  have c2 := kV.cell 2
  have c3 := kV.cell 3
  simp only [List.getElem?_toArray, List.getElem?_cons_zero, List.getElem?_cons_succ] at c0 c1 c2 c3
  clear allS hV bV hb1
  go_wp2_with fail
  clear c0 c1 c2 c3
  refine (shiftOf_0 i _ hi _ Hs).mono ?_
  rintro e V2 ⟨rfl, hb2⟩
  have BV2 := Lib.hid (below_on BV.out hb2)
  have kV2 := kV.below hb2 kV.lt
  have allS2 : ∀ w', Below V2.heap.size V2 w' → (Below V2.heap.size V2 w' ∧ w'.cell? ⟨w1.heap.size, 0, none⟩ = some (.int .i64 34) ∧ w'.cell? ⟨w1.heap.size, 1, none⟩ = some (.int .i64 3) ∧ w'.cell? ⟨w1.heap.size, 2, none⟩ = some (.int .i64 3) ∧ w'.cell? ⟨w1.heap.size, 3, none⟩ = some (.int .i64 (0))) := fun w' hb => ⟨hb, (kV2.below hb kV2.lt).cell 0, (kV2.below hb kV2.lt).cell 1, (kV2.below hb kV2.lt).cell 2, (kV2.below hb kV2.lt).cell 3⟩
  clear AllS
  have AllS := Lib.hid allS2
  clear allS2 kV kV2 hb2
  go_wp2_with fail
  go_region_held3 (fun w' => Below V2.heap.size V2 w' ∧ w'.cell? ⟨w1.heap.size, 0, none⟩ = some (.int .i64 34) ∧ w'.cell? ⟨w1.heap.size, 1, none⟩ = some (.int .i64 3) ∧ w'.cell? ⟨w1.heap.size, 2, none⟩ = some (.int .i64 3) ∧ w'.cell? ⟨w1.heap.size, 3, none⟩ = some (.int .i64 (0))) (first | (go_split_ands; exact AllS.out _ (by go_grown)) | (exact AllS.out _ (by go_grown))) (first | (go_at_call 135; go_split_ands; refine (maskOf_0 _).mono ?_; rintro e v2 ⟨rfl, hv2⟩; have hBv2 : Below V2.heap.size V2 v2 := below_on (by go_grown) hv2; clear hv2))
  go_wp2
  go_ret
  refine ⟨?_, below_on BV2.out hBv2⟩
  have hw := Hw.out
  try simp only [Int.one_mul] at hw
  have e1 : IntKind.i64.wrap (v : Int) = v := wrap64_small (by omega) (by omega)
  have e2 : IntKind.u64.wrap (v : Int) = v := wrapu_small (by omega) (by omega)
  have e3 : (v : Int) + -1 + 1 = v := by omega
  simp [e1, e2, hw]
theorem entry_1 (W i : Nat) (w : World) (hW : W < 18446744073709551616) (hi : i < 9) :
    Calls Try.prog 104 #[.int .u64 W, .int .i64 1, .int .i64 i] w fun e w' => e = .returned (.int .i64 ((wget W (fS 1 i) 2 : Nat) + (0 : Int))) ∧ Below w.heap.size w w' := by
  have hs : ((fS 1 i : Nat) : Int) = 16 + (9 - 1 - (i : Int)) * 2 := by
    have e : fS 1 i = 16 + (9 - 1 - i) * 2 := rfl
    rw [e]; omega
  have hn : bits .and .u64 ((W : Int) / 2 ^ (fS 1 i)) 3 = ((wget W (fS 1 i) 2 : Nat) : Int) := by have := entry_num W (fS 1 i) 2 (fS 1 i : Nat) rfl hW (by omega); simpa using this
  have hlt := wget_lt W (fS 1 i) 2 (by omega)
  have hsl : fS 1 i ≤ 45 := by omega
  generalize fS 1 i = s at *
  have Hs := Lib.hid hs.symm
  have Hn := Lib.hid hn
  clear hs hn
  go_enter Try.func104, Try.ntmps104
  go_wp2_with fail
  refine (fieldOf_1 _).mono ?_
  rintro e w1 ⟨rfl, hb1⟩
  have sz1 := hb1.size
  go_wp2_with fail
  obtain ⟨V, hV⟩ : ∃ V, V = w1.alloc (.cells #[.int .i64 16, .int .i64 9, .int .i64 2, .int .i64 (0)] 173) := ⟨_, rfl⟩
  rw [← hV]
  have kV : Bk V w1.heap.size 173 #[.int .i64 16, .int .i64 9, .int .i64 2, .int .i64 (0)] := by rw [hV]; exact Bk.new _ _ _
  have allS : ∀ w', Below V.heap.size V w' → (Below V.heap.size V w' ∧ w'.cell? ⟨w1.heap.size, 0, none⟩ = some (.int .i64 16) ∧ w'.cell? ⟨w1.heap.size, 1, none⟩ = some (.int .i64 9) ∧ w'.cell? ⟨w1.heap.size, 2, none⟩ = some (.int .i64 2) ∧ w'.cell? ⟨w1.heap.size, 3, none⟩ = some (.int .i64 (0))) := fun w' hb => ⟨hb, (kV.below hb kV.lt).cell 0, (kV.below hb kV.lt).cell 1, (kV.below hb kV.lt).cell 2, (kV.below hb kV.lt).cell 3⟩
  have AllS := Lib.hid allS
  have bV : Below w.heap.size w V := by rw [hV]; exact below_on hb1 ((Below.refl _ _).alloc (Nat.le_refl _) _)
  have BV := Lib.hid bV
  clear allS hV kV bV hb1
  go_region_held3 (fun w' => Below V.heap.size V w' ∧ w'.cell? ⟨w1.heap.size, 0, none⟩ = some (.int .i64 16) ∧ w'.cell? ⟨w1.heap.size, 1, none⟩ = some (.int .i64 9) ∧ w'.cell? ⟨w1.heap.size, 2, none⟩ = some (.int .i64 2) ∧ w'.cell? ⟨w1.heap.size, 3, none⟩ = some (.int .i64 (0))) (first | (go_split_ands; exact AllS.out _ (by go_grown)) | (exact AllS.out _ (by go_grown))) (first | (go_at_call 134; go_split_ands; refine (shiftOf_1 i _ hi _ Hs).mono ?_; rintro e v1 ⟨rfl, hv⟩; have hBv1 : Below V.heap.size V v1 := below_on (by go_grown) hv; clear hv) | (go_at_call 135; go_split_ands; refine (maskOf_1 _).mono ?_; rintro e v2 ⟨rfl, hv⟩; have hBv2 : Below V.heap.size V v2 := below_on (by go_grown) hv; clear hv))
  go_wp2
  go_ret
  refine ⟨?_, below_on BV.out hBv2⟩
  have hn := Hn.out
  simp
  rw [hn]
  simp only [IntKind.wrap_i64]
  omega
theorem withEntry_1 (W i v : Nat) (n : Int) (w : World) (hW : W < 18446744073709551616) (hi : i < 9) (hv : v < 4) (hn : n = (v : Int) + (0)) :
    Calls Try.prog 107 #[.int .u64 W, .int .i64 1, .int .i64 i, .int .i64 n] w fun e w' => e = .returned (.int .u64 (wset W (fS 1 i) 2 v : Nat)) ∧ Below w.heap.size w w' := by
  subst hn
  have hs : ((fS 1 i : Nat) : Int) = 16 + (9 - 1 - (i : Int)) * 2 := by
    have e : fS 1 i = 16 + (9 - 1 - i) * 2 := rfl
    rw [e]; omega
  have hsl : fS 1 i ≤ 45 := by omega
  have Hw := Lib.hid (with_all W (fS 1 i) 2 v 3 rfl hW (by omega) hsl hv)
  generalize fS 1 i = s at *
  have Hs := Lib.hid hs.symm
  clear hs
  go_enter Try.func107, Try.ntmps107
  go_wp2_with fail
  refine (fieldOf_1 _).mono ?_
  rintro e w1 ⟨rfl, hb1⟩
  have sz1 := hb1.size
  go_wp2_with fail
  obtain ⟨V, hV⟩ : ∃ V, V = w1.alloc (.cells #[.int .i64 16, .int .i64 9, .int .i64 2, .int .i64 (0)] 173) := ⟨_, rfl⟩
  rw [← hV]
  have kV : Bk V w1.heap.size 173 #[.int .i64 16, .int .i64 9, .int .i64 2, .int .i64 (0)] := by rw [hV]; exact Bk.new _ _ _
  have allS : ∀ w', Below V.heap.size V w' → (Below V.heap.size V w' ∧ w'.cell? ⟨w1.heap.size, 0, none⟩ = some (.int .i64 16) ∧ w'.cell? ⟨w1.heap.size, 1, none⟩ = some (.int .i64 9) ∧ w'.cell? ⟨w1.heap.size, 2, none⟩ = some (.int .i64 2) ∧ w'.cell? ⟨w1.heap.size, 3, none⟩ = some (.int .i64 (0))) := fun w' hb => ⟨hb, (kV.below hb kV.lt).cell 0, (kV.below hb kV.lt).cell 1, (kV.below hb kV.lt).cell 2, (kV.below hb kV.lt).cell 3⟩
  have AllS := Lib.hid allS
  have bV : Below w.heap.size w V := by rw [hV]; exact below_on hb1 ((Below.refl _ _).alloc (Nat.le_refl _) _)
  have BV := Lib.hid bV
  have c0 := kV.cell 0
  have c1 := kV.cell 1
  have c2 := kV.cell 2
  have c3 := kV.cell 3
  simp only [List.getElem?_toArray, List.getElem?_cons_zero, List.getElem?_cons_succ] at c0 c1 c2 c3
  clear allS hV bV hb1
  go_wp2_with fail
  clear c0 c1 c2 c3
  refine (shiftOf_1 i _ hi _ Hs).mono ?_
  rintro e V2 ⟨rfl, hb2⟩
  have BV2 := Lib.hid (below_on BV.out hb2)
  have kV2 := kV.below hb2 kV.lt
  have allS2 : ∀ w', Below V2.heap.size V2 w' → (Below V2.heap.size V2 w' ∧ w'.cell? ⟨w1.heap.size, 0, none⟩ = some (.int .i64 16) ∧ w'.cell? ⟨w1.heap.size, 1, none⟩ = some (.int .i64 9) ∧ w'.cell? ⟨w1.heap.size, 2, none⟩ = some (.int .i64 2) ∧ w'.cell? ⟨w1.heap.size, 3, none⟩ = some (.int .i64 (0))) := fun w' hb => ⟨hb, (kV2.below hb kV2.lt).cell 0, (kV2.below hb kV2.lt).cell 1, (kV2.below hb kV2.lt).cell 2, (kV2.below hb kV2.lt).cell 3⟩
  clear AllS
  have AllS := Lib.hid allS2
  clear allS2 kV kV2 hb2
  go_wp2_with fail
  go_region_held3 (fun w' => Below V2.heap.size V2 w' ∧ w'.cell? ⟨w1.heap.size, 0, none⟩ = some (.int .i64 16) ∧ w'.cell? ⟨w1.heap.size, 1, none⟩ = some (.int .i64 9) ∧ w'.cell? ⟨w1.heap.size, 2, none⟩ = some (.int .i64 2) ∧ w'.cell? ⟨w1.heap.size, 3, none⟩ = some (.int .i64 (0))) (first | (go_split_ands; exact AllS.out _ (by go_grown)) | (exact AllS.out _ (by go_grown))) (first | (go_at_call 135; go_split_ands; refine (maskOf_1 _).mono ?_; rintro e v2 ⟨rfl, hv2⟩; have hBv2 : Below V2.heap.size V2 v2 := below_on (by go_grown) hv2; clear hv2))
  go_wp2
  go_ret
  refine ⟨?_, below_on BV2.out hBv2⟩
  have hw := Hw.out
  try simp only [Int.one_mul] at hw
  have e1 : IntKind.i64.wrap (v : Int) = v := wrap64_small (by omega) (by omega)
  have e2 : IntKind.u64.wrap (v : Int) = v := wrapu_small (by omega) (by omega)
  have e3 : (v : Int) + -1 + 1 = v := by omega
  simp [e1, e2, hw]
theorem entry_2 (W i : Nat) (w : World) (hW : W < 18446744073709551616) (hi : i < 3) :
    Calls Try.prog 104 #[.int .u64 W, .int .i64 2, .int .i64 i] w fun e w' => e = .returned (.int .i64 ((wget W (fS 2 i) 2 : Nat) + (0 : Int))) ∧ Below w.heap.size w w' := by
  have hs : ((fS 2 i : Nat) : Int) = 10 + (3 - 1 - (i : Int)) * 2 := by
    have e : fS 2 i = 10 + (3 - 1 - i) * 2 := rfl
    rw [e]; omega
  have hn : bits .and .u64 ((W : Int) / 2 ^ (fS 2 i)) 3 = ((wget W (fS 2 i) 2 : Nat) : Int) := by have := entry_num W (fS 2 i) 2 (fS 2 i : Nat) rfl hW (by omega); simpa using this
  have hlt := wget_lt W (fS 2 i) 2 (by omega)
  have hsl : fS 2 i ≤ 45 := by omega
  generalize fS 2 i = s at *
  have Hs := Lib.hid hs.symm
  have Hn := Lib.hid hn
  clear hs hn
  go_enter Try.func104, Try.ntmps104
  go_wp2_with fail
  refine (fieldOf_2 _).mono ?_
  rintro e w1 ⟨rfl, hb1⟩
  have sz1 := hb1.size
  go_wp2_with fail
  obtain ⟨V, hV⟩ : ∃ V, V = w1.alloc (.cells #[.int .i64 10, .int .i64 3, .int .i64 2, .int .i64 (0)] 173) := ⟨_, rfl⟩
  rw [← hV]
  have kV : Bk V w1.heap.size 173 #[.int .i64 10, .int .i64 3, .int .i64 2, .int .i64 (0)] := by rw [hV]; exact Bk.new _ _ _
  have allS : ∀ w', Below V.heap.size V w' → (Below V.heap.size V w' ∧ w'.cell? ⟨w1.heap.size, 0, none⟩ = some (.int .i64 10) ∧ w'.cell? ⟨w1.heap.size, 1, none⟩ = some (.int .i64 3) ∧ w'.cell? ⟨w1.heap.size, 2, none⟩ = some (.int .i64 2) ∧ w'.cell? ⟨w1.heap.size, 3, none⟩ = some (.int .i64 (0))) := fun w' hb => ⟨hb, (kV.below hb kV.lt).cell 0, (kV.below hb kV.lt).cell 1, (kV.below hb kV.lt).cell 2, (kV.below hb kV.lt).cell 3⟩
  have AllS := Lib.hid allS
  have bV : Below w.heap.size w V := by rw [hV]; exact below_on hb1 ((Below.refl _ _).alloc (Nat.le_refl _) _)
  have BV := Lib.hid bV
  clear allS hV kV bV hb1
  go_region_held3 (fun w' => Below V.heap.size V w' ∧ w'.cell? ⟨w1.heap.size, 0, none⟩ = some (.int .i64 10) ∧ w'.cell? ⟨w1.heap.size, 1, none⟩ = some (.int .i64 3) ∧ w'.cell? ⟨w1.heap.size, 2, none⟩ = some (.int .i64 2) ∧ w'.cell? ⟨w1.heap.size, 3, none⟩ = some (.int .i64 (0))) (first | (go_split_ands; exact AllS.out _ (by go_grown)) | (exact AllS.out _ (by go_grown))) (first | (go_at_call 134; go_split_ands; refine (shiftOf_2 i _ hi _ Hs).mono ?_; rintro e v1 ⟨rfl, hv⟩; have hBv1 : Below V.heap.size V v1 := below_on (by go_grown) hv; clear hv) | (go_at_call 135; go_split_ands; refine (maskOf_2 _).mono ?_; rintro e v2 ⟨rfl, hv⟩; have hBv2 : Below V.heap.size V v2 := below_on (by go_grown) hv; clear hv))
  go_wp2
  go_ret
  refine ⟨?_, below_on BV.out hBv2⟩
  have hn := Hn.out
  simp
  rw [hn]
  simp only [IntKind.wrap_i64]
  omega
theorem withEntry_2 (W i v : Nat) (n : Int) (w : World) (hW : W < 18446744073709551616) (hi : i < 3) (hv : v < 4) (hn : n = (v : Int) + (0)) :
    Calls Try.prog 107 #[.int .u64 W, .int .i64 2, .int .i64 i, .int .i64 n] w fun e w' => e = .returned (.int .u64 (wset W (fS 2 i) 2 v : Nat)) ∧ Below w.heap.size w w' := by
  subst hn
  have hs : ((fS 2 i : Nat) : Int) = 10 + (3 - 1 - (i : Int)) * 2 := by
    have e : fS 2 i = 10 + (3 - 1 - i) * 2 := rfl
    rw [e]; omega
  have hsl : fS 2 i ≤ 45 := by omega
  have Hw := Lib.hid (with_all W (fS 2 i) 2 v 3 rfl hW (by omega) hsl hv)
  generalize fS 2 i = s at *
  have Hs := Lib.hid hs.symm
  clear hs
  go_enter Try.func107, Try.ntmps107
  go_wp2_with fail
  refine (fieldOf_2 _).mono ?_
  rintro e w1 ⟨rfl, hb1⟩
  have sz1 := hb1.size
  go_wp2_with fail
  obtain ⟨V, hV⟩ : ∃ V, V = w1.alloc (.cells #[.int .i64 10, .int .i64 3, .int .i64 2, .int .i64 (0)] 173) := ⟨_, rfl⟩
  rw [← hV]
  have kV : Bk V w1.heap.size 173 #[.int .i64 10, .int .i64 3, .int .i64 2, .int .i64 (0)] := by rw [hV]; exact Bk.new _ _ _
  have allS : ∀ w', Below V.heap.size V w' → (Below V.heap.size V w' ∧ w'.cell? ⟨w1.heap.size, 0, none⟩ = some (.int .i64 10) ∧ w'.cell? ⟨w1.heap.size, 1, none⟩ = some (.int .i64 3) ∧ w'.cell? ⟨w1.heap.size, 2, none⟩ = some (.int .i64 2) ∧ w'.cell? ⟨w1.heap.size, 3, none⟩ = some (.int .i64 (0))) := fun w' hb => ⟨hb, (kV.below hb kV.lt).cell 0, (kV.below hb kV.lt).cell 1, (kV.below hb kV.lt).cell 2, (kV.below hb kV.lt).cell 3⟩
  have AllS := Lib.hid allS
  have bV : Below w.heap.size w V := by rw [hV]; exact below_on hb1 ((Below.refl _ _).alloc (Nat.le_refl _) _)
  have BV := Lib.hid bV
  have c0 := kV.cell 0
  have c1 := kV.cell 1
  have c2 := kV.cell 2
  have c3 := kV.cell 3
  simp only [List.getElem?_toArray, List.getElem?_cons_zero, List.getElem?_cons_succ] at c0 c1 c2 c3
  clear allS hV bV hb1
  go_wp2_with fail
  clear c0 c1 c2 c3
  refine (shiftOf_2 i _ hi _ Hs).mono ?_
  rintro e V2 ⟨rfl, hb2⟩
  have BV2 := Lib.hid (below_on BV.out hb2)
  have kV2 := kV.below hb2 kV.lt
  have allS2 : ∀ w', Below V2.heap.size V2 w' → (Below V2.heap.size V2 w' ∧ w'.cell? ⟨w1.heap.size, 0, none⟩ = some (.int .i64 10) ∧ w'.cell? ⟨w1.heap.size, 1, none⟩ = some (.int .i64 3) ∧ w'.cell? ⟨w1.heap.size, 2, none⟩ = some (.int .i64 2) ∧ w'.cell? ⟨w1.heap.size, 3, none⟩ = some (.int .i64 (0))) := fun w' hb => ⟨hb, (kV2.below hb kV2.lt).cell 0, (kV2.below hb kV2.lt).cell 1, (kV2.below hb kV2.lt).cell 2, (kV2.below hb kV2.lt).cell 3⟩
  clear AllS
  have AllS := Lib.hid allS2
  clear allS2 kV kV2 hb2
  go_wp2_with fail
  go_region_held3 (fun w' => Below V2.heap.size V2 w' ∧ w'.cell? ⟨w1.heap.size, 0, none⟩ = some (.int .i64 10) ∧ w'.cell? ⟨w1.heap.size, 1, none⟩ = some (.int .i64 3) ∧ w'.cell? ⟨w1.heap.size, 2, none⟩ = some (.int .i64 2) ∧ w'.cell? ⟨w1.heap.size, 3, none⟩ = some (.int .i64 (0))) (first | (go_split_ands; exact AllS.out _ (by go_grown)) | (exact AllS.out _ (by go_grown))) (first | (go_at_call 135; go_split_ands; refine (maskOf_2 _).mono ?_; rintro e v2 ⟨rfl, hv2⟩; have hBv2 : Below V2.heap.size V2 v2 := below_on (by go_grown) hv2; clear hv2))
  go_wp2
  go_ret
  refine ⟨?_, below_on BV2.out hBv2⟩
  have hw := Hw.out
  try simp only [Int.one_mul] at hw
  have e1 : IntKind.i64.wrap (v : Int) = v := wrap64_small (by omega) (by omega)
  have e2 : IntKind.u64.wrap (v : Int) = v := wrapu_small (by omega) (by omega)
  have e3 : (v : Int) + -1 + 1 = v := by omega
  simp [e1, e2, hw]
theorem entry_3 (W i : Nat) (w : World) (hW : W < 18446744073709551616) (hi : i < 2) :
    Calls Try.prog 104 #[.int .u64 W, .int .i64 3, .int .i64 i] w fun e w' => e = .returned (.int .i64 ((wget W (fS 3 i) 2 : Nat) + (-1 : Int))) ∧ Below w.heap.size w w' := by
  have hs : ((fS 3 i : Nat) : Int) = 6 + (2 - 1 - (i : Int)) * 2 := by
    have e : fS 3 i = 6 + (2 - 1 - i) * 2 := rfl
    rw [e]; omega
  have hn : bits .and .u64 ((W : Int) / 2 ^ (fS 3 i)) 3 = ((wget W (fS 3 i) 2 : Nat) : Int) := by have := entry_num W (fS 3 i) 2 (fS 3 i : Nat) rfl hW (by omega); simpa using this
  have hlt := wget_lt W (fS 3 i) 2 (by omega)
  have hsl : fS 3 i ≤ 45 := by omega
  generalize fS 3 i = s at *
  have Hs := Lib.hid hs.symm
  have Hn := Lib.hid hn
  clear hs hn
  go_enter Try.func104, Try.ntmps104
  go_wp2_with fail
  refine (fieldOf_3 _).mono ?_
  rintro e w1 ⟨rfl, hb1⟩
  have sz1 := hb1.size
  go_wp2_with fail
  obtain ⟨V, hV⟩ : ∃ V, V = w1.alloc (.cells #[.int .i64 6, .int .i64 2, .int .i64 2, .int .i64 (-1)] 173) := ⟨_, rfl⟩
  rw [← hV]
  have kV : Bk V w1.heap.size 173 #[.int .i64 6, .int .i64 2, .int .i64 2, .int .i64 (-1)] := by rw [hV]; exact Bk.new _ _ _
  have allS : ∀ w', Below V.heap.size V w' → (Below V.heap.size V w' ∧ w'.cell? ⟨w1.heap.size, 0, none⟩ = some (.int .i64 6) ∧ w'.cell? ⟨w1.heap.size, 1, none⟩ = some (.int .i64 2) ∧ w'.cell? ⟨w1.heap.size, 2, none⟩ = some (.int .i64 2) ∧ w'.cell? ⟨w1.heap.size, 3, none⟩ = some (.int .i64 (-1))) := fun w' hb => ⟨hb, (kV.below hb kV.lt).cell 0, (kV.below hb kV.lt).cell 1, (kV.below hb kV.lt).cell 2, (kV.below hb kV.lt).cell 3⟩
  have AllS := Lib.hid allS
  have bV : Below w.heap.size w V := by rw [hV]; exact below_on hb1 ((Below.refl _ _).alloc (Nat.le_refl _) _)
  have BV := Lib.hid bV
  clear allS hV kV bV hb1
  go_region_held3 (fun w' => Below V.heap.size V w' ∧ w'.cell? ⟨w1.heap.size, 0, none⟩ = some (.int .i64 6) ∧ w'.cell? ⟨w1.heap.size, 1, none⟩ = some (.int .i64 2) ∧ w'.cell? ⟨w1.heap.size, 2, none⟩ = some (.int .i64 2) ∧ w'.cell? ⟨w1.heap.size, 3, none⟩ = some (.int .i64 (-1))) (first | (go_split_ands; exact AllS.out _ (by go_grown)) | (exact AllS.out _ (by go_grown))) (first | (go_at_call 134; go_split_ands; refine (shiftOf_3 i _ hi _ Hs).mono ?_; rintro e v1 ⟨rfl, hv⟩; have hBv1 : Below V.heap.size V v1 := below_on (by go_grown) hv; clear hv) | (go_at_call 135; go_split_ands; refine (maskOf_3 _).mono ?_; rintro e v2 ⟨rfl, hv⟩; have hBv2 : Below V.heap.size V v2 := below_on (by go_grown) hv; clear hv))
  go_wp2
  go_ret
  refine ⟨?_, below_on BV.out hBv2⟩
  have hn := Hn.out
  simp
  rw [hn]
  simp only [IntKind.wrap_i64]
  omega
theorem withEntry_3 (W i v : Nat) (n : Int) (w : World) (hW : W < 18446744073709551616) (hi : i < 2) (hv : v < 4) (hn : n = (v : Int) + (-1)) :
    Calls Try.prog 107 #[.int .u64 W, .int .i64 3, .int .i64 i, .int .i64 n] w fun e w' => e = .returned (.int .u64 (wset W (fS 3 i) 2 v : Nat)) ∧ Below w.heap.size w w' := by
  subst hn
  have hs : ((fS 3 i : Nat) : Int) = 6 + (2 - 1 - (i : Int)) * 2 := by
    have e : fS 3 i = 6 + (2 - 1 - i) * 2 := rfl
    rw [e]; omega
  have hsl : fS 3 i ≤ 45 := by omega
  have Hw := Lib.hid (with_all W (fS 3 i) 2 v 3 rfl hW (by omega) hsl hv)
  generalize fS 3 i = s at *
  have Hs := Lib.hid hs.symm
  clear hs
  go_enter Try.func107, Try.ntmps107
  go_wp2_with fail
  refine (fieldOf_3 _).mono ?_
  rintro e w1 ⟨rfl, hb1⟩
  have sz1 := hb1.size
  go_wp2_with fail
  obtain ⟨V, hV⟩ : ∃ V, V = w1.alloc (.cells #[.int .i64 6, .int .i64 2, .int .i64 2, .int .i64 (-1)] 173) := ⟨_, rfl⟩
  rw [← hV]
  have kV : Bk V w1.heap.size 173 #[.int .i64 6, .int .i64 2, .int .i64 2, .int .i64 (-1)] := by rw [hV]; exact Bk.new _ _ _
  have allS : ∀ w', Below V.heap.size V w' → (Below V.heap.size V w' ∧ w'.cell? ⟨w1.heap.size, 0, none⟩ = some (.int .i64 6) ∧ w'.cell? ⟨w1.heap.size, 1, none⟩ = some (.int .i64 2) ∧ w'.cell? ⟨w1.heap.size, 2, none⟩ = some (.int .i64 2) ∧ w'.cell? ⟨w1.heap.size, 3, none⟩ = some (.int .i64 (-1))) := fun w' hb => ⟨hb, (kV.below hb kV.lt).cell 0, (kV.below hb kV.lt).cell 1, (kV.below hb kV.lt).cell 2, (kV.below hb kV.lt).cell 3⟩
  have AllS := Lib.hid allS
  have bV : Below w.heap.size w V := by rw [hV]; exact below_on hb1 ((Below.refl _ _).alloc (Nat.le_refl _) _)
  have BV := Lib.hid bV
  have c0 := kV.cell 0
  have c1 := kV.cell 1
  have c2 := kV.cell 2
  have c3 := kV.cell 3
  simp only [List.getElem?_toArray, List.getElem?_cons_zero, List.getElem?_cons_succ] at c0 c1 c2 c3
  clear allS hV bV hb1
  go_wp2_with fail
  clear c0 c1 c2 c3
  refine (shiftOf_3 i _ hi _ Hs).mono ?_
  rintro e V2 ⟨rfl, hb2⟩
  have BV2 := Lib.hid (below_on BV.out hb2)
  have kV2 := kV.below hb2 kV.lt
  have allS2 : ∀ w', Below V2.heap.size V2 w' → (Below V2.heap.size V2 w' ∧ w'.cell? ⟨w1.heap.size, 0, none⟩ = some (.int .i64 6) ∧ w'.cell? ⟨w1.heap.size, 1, none⟩ = some (.int .i64 2) ∧ w'.cell? ⟨w1.heap.size, 2, none⟩ = some (.int .i64 2) ∧ w'.cell? ⟨w1.heap.size, 3, none⟩ = some (.int .i64 (-1))) := fun w' hb => ⟨hb, (kV2.below hb kV2.lt).cell 0, (kV2.below hb kV2.lt).cell 1, (kV2.below hb kV2.lt).cell 2, (kV2.below hb kV2.lt).cell 3⟩
  clear AllS
  have AllS := Lib.hid allS2
  clear allS2 kV kV2 hb2
  go_wp2_with fail
  go_region_held3 (fun w' => Below V2.heap.size V2 w' ∧ w'.cell? ⟨w1.heap.size, 0, none⟩ = some (.int .i64 6) ∧ w'.cell? ⟨w1.heap.size, 1, none⟩ = some (.int .i64 2) ∧ w'.cell? ⟨w1.heap.size, 2, none⟩ = some (.int .i64 2) ∧ w'.cell? ⟨w1.heap.size, 3, none⟩ = some (.int .i64 (-1))) (first | (go_split_ands; exact AllS.out _ (by go_grown)) | (exact AllS.out _ (by go_grown))) (first | (go_at_call 135; go_split_ands; refine (maskOf_3 _).mono ?_; rintro e v2 ⟨rfl, hv2⟩; have hBv2 : Below V2.heap.size V2 v2 := below_on (by go_grown) hv2; clear hv2))
  go_wp2
  go_ret
  refine ⟨?_, below_on BV2.out hBv2⟩
  have hw := Hw.out
  try simp only [Int.one_mul] at hw
  have e1 : IntKind.i64.wrap (v : Int) = v := wrap64_small (by omega) (by omega)
  have e2 : IntKind.u64.wrap (v : Int) = v := wrapu_small (by omega) (by omega)
  have e3 : (v : Int) + -1 + 1 = v := by omega
  simp [e1, e2, e3, hw]
theorem entry_4 (W i : Nat) (w : World) (hW : W < 18446744073709551616) (hi : i < 2) :
    Calls Try.prog 104 #[.int .u64 W, .int .i64 4, .int .i64 i] w fun e w' => e = .returned (.int .i64 ((wget W (fS 4 i) 3 : Nat) + (-1 : Int))) ∧ Below w.heap.size w w' := by
  have hs : ((fS 4 i : Nat) : Int) = 0 + (2 - 1 - (i : Int)) * 3 := by
    have e : fS 4 i = 0 + (2 - 1 - i) * 3 := rfl
    rw [e]; omega
  have hn : bits .and .u64 ((W : Int) / 2 ^ (fS 4 i)) 7 = ((wget W (fS 4 i) 3 : Nat) : Int) := by have := entry_num W (fS 4 i) 3 (fS 4 i : Nat) rfl hW (by omega); simpa using this
  have hlt := wget_lt W (fS 4 i) 3 (by omega)
  have hsl : fS 4 i ≤ 45 := by omega
  generalize fS 4 i = s at *
  have Hs := Lib.hid hs.symm
  have Hn := Lib.hid hn
  clear hs hn
  go_enter Try.func104, Try.ntmps104
  go_wp2_with fail
  refine (fieldOf_4 _).mono ?_
  rintro e w1 ⟨rfl, hb1⟩
  have sz1 := hb1.size
  go_wp2_with fail
  obtain ⟨V, hV⟩ : ∃ V, V = w1.alloc (.cells #[.int .i64 0, .int .i64 2, .int .i64 3, .int .i64 (-1)] 173) := ⟨_, rfl⟩
  rw [← hV]
  have kV : Bk V w1.heap.size 173 #[.int .i64 0, .int .i64 2, .int .i64 3, .int .i64 (-1)] := by rw [hV]; exact Bk.new _ _ _
  have allS : ∀ w', Below V.heap.size V w' → (Below V.heap.size V w' ∧ w'.cell? ⟨w1.heap.size, 0, none⟩ = some (.int .i64 0) ∧ w'.cell? ⟨w1.heap.size, 1, none⟩ = some (.int .i64 2) ∧ w'.cell? ⟨w1.heap.size, 2, none⟩ = some (.int .i64 3) ∧ w'.cell? ⟨w1.heap.size, 3, none⟩ = some (.int .i64 (-1))) := fun w' hb => ⟨hb, (kV.below hb kV.lt).cell 0, (kV.below hb kV.lt).cell 1, (kV.below hb kV.lt).cell 2, (kV.below hb kV.lt).cell 3⟩
  have AllS := Lib.hid allS
  have bV : Below w.heap.size w V := by rw [hV]; exact below_on hb1 ((Below.refl _ _).alloc (Nat.le_refl _) _)
  have BV := Lib.hid bV
  clear allS hV kV bV hb1
  go_region_held3 (fun w' => Below V.heap.size V w' ∧ w'.cell? ⟨w1.heap.size, 0, none⟩ = some (.int .i64 0) ∧ w'.cell? ⟨w1.heap.size, 1, none⟩ = some (.int .i64 2) ∧ w'.cell? ⟨w1.heap.size, 2, none⟩ = some (.int .i64 3) ∧ w'.cell? ⟨w1.heap.size, 3, none⟩ = some (.int .i64 (-1))) (first | (go_split_ands; exact AllS.out _ (by go_grown)) | (exact AllS.out _ (by go_grown))) (first | (go_at_call 134; go_split_ands; refine (shiftOf_4 i _ hi _ Hs).mono ?_; rintro e v1 ⟨rfl, hv⟩; have hBv1 : Below V.heap.size V v1 := below_on (by go_grown) hv; clear hv) | (go_at_call 135; go_split_ands; refine (maskOf_4 _).mono ?_; rintro e v2 ⟨rfl, hv⟩; have hBv2 : Below V.heap.size V v2 := below_on (by go_grown) hv; clear hv))
  go_wp2
  go_ret
  refine ⟨?_, below_on BV.out hBv2⟩
  have hn := Hn.out
  simp
  rw [hn]
  simp only [IntKind.wrap_i64]
  omega
theorem withEntry_4 (W i v : Nat) (n : Int) (w : World) (hW : W < 18446744073709551616) (hi : i < 2) (hv : v < 8) (hn : n = (v : Int) + (-1)) :
    Calls Try.prog 107 #[.int .u64 W, .int .i64 4, .int .i64 i, .int .i64 n] w fun e w' => e = .returned (.int .u64 (wset W (fS 4 i) 3 v : Nat)) ∧ Below w.heap.size w w' := by
  subst hn
  have hs : ((fS 4 i : Nat) : Int) = 0 + (2 - 1 - (i : Int)) * 3 := by
    have e : fS 4 i = 0 + (2 - 1 - i) * 3 := rfl
    rw [e]; omega
  have hsl : fS 4 i ≤ 45 := by omega
  have Hw := Lib.hid (with_all W (fS 4 i) 3 v 7 rfl hW (by omega) hsl hv)
  generalize fS 4 i = s at *
  have Hs := Lib.hid hs.symm
  clear hs
  go_enter Try.func107, Try.ntmps107
  go_wp2_with fail
  refine (fieldOf_4 _).mono ?_
  rintro e w1 ⟨rfl, hb1⟩
  have sz1 := hb1.size
  go_wp2_with fail
  obtain ⟨V, hV⟩ : ∃ V, V = w1.alloc (.cells #[.int .i64 0, .int .i64 2, .int .i64 3, .int .i64 (-1)] 173) := ⟨_, rfl⟩
  rw [← hV]
  have kV : Bk V w1.heap.size 173 #[.int .i64 0, .int .i64 2, .int .i64 3, .int .i64 (-1)] := by rw [hV]; exact Bk.new _ _ _
  have allS : ∀ w', Below V.heap.size V w' → (Below V.heap.size V w' ∧ w'.cell? ⟨w1.heap.size, 0, none⟩ = some (.int .i64 0) ∧ w'.cell? ⟨w1.heap.size, 1, none⟩ = some (.int .i64 2) ∧ w'.cell? ⟨w1.heap.size, 2, none⟩ = some (.int .i64 3) ∧ w'.cell? ⟨w1.heap.size, 3, none⟩ = some (.int .i64 (-1))) := fun w' hb => ⟨hb, (kV.below hb kV.lt).cell 0, (kV.below hb kV.lt).cell 1, (kV.below hb kV.lt).cell 2, (kV.below hb kV.lt).cell 3⟩
  have AllS := Lib.hid allS
  have bV : Below w.heap.size w V := by rw [hV]; exact below_on hb1 ((Below.refl _ _).alloc (Nat.le_refl _) _)
  have BV := Lib.hid bV
  have c0 := kV.cell 0
  have c1 := kV.cell 1
  have c2 := kV.cell 2
  have c3 := kV.cell 3
  simp only [List.getElem?_toArray, List.getElem?_cons_zero, List.getElem?_cons_succ] at c0 c1 c2 c3
  clear allS hV bV hb1
  go_wp2_with fail
  clear c0 c1 c2 c3
  refine (shiftOf_4 i _ hi _ Hs).mono ?_
  rintro e V2 ⟨rfl, hb2⟩
  have BV2 := Lib.hid (below_on BV.out hb2)
  have kV2 := kV.below hb2 kV.lt
  have allS2 : ∀ w', Below V2.heap.size V2 w' → (Below V2.heap.size V2 w' ∧ w'.cell? ⟨w1.heap.size, 0, none⟩ = some (.int .i64 0) ∧ w'.cell? ⟨w1.heap.size, 1, none⟩ = some (.int .i64 2) ∧ w'.cell? ⟨w1.heap.size, 2, none⟩ = some (.int .i64 3) ∧ w'.cell? ⟨w1.heap.size, 3, none⟩ = some (.int .i64 (-1))) := fun w' hb => ⟨hb, (kV2.below hb kV2.lt).cell 0, (kV2.below hb kV2.lt).cell 1, (kV2.below hb kV2.lt).cell 2, (kV2.below hb kV2.lt).cell 3⟩
  clear AllS
  have AllS := Lib.hid allS2
  clear allS2 kV kV2 hb2
  go_wp2_with fail
  go_region_held3 (fun w' => Below V2.heap.size V2 w' ∧ w'.cell? ⟨w1.heap.size, 0, none⟩ = some (.int .i64 0) ∧ w'.cell? ⟨w1.heap.size, 1, none⟩ = some (.int .i64 2) ∧ w'.cell? ⟨w1.heap.size, 2, none⟩ = some (.int .i64 3) ∧ w'.cell? ⟨w1.heap.size, 3, none⟩ = some (.int .i64 (-1))) (first | (go_split_ands; exact AllS.out _ (by go_grown)) | (exact AllS.out _ (by go_grown))) (first | (go_at_call 135; go_split_ands; refine (maskOf_4 _).mono ?_; rintro e v2 ⟨rfl, hv2⟩; have hBv2 : Below V2.heap.size V2 v2 := below_on (by go_grown) hv2; clear hv2))
  go_wp2
  go_ret
  refine ⟨?_, below_on BV2.out hBv2⟩
  have hw := Hw.out
  try simp only [Int.one_mul] at hw
  have e1 : IntKind.i64.wrap (v : Int) = v := wrap64_small (by omega) (by omega)
  have e2 : IntKind.u64.wrap (v : Int) = v := wrapu_small (by omega) (by omega)
  have e3 : (v : Int) + -1 + 1 = v := by omega
  simp [e1, e2, e3, hw]
theorem entry_5 (W i : Nat) (w : World) (hW : W < 18446744073709551616) (hi : i < 3) :
    Calls Try.prog 104 #[.int .u64 W, .int .i64 5, .int .i64 i] w fun e w' => e = .returned (.int .i64 ((wget W (fS 5 i) 1 : Nat) + (0 : Int))) ∧ Below w.heap.size w w' := by
  have hs : ((fS 5 i : Nat) : Int) = 43 + (3 - 1 - (i : Int)) * 1 := by
    have e : fS 5 i = 43 + (3 - 1 - i) * 1 := rfl
    rw [e]; omega
  have hn : bits .and .u64 ((W : Int) / 2 ^ (fS 5 i)) 1 = ((wget W (fS 5 i) 1 : Nat) : Int) := by have := entry_num W (fS 5 i) 1 (fS 5 i : Nat) rfl hW (by omega); simpa using this
  have hlt := wget_lt W (fS 5 i) 1 (by omega)
  have hsl : fS 5 i ≤ 45 := by omega
  generalize fS 5 i = s at *
  have Hs := Lib.hid hs.symm
  have Hn := Lib.hid hn
  clear hs hn
  go_enter Try.func104, Try.ntmps104
  go_wp2_with fail
  refine (fieldOf_5 _).mono ?_
  rintro e w1 ⟨rfl, hb1⟩
  have sz1 := hb1.size
  go_wp2_with fail
  obtain ⟨V, hV⟩ : ∃ V, V = w1.alloc (.cells #[.int .i64 43, .int .i64 3, .int .i64 1, .int .i64 (0)] 173) := ⟨_, rfl⟩
  rw [← hV]
  have kV : Bk V w1.heap.size 173 #[.int .i64 43, .int .i64 3, .int .i64 1, .int .i64 (0)] := by rw [hV]; exact Bk.new _ _ _
  have allS : ∀ w', Below V.heap.size V w' → (Below V.heap.size V w' ∧ w'.cell? ⟨w1.heap.size, 0, none⟩ = some (.int .i64 43) ∧ w'.cell? ⟨w1.heap.size, 1, none⟩ = some (.int .i64 3) ∧ w'.cell? ⟨w1.heap.size, 2, none⟩ = some (.int .i64 1) ∧ w'.cell? ⟨w1.heap.size, 3, none⟩ = some (.int .i64 (0))) := fun w' hb => ⟨hb, (kV.below hb kV.lt).cell 0, (kV.below hb kV.lt).cell 1, (kV.below hb kV.lt).cell 2, (kV.below hb kV.lt).cell 3⟩
  have AllS := Lib.hid allS
  have bV : Below w.heap.size w V := by rw [hV]; exact below_on hb1 ((Below.refl _ _).alloc (Nat.le_refl _) _)
  have BV := Lib.hid bV
  clear allS hV kV bV hb1
  go_region_held3 (fun w' => Below V.heap.size V w' ∧ w'.cell? ⟨w1.heap.size, 0, none⟩ = some (.int .i64 43) ∧ w'.cell? ⟨w1.heap.size, 1, none⟩ = some (.int .i64 3) ∧ w'.cell? ⟨w1.heap.size, 2, none⟩ = some (.int .i64 1) ∧ w'.cell? ⟨w1.heap.size, 3, none⟩ = some (.int .i64 (0))) (first | (go_split_ands; exact AllS.out _ (by go_grown)) | (exact AllS.out _ (by go_grown))) (first | (go_at_call 134; go_split_ands; refine (shiftOf_5 i _ hi _ Hs).mono ?_; rintro e v1 ⟨rfl, hv⟩; have hBv1 : Below V.heap.size V v1 := below_on (by go_grown) hv; clear hv) | (go_at_call 135; go_split_ands; refine (maskOf_5 _).mono ?_; rintro e v2 ⟨rfl, hv⟩; have hBv2 : Below V.heap.size V v2 := below_on (by go_grown) hv; clear hv))
  go_wp2
  go_ret
  refine ⟨?_, below_on BV.out hBv2⟩
  have hn := Hn.out
  simp
  rw [hn]
  simp only [IntKind.wrap_i64]
  omega
theorem withEntry_5 (W i v : Nat) (n : Int) (w : World) (hW : W < 18446744073709551616) (hi : i < 3) (hv : v < 2) (hn : n = (v : Int) + (0)) :
    Calls Try.prog 107 #[.int .u64 W, .int .i64 5, .int .i64 i, .int .i64 n] w fun e w' => e = .returned (.int .u64 (wset W (fS 5 i) 1 v : Nat)) ∧ Below w.heap.size w w' := by
  subst hn
  have hs : ((fS 5 i : Nat) : Int) = 43 + (3 - 1 - (i : Int)) * 1 := by
    have e : fS 5 i = 43 + (3 - 1 - i) * 1 := rfl
    rw [e]; omega
  have hsl : fS 5 i ≤ 45 := by omega
  have Hw := Lib.hid (with_all W (fS 5 i) 1 v 1 rfl hW (by omega) hsl hv)
  generalize fS 5 i = s at *
  have Hs := Lib.hid hs.symm
  clear hs
  go_enter Try.func107, Try.ntmps107
  go_wp2_with fail
  refine (fieldOf_5 _).mono ?_
  rintro e w1 ⟨rfl, hb1⟩
  have sz1 := hb1.size
  go_wp2_with fail
  obtain ⟨V, hV⟩ : ∃ V, V = w1.alloc (.cells #[.int .i64 43, .int .i64 3, .int .i64 1, .int .i64 (0)] 173) := ⟨_, rfl⟩
  rw [← hV]
  have kV : Bk V w1.heap.size 173 #[.int .i64 43, .int .i64 3, .int .i64 1, .int .i64 (0)] := by rw [hV]; exact Bk.new _ _ _
  have allS : ∀ w', Below V.heap.size V w' → (Below V.heap.size V w' ∧ w'.cell? ⟨w1.heap.size, 0, none⟩ = some (.int .i64 43) ∧ w'.cell? ⟨w1.heap.size, 1, none⟩ = some (.int .i64 3) ∧ w'.cell? ⟨w1.heap.size, 2, none⟩ = some (.int .i64 1) ∧ w'.cell? ⟨w1.heap.size, 3, none⟩ = some (.int .i64 (0))) := fun w' hb => ⟨hb, (kV.below hb kV.lt).cell 0, (kV.below hb kV.lt).cell 1, (kV.below hb kV.lt).cell 2, (kV.below hb kV.lt).cell 3⟩
  have AllS := Lib.hid allS
  have bV : Below w.heap.size w V := by rw [hV]; exact below_on hb1 ((Below.refl _ _).alloc (Nat.le_refl _) _)
  have BV := Lib.hid bV
  have c0 := kV.cell 0
  have c1 := kV.cell 1
  have c2 := kV.cell 2
  have c3 := kV.cell 3
  simp only [List.getElem?_toArray, List.getElem?_cons_zero, List.getElem?_cons_succ] at c0 c1 c2 c3
  clear allS hV bV hb1
  go_wp2_with fail
  clear c0 c1 c2 c3
  refine (shiftOf_5 i _ hi _ Hs).mono ?_
  rintro e V2 ⟨rfl, hb2⟩
  have BV2 := Lib.hid (below_on BV.out hb2)
  have kV2 := kV.below hb2 kV.lt
  have allS2 : ∀ w', Below V2.heap.size V2 w' → (Below V2.heap.size V2 w' ∧ w'.cell? ⟨w1.heap.size, 0, none⟩ = some (.int .i64 43) ∧ w'.cell? ⟨w1.heap.size, 1, none⟩ = some (.int .i64 3) ∧ w'.cell? ⟨w1.heap.size, 2, none⟩ = some (.int .i64 1) ∧ w'.cell? ⟨w1.heap.size, 3, none⟩ = some (.int .i64 (0))) := fun w' hb => ⟨hb, (kV2.below hb kV2.lt).cell 0, (kV2.below hb kV2.lt).cell 1, (kV2.below hb kV2.lt).cell 2, (kV2.below hb kV2.lt).cell 3⟩
  clear AllS
  have AllS := Lib.hid allS2
  clear allS2 kV kV2 hb2
  go_wp2_with fail
  go_region_held3 (fun w' => Below V2.heap.size V2 w' ∧ w'.cell? ⟨w1.heap.size, 0, none⟩ = some (.int .i64 43) ∧ w'.cell? ⟨w1.heap.size, 1, none⟩ = some (.int .i64 3) ∧ w'.cell? ⟨w1.heap.size, 2, none⟩ = some (.int .i64 1) ∧ w'.cell? ⟨w1.heap.size, 3, none⟩ = some (.int .i64 (0))) (first | (go_split_ands; exact AllS.out _ (by go_grown)) | (exact AllS.out _ (by go_grown))) (first | (go_at_call 135; go_split_ands; refine (maskOf_5 _).mono ?_; rintro e v2 ⟨rfl, hv2⟩; have hBv2 : Below V2.heap.size V2 v2 := below_on (by go_grown) hv2; clear hv2))
  go_wp2
  go_ret
  refine ⟨?_, below_on BV2.out hBv2⟩
  have hw := Hw.out
  try simp only [Int.one_mul] at hw
  have e1 : IntKind.i64.wrap (v : Int) = v := wrap64_small (by omega) (by omega)
  have e2 : IntKind.u64.wrap (v : Int) = v := wrapu_small (by omega) (by omega)
  have e3 : (v : Int) + -1 + 1 = v := by omega
  simp [e1, e2, hw]
theorem entry_6 (W i : Nat) (w : World) (hW : W < 18446744073709551616) (hi : i < 3) :
    Calls Try.prog 104 #[.int .u64 W, .int .i64 6, .int .i64 i] w fun e w' => e = .returned (.int .i64 ((wget W (fS 6 i) 1 : Nat) + (0 : Int))) ∧ Below w.heap.size w w' := by
  have hs : ((fS 6 i : Nat) : Int) = 0 + (3 - 1 - (i : Int)) * 1 := by
    have e : fS 6 i = 0 + (3 - 1 - i) * 1 := rfl
    rw [e]; omega
  have hn : bits .and .u64 ((W : Int) / 2 ^ (fS 6 i)) 1 = ((wget W (fS 6 i) 1 : Nat) : Int) := by have := entry_num W (fS 6 i) 1 (fS 6 i : Nat) rfl hW (by omega); simpa using this
  have hlt := wget_lt W (fS 6 i) 1 (by omega)
  have hsl : fS 6 i ≤ 45 := by omega
  generalize fS 6 i = s at *
  have Hs := Lib.hid hs.symm
  have Hn := Lib.hid hn
  clear hs hn
  go_enter Try.func104, Try.ntmps104
  go_wp2_with fail
  refine (fieldOf_6 _).mono ?_
  rintro e w1 ⟨rfl, hb1⟩
  have sz1 := hb1.size
  go_wp2_with fail
  obtain ⟨V, hV⟩ : ∃ V, V = w1.alloc (.cells #[.int .i64 0, .int .i64 3, .int .i64 1, .int .i64 (0)] 173) := ⟨_, rfl⟩
  rw [← hV]
  have kV : Bk V w1.heap.size 173 #[.int .i64 0, .int .i64 3, .int .i64 1, .int .i64 (0)] := by rw [hV]; exact Bk.new _ _ _
  have allS : ∀ w', Below V.heap.size V w' → (Below V.heap.size V w' ∧ w'.cell? ⟨w1.heap.size, 0, none⟩ = some (.int .i64 0) ∧ w'.cell? ⟨w1.heap.size, 1, none⟩ = some (.int .i64 3) ∧ w'.cell? ⟨w1.heap.size, 2, none⟩ = some (.int .i64 1) ∧ w'.cell? ⟨w1.heap.size, 3, none⟩ = some (.int .i64 (0))) := fun w' hb => ⟨hb, (kV.below hb kV.lt).cell 0, (kV.below hb kV.lt).cell 1, (kV.below hb kV.lt).cell 2, (kV.below hb kV.lt).cell 3⟩
  have AllS := Lib.hid allS
  have bV : Below w.heap.size w V := by rw [hV]; exact below_on hb1 ((Below.refl _ _).alloc (Nat.le_refl _) _)
  have BV := Lib.hid bV
  clear allS hV kV bV hb1
  go_region_held3 (fun w' => Below V.heap.size V w' ∧ w'.cell? ⟨w1.heap.size, 0, none⟩ = some (.int .i64 0) ∧ w'.cell? ⟨w1.heap.size, 1, none⟩ = some (.int .i64 3) ∧ w'.cell? ⟨w1.heap.size, 2, none⟩ = some (.int .i64 1) ∧ w'.cell? ⟨w1.heap.size, 3, none⟩ = some (.int .i64 (0))) (first | (go_split_ands; exact AllS.out _ (by go_grown)) | (exact AllS.out _ (by go_grown))) (first | (go_at_call 134; go_split_ands; refine (shiftOf_6 i _ hi _ Hs).mono ?_; rintro e v1 ⟨rfl, hv⟩; have hBv1 : Below V.heap.size V v1 := below_on (by go_grown) hv; clear hv) | (go_at_call 135; go_split_ands; refine (maskOf_6 _).mono ?_; rintro e v2 ⟨rfl, hv⟩; have hBv2 : Below V.heap.size V v2 := below_on (by go_grown) hv; clear hv))
  go_wp2
  go_ret
  refine ⟨?_, below_on BV.out hBv2⟩
  have hn := Hn.out
  simp
  rw [hn]
  simp only [IntKind.wrap_i64]
  omega
theorem withEntry_6 (W i v : Nat) (n : Int) (w : World) (hW : W < 18446744073709551616) (hi : i < 3) (hv : v < 2) (hn : n = (v : Int) + (0)) :
    Calls Try.prog 107 #[.int .u64 W, .int .i64 6, .int .i64 i, .int .i64 n] w fun e w' => e = .returned (.int .u64 (wset W (fS 6 i) 1 v : Nat)) ∧ Below w.heap.size w w' := by
  subst hn
  have hs : ((fS 6 i : Nat) : Int) = 0 + (3 - 1 - (i : Int)) * 1 := by
    have e : fS 6 i = 0 + (3 - 1 - i) * 1 := rfl
    rw [e]; omega
  have hsl : fS 6 i ≤ 45 := by omega
  have Hw := Lib.hid (with_all W (fS 6 i) 1 v 1 rfl hW (by omega) hsl hv)
  generalize fS 6 i = s at *
  have Hs := Lib.hid hs.symm
  clear hs
  go_enter Try.func107, Try.ntmps107
  go_wp2_with fail
  refine (fieldOf_6 _).mono ?_
  rintro e w1 ⟨rfl, hb1⟩
  have sz1 := hb1.size
  go_wp2_with fail
  obtain ⟨V, hV⟩ : ∃ V, V = w1.alloc (.cells #[.int .i64 0, .int .i64 3, .int .i64 1, .int .i64 (0)] 173) := ⟨_, rfl⟩
  rw [← hV]
  have kV : Bk V w1.heap.size 173 #[.int .i64 0, .int .i64 3, .int .i64 1, .int .i64 (0)] := by rw [hV]; exact Bk.new _ _ _
  have allS : ∀ w', Below V.heap.size V w' → (Below V.heap.size V w' ∧ w'.cell? ⟨w1.heap.size, 0, none⟩ = some (.int .i64 0) ∧ w'.cell? ⟨w1.heap.size, 1, none⟩ = some (.int .i64 3) ∧ w'.cell? ⟨w1.heap.size, 2, none⟩ = some (.int .i64 1) ∧ w'.cell? ⟨w1.heap.size, 3, none⟩ = some (.int .i64 (0))) := fun w' hb => ⟨hb, (kV.below hb kV.lt).cell 0, (kV.below hb kV.lt).cell 1, (kV.below hb kV.lt).cell 2, (kV.below hb kV.lt).cell 3⟩
  have AllS := Lib.hid allS
  have bV : Below w.heap.size w V := by rw [hV]; exact below_on hb1 ((Below.refl _ _).alloc (Nat.le_refl _) _)
  have BV := Lib.hid bV
  have c0 := kV.cell 0
  have c1 := kV.cell 1
  have c2 := kV.cell 2
  have c3 := kV.cell 3
  simp only [List.getElem?_toArray, List.getElem?_cons_zero, List.getElem?_cons_succ] at c0 c1 c2 c3
  clear allS hV bV hb1
  go_wp2_with fail
  clear c0 c1 c2 c3
  refine (shiftOf_6 i _ hi _ Hs).mono ?_
  rintro e V2 ⟨rfl, hb2⟩
  have BV2 := Lib.hid (below_on BV.out hb2)
  have kV2 := kV.below hb2 kV.lt
  have allS2 : ∀ w', Below V2.heap.size V2 w' → (Below V2.heap.size V2 w' ∧ w'.cell? ⟨w1.heap.size, 0, none⟩ = some (.int .i64 0) ∧ w'.cell? ⟨w1.heap.size, 1, none⟩ = some (.int .i64 3) ∧ w'.cell? ⟨w1.heap.size, 2, none⟩ = some (.int .i64 1) ∧ w'.cell? ⟨w1.heap.size, 3, none⟩ = some (.int .i64 (0))) := fun w' hb => ⟨hb, (kV2.below hb kV2.lt).cell 0, (kV2.below hb kV2.lt).cell 1, (kV2.below hb kV2.lt).cell 2, (kV2.below hb kV2.lt).cell 3⟩
  clear AllS
  have AllS := Lib.hid allS2
  clear allS2 kV kV2 hb2
  go_wp2_with fail
  go_region_held3 (fun w' => Below V2.heap.size V2 w' ∧ w'.cell? ⟨w1.heap.size, 0, none⟩ = some (.int .i64 0) ∧ w'.cell? ⟨w1.heap.size, 1, none⟩ = some (.int .i64 3) ∧ w'.cell? ⟨w1.heap.size, 2, none⟩ = some (.int .i64 1) ∧ w'.cell? ⟨w1.heap.size, 3, none⟩ = some (.int .i64 (0))) (first | (go_split_ands; exact AllS.out _ (by go_grown)) | (exact AllS.out _ (by go_grown))) (first | (go_at_call 135; go_split_ands; refine (maskOf_6 _).mono ?_; rintro e v2 ⟨rfl, hv2⟩; have hBv2 : Below V2.heap.size V2 v2 := below_on (by go_grown) hv2; clear hv2))
  go_wp2
  go_ret
  refine ⟨?_, below_on BV2.out hBv2⟩
  have hw := Hw.out
  try simp only [Int.one_mul] at hw
  have e1 : IntKind.i64.wrap (v : Int) = v := wrap64_small (by omega) (by omega)
  have e2 : IntKind.u64.wrap (v : Int) = v := wrapu_small (by omega) (by omega)
  have e3 : (v : Int) + -1 + 1 = v := by omega
  simp [e1, e2, hw]
theorem entry_7 (W i : Nat) (w : World) (hW : W < 18446744073709551616) (hi : i < 3) :
    Calls Try.prog 104 #[.int .u64 W, .int .i64 7, .int .i64 i] w fun e w' => e = .returned (.int .i64 ((wget W (fS 7 i) 8 : Nat) + (0 : Int))) ∧ Below w.heap.size w w' := by
  have hs : ((fS 7 i : Nat) : Int) = 0 + (3 - 1 - (i : Int)) * 8 := by
    have e : fS 7 i = 0 + (3 - 1 - i) * 8 := rfl
    rw [e]; omega
  have hn : bits .and .u64 ((W : Int) / 2 ^ (fS 7 i)) 255 = ((wget W (fS 7 i) 8 : Nat) : Int) := by have := entry_num W (fS 7 i) 8 (fS 7 i : Nat) rfl hW (by omega); simpa using this
  have hlt := wget_lt8 W (fS 7 i) 8 (by omega)
  have hsl : fS 7 i ≤ 45 := by omega
  generalize fS 7 i = s at *
  have Hs := Lib.hid hs.symm
  have Hn := Lib.hid hn
  clear hs hn
  go_enter Try.func104, Try.ntmps104
  go_wp2_with fail
  refine (fieldOf_7 _).mono ?_
  rintro e w1 ⟨rfl, hb1⟩
  have sz1 := hb1.size
  go_wp2_with fail
  obtain ⟨V, hV⟩ : ∃ V, V = w1.alloc (.cells #[.int .i64 0, .int .i64 3, .int .i64 8, .int .i64 (0)] 173) := ⟨_, rfl⟩
  rw [← hV]
  have kV : Bk V w1.heap.size 173 #[.int .i64 0, .int .i64 3, .int .i64 8, .int .i64 (0)] := by rw [hV]; exact Bk.new _ _ _
  have allS : ∀ w', Below V.heap.size V w' → (Below V.heap.size V w' ∧ w'.cell? ⟨w1.heap.size, 0, none⟩ = some (.int .i64 0) ∧ w'.cell? ⟨w1.heap.size, 1, none⟩ = some (.int .i64 3) ∧ w'.cell? ⟨w1.heap.size, 2, none⟩ = some (.int .i64 8) ∧ w'.cell? ⟨w1.heap.size, 3, none⟩ = some (.int .i64 (0))) := fun w' hb => ⟨hb, (kV.below hb kV.lt).cell 0, (kV.below hb kV.lt).cell 1, (kV.below hb kV.lt).cell 2, (kV.below hb kV.lt).cell 3⟩
  have AllS := Lib.hid allS
  have bV : Below w.heap.size w V := by rw [hV]; exact below_on hb1 ((Below.refl _ _).alloc (Nat.le_refl _) _)
  have BV := Lib.hid bV
  clear allS hV kV bV hb1
  go_region_held3 (fun w' => Below V.heap.size V w' ∧ w'.cell? ⟨w1.heap.size, 0, none⟩ = some (.int .i64 0) ∧ w'.cell? ⟨w1.heap.size, 1, none⟩ = some (.int .i64 3) ∧ w'.cell? ⟨w1.heap.size, 2, none⟩ = some (.int .i64 8) ∧ w'.cell? ⟨w1.heap.size, 3, none⟩ = some (.int .i64 (0))) (first | (go_split_ands; exact AllS.out _ (by go_grown)) | (exact AllS.out _ (by go_grown))) (first | (go_at_call 134; go_split_ands; refine (shiftOf_7 i _ hi _ Hs).mono ?_; rintro e v1 ⟨rfl, hv⟩; have hBv1 : Below V.heap.size V v1 := below_on (by go_grown) hv; clear hv) | (go_at_call 135; go_split_ands; refine (maskOf_7 _).mono ?_; rintro e v2 ⟨rfl, hv⟩; have hBv2 : Below V.heap.size V v2 := below_on (by go_grown) hv; clear hv))
  go_wp2
  go_ret
  refine ⟨?_, below_on BV.out hBv2⟩
  have hn := Hn.out
  simp
  rw [hn]
  simp only [IntKind.wrap_i64]
  omega
theorem withEntry_7 (W i v : Nat) (n : Int) (w : World) (hW : W < 18446744073709551616) (hi : i < 3) (hv : v < 256) (hn : n = (v : Int) + (0)) :
    Calls Try.prog 107 #[.int .u64 W, .int .i64 7, .int .i64 i, .int .i64 n] w fun e w' => e = .returned (.int .u64 (wset W (fS 7 i) 8 v : Nat)) ∧ Below w.heap.size w w' := by
  subst hn
  have hs : ((fS 7 i : Nat) : Int) = 0 + (3 - 1 - (i : Int)) * 8 := by
    have e : fS 7 i = 0 + (3 - 1 - i) * 8 := rfl
    rw [e]; omega
  have hsl : fS 7 i ≤ 45 := by omega
  have Hw := Lib.hid (with_all W (fS 7 i) 8 v 255 rfl hW (by omega) hsl hv)
  generalize fS 7 i = s at *
  have Hs := Lib.hid hs.symm
  clear hs
  go_enter Try.func107, Try.ntmps107
  go_wp2_with fail
  refine (fieldOf_7 _).mono ?_
  rintro e w1 ⟨rfl, hb1⟩
  have sz1 := hb1.size
  go_wp2_with fail
  obtain ⟨V, hV⟩ : ∃ V, V = w1.alloc (.cells #[.int .i64 0, .int .i64 3, .int .i64 8, .int .i64 (0)] 173) := ⟨_, rfl⟩
  rw [← hV]
  have kV : Bk V w1.heap.size 173 #[.int .i64 0, .int .i64 3, .int .i64 8, .int .i64 (0)] := by rw [hV]; exact Bk.new _ _ _
  have allS : ∀ w', Below V.heap.size V w' → (Below V.heap.size V w' ∧ w'.cell? ⟨w1.heap.size, 0, none⟩ = some (.int .i64 0) ∧ w'.cell? ⟨w1.heap.size, 1, none⟩ = some (.int .i64 3) ∧ w'.cell? ⟨w1.heap.size, 2, none⟩ = some (.int .i64 8) ∧ w'.cell? ⟨w1.heap.size, 3, none⟩ = some (.int .i64 (0))) := fun w' hb => ⟨hb, (kV.below hb kV.lt).cell 0, (kV.below hb kV.lt).cell 1, (kV.below hb kV.lt).cell 2, (kV.below hb kV.lt).cell 3⟩
  have AllS := Lib.hid allS
  have bV : Below w.heap.size w V := by rw [hV]; exact below_on hb1 ((Below.refl _ _).alloc (Nat.le_refl _) _)
  have BV := Lib.hid bV
  have c0 := kV.cell 0
  have c1 := kV.cell 1
  have c2 := kV.cell 2
  have c3 := kV.cell 3
  simp only [List.getElem?_toArray, List.getElem?_cons_zero, List.getElem?_cons_succ] at c0 c1 c2 c3
  clear allS hV bV hb1
  go_wp2_with fail
  clear c0 c1 c2 c3
  refine (shiftOf_7 i _ hi _ Hs).mono ?_
  rintro e V2 ⟨rfl, hb2⟩
  have BV2 := Lib.hid (below_on BV.out hb2)
  have kV2 := kV.below hb2 kV.lt
  have allS2 : ∀ w', Below V2.heap.size V2 w' → (Below V2.heap.size V2 w' ∧ w'.cell? ⟨w1.heap.size, 0, none⟩ = some (.int .i64 0) ∧ w'.cell? ⟨w1.heap.size, 1, none⟩ = some (.int .i64 3) ∧ w'.cell? ⟨w1.heap.size, 2, none⟩ = some (.int .i64 8) ∧ w'.cell? ⟨w1.heap.size, 3, none⟩ = some (.int .i64 (0))) := fun w' hb => ⟨hb, (kV2.below hb kV2.lt).cell 0, (kV2.below hb kV2.lt).cell 1, (kV2.below hb kV2.lt).cell 2, (kV2.below hb kV2.lt).cell 3⟩
  clear AllS
  have AllS := Lib.hid allS2
  clear allS2 kV kV2 hb2
  go_wp2_with fail
  go_region_held3 (fun w' => Below V2.heap.size V2 w' ∧ w'.cell? ⟨w1.heap.size, 0, none⟩ = some (.int .i64 0) ∧ w'.cell? ⟨w1.heap.size, 1, none⟩ = some (.int .i64 3) ∧ w'.cell? ⟨w1.heap.size, 2, none⟩ = some (.int .i64 8) ∧ w'.cell? ⟨w1.heap.size, 3, none⟩ = some (.int .i64 (0))) (first | (go_split_ands; exact AllS.out _ (by go_grown)) | (exact AllS.out _ (by go_grown))) (first | (go_at_call 135; go_split_ands; refine (maskOf_7 _).mono ?_; rintro e v2 ⟨rfl, hv2⟩; have hBv2 : Below V2.heap.size V2 v2 := below_on (by go_grown) hv2; clear hv2))
  go_wp2
  go_ret
  refine ⟨?_, below_on BV2.out hBv2⟩
  have hw := Hw.out
  try simp only [Int.one_mul] at hw
  have e1 : IntKind.i64.wrap (v : Int) = v := wrap64_small (by omega) (by omega)
  have e2 : IntKind.u64.wrap (v : Int) = v := wrapu_small (by omega) (by omega)
  have e3 : (v : Int) + -1 + 1 = v := by omega
  simp [e1, e2, hw]
theorem entry_8 (W i : Nat) (w : World) (hW : W < 18446744073709551616) (hi : i < 3) :
    Calls Try.prog 104 #[.int .u64 W, .int .i64 8, .int .i64 i] w fun e w' => e = .returned (.int .i64 ((wget W (fS 8 i) 13 : Nat) + (0 : Int))) ∧ Below w.heap.size w w' := by
  have hs : ((fS 8 i : Nat) : Int) = 0 + (3 - 1 - (i : Int)) * 13 := by
    have e : fS 8 i = 0 + (3 - 1 - i) * 13 := rfl
    rw [e]; omega
  have hn : bits .and .u64 ((W : Int) / 2 ^ (fS 8 i)) 8191 = ((wget W (fS 8 i) 13 : Nat) : Int) := by have := entry_num W (fS 8 i) 13 (fS 8 i : Nat) rfl hW (by omega); simpa using this
  have hlt := wget_lt8 W (fS 8 i) 13 (by omega)
  have hsl : fS 8 i ≤ 45 := by omega
  generalize fS 8 i = s at *
  have Hs := Lib.hid hs.symm
  have Hn := Lib.hid hn
  clear hs hn
  go_enter Try.func104, Try.ntmps104
  go_wp2_with fail
  refine (fieldOf_8 _).mono ?_
  rintro e w1 ⟨rfl, hb1⟩
  have sz1 := hb1.size
  go_wp2_with fail
  obtain ⟨V, hV⟩ : ∃ V, V = w1.alloc (.cells #[.int .i64 0, .int .i64 3, .int .i64 13, .int .i64 (0)] 173) := ⟨_, rfl⟩
  rw [← hV]
  have kV : Bk V w1.heap.size 173 #[.int .i64 0, .int .i64 3, .int .i64 13, .int .i64 (0)] := by rw [hV]; exact Bk.new _ _ _
  have allS : ∀ w', Below V.heap.size V w' → (Below V.heap.size V w' ∧ w'.cell? ⟨w1.heap.size, 0, none⟩ = some (.int .i64 0) ∧ w'.cell? ⟨w1.heap.size, 1, none⟩ = some (.int .i64 3) ∧ w'.cell? ⟨w1.heap.size, 2, none⟩ = some (.int .i64 13) ∧ w'.cell? ⟨w1.heap.size, 3, none⟩ = some (.int .i64 (0))) := fun w' hb => ⟨hb, (kV.below hb kV.lt).cell 0, (kV.below hb kV.lt).cell 1, (kV.below hb kV.lt).cell 2, (kV.below hb kV.lt).cell 3⟩
  have AllS := Lib.hid allS
  have bV : Below w.heap.size w V := by rw [hV]; exact below_on hb1 ((Below.refl _ _).alloc (Nat.le_refl _) _)
  have BV := Lib.hid bV
  clear allS hV kV bV hb1
  go_region_held3 (fun w' => Below V.heap.size V w' ∧ w'.cell? ⟨w1.heap.size, 0, none⟩ = some (.int .i64 0) ∧ w'.cell? ⟨w1.heap.size, 1, none⟩ = some (.int .i64 3) ∧ w'.cell? ⟨w1.heap.size, 2, none⟩ = some (.int .i64 13) ∧ w'.cell? ⟨w1.heap.size, 3, none⟩ = some (.int .i64 (0))) (first | (go_split_ands; exact AllS.out _ (by go_grown)) | (exact AllS.out _ (by go_grown))) (first | (go_at_call 134; go_split_ands; refine (shiftOf_8 i _ hi _ Hs).mono ?_; rintro e v1 ⟨rfl, hv⟩; have hBv1 : Below V.heap.size V v1 := below_on (by go_grown) hv; clear hv) | (go_at_call 135; go_split_ands; refine (maskOf_8 _).mono ?_; rintro e v2 ⟨rfl, hv⟩; have hBv2 : Below V.heap.size V v2 := below_on (by go_grown) hv; clear hv))
  go_wp2
  go_ret
  refine ⟨?_, below_on BV.out hBv2⟩
  have hn := Hn.out
  simp
  rw [hn]
  simp only [IntKind.wrap_i64]
  omega
theorem withEntry_8 (W i v : Nat) (n : Int) (w : World) (hW : W < 18446744073709551616) (hi : i < 3) (hv : v < 8192) (hn : n = (v : Int) + (0)) :
    Calls Try.prog 107 #[.int .u64 W, .int .i64 8, .int .i64 i, .int .i64 n] w fun e w' => e = .returned (.int .u64 (wset W (fS 8 i) 13 v : Nat)) ∧ Below w.heap.size w w' := by
  subst hn
  have hs : ((fS 8 i : Nat) : Int) = 0 + (3 - 1 - (i : Int)) * 13 := by
    have e : fS 8 i = 0 + (3 - 1 - i) * 13 := rfl
    rw [e]; omega
  have hsl : fS 8 i ≤ 45 := by omega
  have Hw := Lib.hid (with_all W (fS 8 i) 13 v 8191 rfl hW (by omega) hsl hv)
  generalize fS 8 i = s at *
  have Hs := Lib.hid hs.symm
  clear hs
  go_enter Try.func107, Try.ntmps107
  go_wp2_with fail
  refine (fieldOf_8 _).mono ?_
  rintro e w1 ⟨rfl, hb1⟩
  have sz1 := hb1.size
  go_wp2_with fail
  obtain ⟨V, hV⟩ : ∃ V, V = w1.alloc (.cells #[.int .i64 0, .int .i64 3, .int .i64 13, .int .i64 (0)] 173) := ⟨_, rfl⟩
  rw [← hV]
  have kV : Bk V w1.heap.size 173 #[.int .i64 0, .int .i64 3, .int .i64 13, .int .i64 (0)] := by rw [hV]; exact Bk.new _ _ _
  have allS : ∀ w', Below V.heap.size V w' → (Below V.heap.size V w' ∧ w'.cell? ⟨w1.heap.size, 0, none⟩ = some (.int .i64 0) ∧ w'.cell? ⟨w1.heap.size, 1, none⟩ = some (.int .i64 3) ∧ w'.cell? ⟨w1.heap.size, 2, none⟩ = some (.int .i64 13) ∧ w'.cell? ⟨w1.heap.size, 3, none⟩ = some (.int .i64 (0))) := fun w' hb => ⟨hb, (kV.below hb kV.lt).cell 0, (kV.below hb kV.lt).cell 1, (kV.below hb kV.lt).cell 2, (kV.below hb kV.lt).cell 3⟩
  have AllS := Lib.hid allS
  have bV : Below w.heap.size w V := by rw [hV]; exact below_on hb1 ((Below.refl _ _).alloc (Nat.le_refl _) _)
  have BV := Lib.hid bV
  have c0 := kV.cell 0
  have c1 := kV.cell 1
  have c2 := kV.cell 2
  have c3 := kV.cell 3
  simp only [List.getElem?_toArray, List.getElem?_cons_zero, List.getElem?_cons_succ] at c0 c1 c2 c3
  clear allS hV bV hb1
  go_wp2_with fail
  clear c0 c1 c2 c3
  refine (shiftOf_8 i _ hi _ Hs).mono ?_
  rintro e V2 ⟨rfl, hb2⟩
  have BV2 := Lib.hid (below_on BV.out hb2)
  have kV2 := kV.below hb2 kV.lt
  have allS2 : ∀ w', Below V2.heap.size V2 w' → (Below V2.heap.size V2 w' ∧ w'.cell? ⟨w1.heap.size, 0, none⟩ = some (.int .i64 0) ∧ w'.cell? ⟨w1.heap.size, 1, none⟩ = some (.int .i64 3) ∧ w'.cell? ⟨w1.heap.size, 2, none⟩ = some (.int .i64 13) ∧ w'.cell? ⟨w1.heap.size, 3, none⟩ = some (.int .i64 (0))) := fun w' hb => ⟨hb, (kV2.below hb kV2.lt).cell 0, (kV2.below hb kV2.lt).cell 1, (kV2.below hb kV2.lt).cell 2, (kV2.below hb kV2.lt).cell 3⟩
  clear AllS
  have AllS := Lib.hid allS2
  clear allS2 kV kV2 hb2
  go_wp2_with fail
  go_region_held3 (fun w' => Below V2.heap.size V2 w' ∧ w'.cell? ⟨w1.heap.size, 0, none⟩ = some (.int .i64 0) ∧ w'.cell? ⟨w1.heap.size, 1, none⟩ = some (.int .i64 3) ∧ w'.cell? ⟨w1.heap.size, 2, none⟩ = some (.int .i64 13) ∧ w'.cell? ⟨w1.heap.size, 3, none⟩ = some (.int .i64 (0))) (first | (go_split_ands; exact AllS.out _ (by go_grown)) | (exact AllS.out _ (by go_grown))) (first | (go_at_call 135; go_split_ands; refine (maskOf_8 _).mono ?_; rintro e v2 ⟨rfl, hv2⟩; have hBv2 : Below V2.heap.size V2 v2 := below_on (by go_grown) hv2; clear hv2))
  go_wp2
  go_ret
  refine ⟨?_, below_on BV2.out hBv2⟩
  have hw := Hw.out
  try simp only [Int.one_mul] at hw
  have e1 : IntKind.i64.wrap (v : Int) = v := wrap64_small (by omega) (by omega)
  have e2 : IntKind.u64.wrap (v : Int) = v := wrapu_small (by omega) (by omega)
  have e3 : (v : Int) + -1 + 1 = v := by omega
  simp [e1, e2, hw]
theorem entry_9 (W i : Nat) (w : World) (hW : W < 18446744073709551616) (hi : i < 1) :
    Calls Try.prog 104 #[.int .u64 W, .int .i64 9, .int .i64 i] w fun e w' => e = .returned (.int .i64 ((wget W (fS 9 i) 2 : Nat) + (0 : Int))) ∧ Below w.heap.size w w' := by
  have hs : ((fS 9 i : Nat) : Int) = 39 + (1 - 1 - (i : Int)) * 2 := by
    have e : fS 9 i = 39 + (1 - 1 - i) * 2 := rfl
    rw [e]; omega
  have hn : bits .and .u64 ((W : Int) / 2 ^ (fS 9 i)) 3 = ((wget W (fS 9 i) 2 : Nat) : Int) := by have := entry_num W (fS 9 i) 2 (fS 9 i : Nat) rfl hW (by omega); simpa using this
  have hlt := wget_lt W (fS 9 i) 2 (by omega)
  have hsl : fS 9 i ≤ 45 := by omega
  generalize fS 9 i = s at *
  have Hs := Lib.hid hs.symm
  have Hn := Lib.hid hn
  clear hs hn
  go_enter Try.func104, Try.ntmps104
  go_wp2_with fail
  refine (fieldOf_9 _).mono ?_
  rintro e w1 ⟨rfl, hb1⟩
  have sz1 := hb1.size
  go_wp2_with fail
  obtain ⟨V, hV⟩ : ∃ V, V = w1.alloc (.cells #[.int .i64 39, .int .i64 1, .int .i64 2, .int .i64 (0)] 173) := ⟨_, rfl⟩
  rw [← hV]
  have kV : Bk V w1.heap.size 173 #[.int .i64 39, .int .i64 1, .int .i64 2, .int .i64 (0)] := by rw [hV]; exact Bk.new _ _ _
  have allS : ∀ w', Below V.heap.size V w' → (Below V.heap.size V w' ∧ w'.cell? ⟨w1.heap.size, 0, none⟩ = some (.int .i64 39) ∧ w'.cell? ⟨w1.heap.size, 1, none⟩ = some (.int .i64 1) ∧ w'.cell? ⟨w1.heap.size, 2, none⟩ = some (.int .i64 2) ∧ w'.cell? ⟨w1.heap.size, 3, none⟩ = some (.int .i64 (0))) := fun w' hb => ⟨hb, (kV.below hb kV.lt).cell 0, (kV.below hb kV.lt).cell 1, (kV.below hb kV.lt).cell 2, (kV.below hb kV.lt).cell 3⟩
  have AllS := Lib.hid allS
  have bV : Below w.heap.size w V := by rw [hV]; exact below_on hb1 ((Below.refl _ _).alloc (Nat.le_refl _) _)
  have BV := Lib.hid bV
  clear allS hV kV bV hb1
  go_region_held3 (fun w' => Below V.heap.size V w' ∧ w'.cell? ⟨w1.heap.size, 0, none⟩ = some (.int .i64 39) ∧ w'.cell? ⟨w1.heap.size, 1, none⟩ = some (.int .i64 1) ∧ w'.cell? ⟨w1.heap.size, 2, none⟩ = some (.int .i64 2) ∧ w'.cell? ⟨w1.heap.size, 3, none⟩ = some (.int .i64 (0))) (first | (go_split_ands; exact AllS.out _ (by go_grown)) | (exact AllS.out _ (by go_grown))) (first | (go_at_call 134; go_split_ands; refine (shiftOf_9 i _ hi _ Hs).mono ?_; rintro e v1 ⟨rfl, hv⟩; have hBv1 : Below V.heap.size V v1 := below_on (by go_grown) hv; clear hv) | (go_at_call 135; go_split_ands; refine (maskOf_9 _).mono ?_; rintro e v2 ⟨rfl, hv⟩; have hBv2 : Below V.heap.size V v2 := below_on (by go_grown) hv; clear hv))
  go_wp2
  go_ret
  refine ⟨?_, below_on BV.out hBv2⟩
  have hn := Hn.out
  simp
  rw [hn]
  simp only [IntKind.wrap_i64]
  omega
theorem withEntry_9 (W i v : Nat) (n : Int) (w : World) (hW : W < 18446744073709551616) (hi : i < 1) (hv : v < 4) (hn : n = (v : Int) + (0)) :
    Calls Try.prog 107 #[.int .u64 W, .int .i64 9, .int .i64 i, .int .i64 n] w fun e w' => e = .returned (.int .u64 (wset W (fS 9 i) 2 v : Nat)) ∧ Below w.heap.size w w' := by
  subst hn
  have hs : ((fS 9 i : Nat) : Int) = 39 + (1 - 1 - (i : Int)) * 2 := by
    have e : fS 9 i = 39 + (1 - 1 - i) * 2 := rfl
    rw [e]; omega
  have hsl : fS 9 i ≤ 45 := by omega
  have Hw := Lib.hid (with_all W (fS 9 i) 2 v 3 rfl hW (by omega) hsl hv)
  generalize fS 9 i = s at *
  have Hs := Lib.hid hs.symm
  clear hs
  go_enter Try.func107, Try.ntmps107
  go_wp2_with fail
  refine (fieldOf_9 _).mono ?_
  rintro e w1 ⟨rfl, hb1⟩
  have sz1 := hb1.size
  go_wp2_with fail
  obtain ⟨V, hV⟩ : ∃ V, V = w1.alloc (.cells #[.int .i64 39, .int .i64 1, .int .i64 2, .int .i64 (0)] 173) := ⟨_, rfl⟩
  rw [← hV]
  have kV : Bk V w1.heap.size 173 #[.int .i64 39, .int .i64 1, .int .i64 2, .int .i64 (0)] := by rw [hV]; exact Bk.new _ _ _
  have allS : ∀ w', Below V.heap.size V w' → (Below V.heap.size V w' ∧ w'.cell? ⟨w1.heap.size, 0, none⟩ = some (.int .i64 39) ∧ w'.cell? ⟨w1.heap.size, 1, none⟩ = some (.int .i64 1) ∧ w'.cell? ⟨w1.heap.size, 2, none⟩ = some (.int .i64 2) ∧ w'.cell? ⟨w1.heap.size, 3, none⟩ = some (.int .i64 (0))) := fun w' hb => ⟨hb, (kV.below hb kV.lt).cell 0, (kV.below hb kV.lt).cell 1, (kV.below hb kV.lt).cell 2, (kV.below hb kV.lt).cell 3⟩
  have AllS := Lib.hid allS
  have bV : Below w.heap.size w V := by rw [hV]; exact below_on hb1 ((Below.refl _ _).alloc (Nat.le_refl _) _)
  have BV := Lib.hid bV
  have c0 := kV.cell 0
  have c1 := kV.cell 1
  have c2 := kV.cell 2
  have c3 := kV.cell 3
  simp only [List.getElem?_toArray, List.getElem?_cons_zero, List.getElem?_cons_succ] at c0 c1 c2 c3
  clear allS hV bV hb1
  go_wp2_with fail
  clear c0 c1 c2 c3
  refine (shiftOf_9 i _ hi _ Hs).mono ?_
  rintro e V2 ⟨rfl, hb2⟩
  have BV2 := Lib.hid (below_on BV.out hb2)
  have kV2 := kV.below hb2 kV.lt
  have allS2 : ∀ w', Below V2.heap.size V2 w' → (Below V2.heap.size V2 w' ∧ w'.cell? ⟨w1.heap.size, 0, none⟩ = some (.int .i64 39) ∧ w'.cell? ⟨w1.heap.size, 1, none⟩ = some (.int .i64 1) ∧ w'.cell? ⟨w1.heap.size, 2, none⟩ = some (.int .i64 2) ∧ w'.cell? ⟨w1.heap.size, 3, none⟩ = some (.int .i64 (0))) := fun w' hb => ⟨hb, (kV2.below hb kV2.lt).cell 0, (kV2.below hb kV2.lt).cell 1, (kV2.below hb kV2.lt).cell 2, (kV2.below hb kV2.lt).cell 3⟩
  clear AllS
  have AllS := Lib.hid allS2
  clear allS2 kV kV2 hb2
  go_wp2_with fail
  go_region_held3 (fun w' => Below V2.heap.size V2 w' ∧ w'.cell? ⟨w1.heap.size, 0, none⟩ = some (.int .i64 39) ∧ w'.cell? ⟨w1.heap.size, 1, none⟩ = some (.int .i64 1) ∧ w'.cell? ⟨w1.heap.size, 2, none⟩ = some (.int .i64 2) ∧ w'.cell? ⟨w1.heap.size, 3, none⟩ = some (.int .i64 (0))) (first | (go_split_ands; exact AllS.out _ (by go_grown)) | (exact AllS.out _ (by go_grown))) (first | (go_at_call 135; go_split_ands; refine (maskOf_9 _).mono ?_; rintro e v2 ⟨rfl, hv2⟩; have hBv2 : Below V2.heap.size V2 v2 := below_on (by go_grown) hv2; clear hv2))
  go_wp2
  go_ret
  refine ⟨?_, below_on BV2.out hBv2⟩
  have hw := Hw.out
  try simp only [Int.one_mul] at hw
  have e1 : IntKind.i64.wrap (v : Int) = v := wrap64_small (by omega) (by omega)
  have e2 : IntKind.u64.wrap (v : Int) = v := wrapu_small (by omega) (by omega)
  have e3 : (v : Int) + -1 + 1 = v := by omega
  simp [e1, e2, hw]
theorem entry_10 (W i : Nat) (w : World) (hW : W < 18446744073709551616) (hi : i < 1) :
    Calls Try.prog 104 #[.int .u64 W, .int .i64 10, .int .i64 i] w fun e w' => e = .returned (.int .i64 ((wget W (fS 10 i) 1 : Nat) + (0 : Int))) ∧ Below w.heap.size w w' := by
  have hs : ((fS 10 i : Nat) : Int) = 41 + (1 - 1 - (i : Int)) * 1 := by
    have e : fS 10 i = 41 + (1 - 1 - i) * 1 := rfl
    rw [e]; omega
  have hn : bits .and .u64 ((W : Int) / 2 ^ (fS 10 i)) 1 = ((wget W (fS 10 i) 1 : Nat) : Int) := by have := entry_num W (fS 10 i) 1 (fS 10 i : Nat) rfl hW (by omega); simpa using this
  have hlt := wget_lt W (fS 10 i) 1 (by omega)
  have hsl : fS 10 i ≤ 45 := by omega
  generalize fS 10 i = s at *
  have Hs := Lib.hid hs.symm
  have Hn := Lib.hid hn
  clear hs hn
  go_enter Try.func104, Try.ntmps104
  go_wp2_with fail
  refine (fieldOf_10 _).mono ?_
  rintro e w1 ⟨rfl, hb1⟩
  have sz1 := hb1.size
  go_wp2_with fail
  obtain ⟨V, hV⟩ : ∃ V, V = w1.alloc (.cells #[.int .i64 41, .int .i64 1, .int .i64 1, .int .i64 (0)] 173) := ⟨_, rfl⟩
  rw [← hV]
  have kV : Bk V w1.heap.size 173 #[.int .i64 41, .int .i64 1, .int .i64 1, .int .i64 (0)] := by rw [hV]; exact Bk.new _ _ _
  have allS : ∀ w', Below V.heap.size V w' → (Below V.heap.size V w' ∧ w'.cell? ⟨w1.heap.size, 0, none⟩ = some (.int .i64 41) ∧ w'.cell? ⟨w1.heap.size, 1, none⟩ = some (.int .i64 1) ∧ w'.cell? ⟨w1.heap.size, 2, none⟩ = some (.int .i64 1) ∧ w'.cell? ⟨w1.heap.size, 3, none⟩ = some (.int .i64 (0))) := fun w' hb => ⟨hb, (kV.below hb kV.lt).cell 0, (kV.below hb kV.lt).cell 1, (kV.below hb kV.lt).cell 2, (kV.below hb kV.lt).cell 3⟩
  have AllS := Lib.hid allS
  have bV : Below w.heap.size w V := by rw [hV]; exact below_on hb1 ((Below.refl _ _).alloc (Nat.le_refl _) _)
  have BV := Lib.hid bV
  clear allS hV kV bV hb1
  go_region_held3 (fun w' => Below V.heap.size V w' ∧ w'.cell? ⟨w1.heap.size, 0, none⟩ = some (.int .i64 41) ∧ w'.cell? ⟨w1.heap.size, 1, none⟩ = some (.int .i64 1) ∧ w'.cell? ⟨w1.heap.size, 2, none⟩ = some (.int .i64 1) ∧ w'.cell? ⟨w1.heap.size, 3, none⟩ = some (.int .i64 (0))) (first | (go_split_ands; exact AllS.out _ (by go_grown)) | (exact AllS.out _ (by go_grown))) (first | (go_at_call 134; go_split_ands; refine (shiftOf_10 i _ hi _ Hs).mono ?_; rintro e v1 ⟨rfl, hv⟩; have hBv1 : Below V.heap.size V v1 := below_on (by go_grown) hv; clear hv) | (go_at_call 135; go_split_ands; refine (maskOf_10 _).mono ?_; rintro e v2 ⟨rfl, hv⟩; have hBv2 : Below V.heap.size V v2 := below_on (by go_grown) hv; clear hv))
  go_wp2
  go_ret
  refine ⟨?_, below_on BV.out hBv2⟩
  have hn := Hn.out
  simp
  rw [hn]
  simp only [IntKind.wrap_i64]
  omega
theorem withEntry_10 (W i v : Nat) (n : Int) (w : World) (hW : W < 18446744073709551616) (hi : i < 1) (hv : v < 2) (hn : n = (v : Int) + (0)) :
    Calls Try.prog 107 #[.int .u64 W, .int .i64 10, .int .i64 i, .int .i64 n] w fun e w' => e = .returned (.int .u64 (wset W (fS 10 i) 1 v : Nat)) ∧ Below w.heap.size w w' := by
  subst hn
  have hs : ((fS 10 i : Nat) : Int) = 41 + (1 - 1 - (i : Int)) * 1 := by
    have e : fS 10 i = 41 + (1 - 1 - i) * 1 := rfl
    rw [e]; omega
  have hsl : fS 10 i ≤ 45 := by omega
  have Hw := Lib.hid (with_all W (fS 10 i) 1 v 1 rfl hW (by omega) hsl hv)
  generalize fS 10 i = s at *
  have Hs := Lib.hid hs.symm
  clear hs
  go_enter Try.func107, Try.ntmps107
  go_wp2_with fail
  refine (fieldOf_10 _).mono ?_
  rintro e w1 ⟨rfl, hb1⟩
  have sz1 := hb1.size
  go_wp2_with fail
  obtain ⟨V, hV⟩ : ∃ V, V = w1.alloc (.cells #[.int .i64 41, .int .i64 1, .int .i64 1, .int .i64 (0)] 173) := ⟨_, rfl⟩
  rw [← hV]
  have kV : Bk V w1.heap.size 173 #[.int .i64 41, .int .i64 1, .int .i64 1, .int .i64 (0)] := by rw [hV]; exact Bk.new _ _ _
  have allS : ∀ w', Below V.heap.size V w' → (Below V.heap.size V w' ∧ w'.cell? ⟨w1.heap.size, 0, none⟩ = some (.int .i64 41) ∧ w'.cell? ⟨w1.heap.size, 1, none⟩ = some (.int .i64 1) ∧ w'.cell? ⟨w1.heap.size, 2, none⟩ = some (.int .i64 1) ∧ w'.cell? ⟨w1.heap.size, 3, none⟩ = some (.int .i64 (0))) := fun w' hb => ⟨hb, (kV.below hb kV.lt).cell 0, (kV.below hb kV.lt).cell 1, (kV.below hb kV.lt).cell 2, (kV.below hb kV.lt).cell 3⟩
  have AllS := Lib.hid allS
  have bV : Below w.heap.size w V := by rw [hV]; exact below_on hb1 ((Below.refl _ _).alloc (Nat.le_refl _) _)
  have BV := Lib.hid bV
  have c0 := kV.cell 0
  have c1 := kV.cell 1
  have c2 := kV.cell 2
  have c3 := kV.cell 3
  simp only [List.getElem?_toArray, List.getElem?_cons_zero, List.getElem?_cons_succ] at c0 c1 c2 c3
  clear allS hV bV hb1
  go_wp2_with fail
  clear c0 c1 c2 c3
  refine (shiftOf_10 i _ hi _ Hs).mono ?_
  rintro e V2 ⟨rfl, hb2⟩
  have BV2 := Lib.hid (below_on BV.out hb2)
  have kV2 := kV.below hb2 kV.lt
  have allS2 : ∀ w', Below V2.heap.size V2 w' → (Below V2.heap.size V2 w' ∧ w'.cell? ⟨w1.heap.size, 0, none⟩ = some (.int .i64 41) ∧ w'.cell? ⟨w1.heap.size, 1, none⟩ = some (.int .i64 1) ∧ w'.cell? ⟨w1.heap.size, 2, none⟩ = some (.int .i64 1) ∧ w'.cell? ⟨w1.heap.size, 3, none⟩ = some (.int .i64 (0))) := fun w' hb => ⟨hb, (kV2.below hb kV2.lt).cell 0, (kV2.below hb kV2.lt).cell 1, (kV2.below hb kV2.lt).cell 2, (kV2.below hb kV2.lt).cell 3⟩
  clear AllS
  have AllS := Lib.hid allS2
  clear allS2 kV kV2 hb2
  go_wp2_with fail
  go_region_held3 (fun w' => Below V2.heap.size V2 w' ∧ w'.cell? ⟨w1.heap.size, 0, none⟩ = some (.int .i64 41) ∧ w'.cell? ⟨w1.heap.size, 1, none⟩ = some (.int .i64 1) ∧ w'.cell? ⟨w1.heap.size, 2, none⟩ = some (.int .i64 1) ∧ w'.cell? ⟨w1.heap.size, 3, none⟩ = some (.int .i64 (0))) (first | (go_split_ands; exact AllS.out _ (by go_grown)) | (exact AllS.out _ (by go_grown))) (first | (go_at_call 135; go_split_ands; refine (maskOf_10 _).mono ?_; rintro e v2 ⟨rfl, hv2⟩; have hBv2 : Below V2.heap.size V2 v2 := below_on (by go_grown) hv2; clear hv2))
  go_wp2
  go_ret
  refine ⟨?_, below_on BV2.out hBv2⟩
  have hw := Hw.out
  try simp only [Int.one_mul] at hw
  have e1 : IntKind.i64.wrap (v : Int) = v := wrap64_small (by omega) (by omega)
  have e2 : IntKind.u64.wrap (v : Int) = v := wrapu_small (by omega) (by omega)
  have e3 : (v : Int) + -1 + 1 = v := by omega
  simp [e1, e2, hw]
end Go.Proofs.Ytaghidaamcnpkab
