/-
  States with buffers as words: what the program's beginQueued, packedBuffered and unpackedBuffered come to.
-/
import Derived.Test.YtpcdcgcbhhnhhaaNums
import Derived.Test.YtpcdcgcbhhnhhaaWordF
import Derived.Test.YtpcdcgcbhhnhhaaCopy1
import Derived.Test.YtpcdcgcbhhnhhaaRec0
import Derived.Deep.AppendLies
import Derived.Test.YtpcdcgcbhhnhhaaBuf
import Derived.Test.YtpcdcgcbhhnhhaaStOk
import Derived.Test.YtpcdcgcbhhnhhaaBegin
import Derived.Test.YtpcdcgcbhhnhhaaICan
namespace Go.Proofs.Ytpcdcgcbhhnhhaa
open Pl
set_option maxRecDepth 100000
set_option linter.unusedVariables false

/-- The word of a buffer, the oldest store first. -/
def bwC (cs : List Nat) : Nat := cs.foldl (fun a c => a * 256 + (16 + c)) 0
theorem bwC_nil : bwC [] = 0 := rfl
theorem bwC_snoc (cs : List Nat) (c : Nat) : bwC (cs ++ [c]) = bwC cs * 256 + (16 + c) := by simp [bwC]
theorem bwF (cs : List Nat) : ∀ a, cs.foldl (fun a c => a * 256 + (16 + c)) a = a * 256 ^ cs.length + bwC cs := by
  induction cs with
  | nil => intro a; simp [bwC]
  | cons c r ih =>
    intro a
    have e : bwC (c :: r) = (0 * 256 + (16 + c)) * 256 ^ r.length + bwC r := ih _
    simp only [List.foldl_cons, List.length_cons]
    rw [ih, e, Nat.zero_mul, Nat.zero_add, Nat.add_mul, Nat.mul_assoc, Nat.pow_succ, Nat.mul_comm 256, Nat.add_assoc]
theorem bwC_cons (c : Nat) (r : List Nat) : bwC (c :: r) = (16 + c) * 256 ^ r.length + bwC r := by
  have e : bwC (c :: r) = (0 * 256 + (16 + c)) * 256 ^ r.length + bwC r := bwF r _
  rw [Nat.zero_mul, Nat.zero_add] at e
  exact e
/-- Codes of stores. -/
def okS (cs : List Nat) : Prop := ∀ c ∈ cs, c < 12
theorem okS.tail {c : Nat} {r : List Nat} (h : okS (c :: r)) : okS r := fun x hx => h x (List.mem_cons_of_mem _ hx)
theorem okS.head {c : Nat} {r : List Nat} (h : okS (c :: r)) : c < 12 := h c (List.mem_cons_self ..)
theorem okS.snoc {r : List Nat} {c : Nat} (h : okS r) (hc : c < 12) : okS (r ++ [c]) := fun x hx => by
  rcases List.mem_append.1 hx with h1 | h1
  · exact h x h1
  · simp at h1; omega
theorem okS.init {r : List Nat} {c : Nat} (h : okS (r ++ [c])) : okS r := fun x hx => h x (List.mem_append_left _ hx)
theorem okS.last {r : List Nat} {c : Nat} (h : okS (r ++ [c])) : c < 12 := h c (by simp)
theorem bwC_lt {cs : List Nat} (h : okS cs) : bwC cs < 256 ^ cs.length := by
  induction cs with
  | nil => simp [bwC]
  | cons c r ih =>
    rw [bwC_cons, List.length_cons, Nat.pow_succ]
    have h1 := ih h.tail
    have h2 := h.head
    have h3 : (16 + c) * 256 ^ r.length ≤ 255 * 256 ^ r.length := Nat.mul_le_mul_right _ (by omega)
    omega
theorem bwC_small {cs : List Nat} (h : okS cs) (hl : cs.length ≤ 7) : bwC cs < 72057594037927936 := by
  have h1 := bwC_lt h
  have h2 : (256 : Nat) ^ cs.length ≤ 256 ^ 7 := Nat.pow_le_pow_right (by omega) hl
  have : (256 : Nat) ^ 7 = 72057594037927936 := by decide
  omega
theorem bwC_8 {cs : List Nat} (h : okS cs) (hl : cs.length ≤ 8) : bwC cs < 18446744073709551616 := by
  have h1 := bwC_lt h
  have h2 : (256 : Nat) ^ cs.length ≤ 256 ^ 8 := Nat.pow_le_pow_right (by omega) hl
  have : (256 : Nat) ^ 8 = 18446744073709551616 := by decide
  omega
theorem bwC_ge {c : Nat} {r : List Nat} : 256 ^ r.length ≤ bwC (c :: r) := by
  rw [bwC_cons]
  have : 1 * 256 ^ r.length ≤ (16 + c) * 256 ^ r.length := Nat.mul_le_mul_right _ (by omega)
  omega
theorem pow256 (n : Nat) : 2 ^ (8 * n) = 256 ^ n := by rw [Nat.pow_mul]
theorem bwC_zero {cs : List Nat} : bwC cs = 0 ↔ cs = [] := by
  constructor
  · intro h
    cases cs with
    | nil => rfl
    | cons c r => have := bwC_ge (c := c) (r := r); have := Nat.pow_pos (n := r.length) (show 0 < 256 by omega); omega
  · rintro rfl; rfl
theorem bwC_head {c : Nat} {r : List Nat} (h : okS (c :: r)) : bwC (c :: r) / 256 ^ r.length = 16 + c := by
  have h1 := bwC_lt h.tail
  rw [bwC_cons, Nat.mul_comm, Nat.mul_add_div (by omega), Nat.div_eq_of_lt h1, Nat.add_zero]
theorem bwC_rest {c : Nat} {r : List Nat} (h : okS (c :: r)) : bwC (c :: r) % 256 ^ r.length = bwC r := by
  have h1 := bwC_lt h.tail
  rw [bwC_cons, Nat.mul_comm, Nat.mul_add_mod, Nat.mod_eq_of_lt h1]
theorem bwC_init {r : List Nat} {c : Nat} (h : okS (r ++ [c])) : bwC (r ++ [c]) / 256 = bwC r := by
  have := h.last; rw [bwC_snoc]; omega
theorem bwC_low {r : List Nat} {c : Nat} (h : okS (r ++ [c])) : bwC (r ++ [c]) % 16 = c := by
  have := h.last; rw [bwC_snoc]; omega
/-- Whether there is a store beyond the k + 1 newest ones. -/
theorem bwC_more {c : Nat} {r : List Nat} {k : Nat} (h : okS (c :: r)) : bwC (c :: r) / 256 ^ (k + 1) ≠ 0 ↔ k < r.length := by
  have h1 := bwC_lt h
  have h2 := bwC_ge (c := c) (r := r)
  rw [List.length_cons] at h1
  constructor
  · intro hn
    rcases Nat.lt_or_ge k r.length with h3 | h3
    · exact h3
    · exfalso
      have : (256 : Nat) ^ (r.length + 1) ≤ 256 ^ (k + 1) := Nat.pow_le_pow_right (by omega) (by omega)
      exact hn (Nat.div_eq_of_lt (by omega))
  · intro hk
    have : (256 : Nat) ^ (k + 1) ≤ 256 ^ r.length := Nat.pow_le_pow_right (by omega) (by omega)
    have := Nat.div_pos (a := bwC (c :: r)) (b := 256 ^ (k + 1)) (by omega) (Nat.pow_pos (by omega))
    omega
theorem or_low (a b i : Nat) (h : b < 2 ^ i) : a * 2 ^ i ||| b = a * 2 ^ i + b := by
  have := Nat.shiftLeft_add_eq_or_of_lt h a
  rw [Nat.shiftLeft_eq] at this
  exact this.symm
theorem put_word (a c : Nat) (hc : c < 16) : a * 256 ||| 16 ||| c = a * 256 + (16 + c) := by
  have h1 : 1 * 2 ^ 4 ||| c = 1 * 2 ^ 4 + c := or_low 1 c 4 (by omega)
  have h2 : (16 : Nat) ||| c = 16 + c := h1
  rw [Nat.or_assoc, h2]
  exact or_low a (16 + c) 8 (by omega)
/-! ### rows -/
/-- The places and values of stores. -/
def rowS (cs : List Nat) : List Int := cs.flatMap fun c => [((c / 4 : Nat) : Int), ((c % 4 : Nat) : Int)]
theorem rowS_cons (c : Nat) (r : List Nat) : rowS (c :: r) = ((c / 4 : Nat) : Int) :: ((c % 4 : Nat) : Int) :: rowS r := rfl
theorem rowS_snoc (r : List Nat) (c : Nat) : rowS (r ++ [c]) = rowS r ++ [((c / 4 : Nat) : Int), ((c % 4 : Nat) : Int)] := by simp [rowS]
theorem rowS_length (cs : List Nat) : (rowS cs).length = 2 * cs.length := by
  induction cs with
  | nil => rfl
  | cons c r ih => rw [rowS_cons]; simp only [List.length_cons, ih]; omega
theorem rowS_at0 {cs : List Nat} {i c : Nat} (h : cs[i]? = some c) : (rowS cs)[2 * i]? = some ((c / 4 : Nat) : Int) := by
  induction cs generalizing i with
  | nil => simp at h
  | cons d r ih =>
    cases i with
    | zero => simp at h; subst h; rfl
    | succ i => simp at h; rw [rowS_cons, show 2 * (i + 1) = 2 * i + 1 + 1 by omega, List.getElem?_cons_succ, List.getElem?_cons_succ]; exact ih h
theorem rowS_at1 {cs : List Nat} {i c : Nat} (h : cs[i]? = some c) : (rowS cs)[2 * i + 1]? = some ((c % 4 : Nat) : Int) := by
  induction cs generalizing i with
  | nil => simp at h
  | cons d r ih =>
    cases i with
    | zero => simp at h; subst h; rfl
    | succ i => simp at h; rw [rowS_cons, show 2 * (i + 1) + 1 = 2 * i + 1 + 1 + 1 by omega, List.getElem?_cons_succ, List.getElem?_cons_succ]; exact ih h
/-- Whether a list is places and values by turns. -/
def prsB : List Int → Bool
  | a :: b :: r => inB a 0 2 && (inB b 0 3 && prsB r)
  | _ => true
def lokB (xs : List Int) : Bool := (xs.length % 2 == 0 && decide (xs.length ≤ 12)) && prsB xs
/-- The codes of a row. -/
def cdR : List Int → List Nat
  | a :: b :: r => (a.toNat * 4 + b.toNat) :: cdR r
  | _ => []
theorem inB_nat {x lo hi : Int} (h : inB x lo hi = true) : lo ≤ x ∧ x ≤ hi := by simpa [inB] using h
theorem cdR_ok : ∀ (n : Nat) {xs : List Int}, xs.length = 2 * n → prsB xs = true → okS (cdR xs) ∧ (cdR xs).length = n ∧ rowS (cdR xs) = xs := by
  intro n
  induction n with
  | zero =>
    intro xs h _
    obtain rfl : xs = [] := List.eq_nil_of_length_eq_zero (by omega)
    exact ⟨fun c hc => by simp [cdR] at hc, rfl, rfl⟩
  | succ n ih =>
    intro xs h hp
    match xs, h, hp with
    | a :: b :: r, h, hp =>
      simp only [prsB, Bool.and_eq_true] at hp
      obtain ⟨ha, hb, hr⟩ := hp
      obtain ⟨h1, h2, h3⟩ := ih (xs := r) (by simp at h; omega) hr
      have ha := inB_nat ha
      have hb := inB_nat hb
      have e : (a.toNat * 4 + b.toNat) / 4 = a.toNat := by omega
      have e2 : (a.toNat * 4 + b.toNat) % 4 = b.toNat := by omega
      refine ⟨fun c hc => ?_, by simp [cdR, h2], ?_⟩
      · rcases List.mem_cons.1 hc with rfl | hc
        · omega
        · exact h1 c hc
      · rw [cdR, rowS_cons, e, e2, h3]
        congr 1
        · omega
        · congr 1; omega
theorem lok_parts {xs : List Int} (h : lokB xs = true) : okS (cdR xs) ∧ (cdR xs).length ≤ 6 ∧ rowS (cdR xs) = xs := by
  simp only [lokB, Bool.and_eq_true, decide_eq_true_eq, beq_iff_eq] at h
  obtain ⟨⟨h1, h2⟩, h3⟩ := h
  obtain ⟨a, b, c⟩ := cdR_ok (xs.length / 2) (xs := xs) (by omega) h3
  exact ⟨a, by omega, c⟩
theorem prs_rowS : ∀ {cs : List Nat}, okS cs → prsB (rowS cs) = true := by
  intro cs
  induction cs with
  | nil => intro _; rfl
  | cons c r ih =>
    intro h
    have := h.head
    rw [rowS_cons, prsB, ih h.tail]
    simp [inB]
    omega
theorem lok_rowS {cs : List Nat} (h : okS cs) (hl : cs.length ≤ 6) : lokB (rowS cs) = true := by
  simp only [lokB, rowS_length, prs_rowS h, Bool.and_true, Bool.and_eq_true, decide_eq_true_eq, beq_iff_eq]
  omega
theorem cdR_rowS {cs : List Nat} : cdR (rowS cs) = cs := by
  induction cs with
  | nil => rfl
  | cons c r ih => rw [rowS_cons, cdR, ih]; congr 1; omega
end Go.Proofs.Ytpcdcgcbhhnhhaa
namespace Go.Proofs.Ytpcdcgcbhhnhhaa
open Go.RowKit Pl Go.BigFrame
set_option maxHeartbeats 2000000
set_option maxRecDepth 100000
set_option linter.unusedVariables false

theorem putb_any (cs : List Nat) (p v : Nat) (w : World) (hc : okS cs) (hl : cs.length ≤ 7) (hp : p < 3) (hv : v < 4) :
    Calls Try.prog 128 #[.int .u64 (bwC cs : Nat), .int .i64 p, .int .i64 v] w fun e w' => e = .returned (.int .u64 (bwC (cs ++ [p * 4 + v]) : Nat)) ∧ w = w' := by
  obtain ⟨W, hW⟩ : ∃ W, bwC cs = W := ⟨_, rfl⟩
  have hlt : W < 72057594037927936 := by rw [← hW]; exact bwC_small hc hl
  have hs : W * 256 < 18446744073709551616 := by omega
  rw [bwC_snoc, hW, ← put_word W (p * 4 + v) (by omega)]
  clear hW hc hl
  go_enter Try.func128, Try.ntmps128
  go_wp2
  go_ret
  refine ⟨?_, rfl⟩
  have h1 : (W : Int) * 256 = ((W * 256 : Nat) : Int) := by omega
  have h2 : (p : Int) * 4 + (v : Int) = ((p * 4 + v : Nat) : Int) := by omega
  have h3 : W * 256 ||| 16 < 18446744073709551616 := by rw [or_low W 16 8 (by omega)]; omega
  have h4 : bits .or .u64 ((W : Int) * 256) 16 = ((W * 256 ||| 16 : Nat) : Int) := by rw [h1]; exact or_u64 hs (b := 16) (by omega)
  have h5 : bits .or .u64 (bits .or .u64 ((W : Int) * 256) 16) ((p : Int) * 4 + (v : Int)) = ((W * 256 ||| 16 ||| (p * 4 + v) : Nat) : Int) := by rw [h4, h2]; exact or_u64 h3 (by omega)
  rw [← h5]; rfl
theorem lows_any (W : Nat) (w : World) (hW : W < 18446744073709551616) (c : Nat) (hc : Hid (W % 16 = c)) :
    Calls Try.prog 111 #[.int .u64 W] w fun e w' => e = .returned (.tuple #[.int .i64 (c / 4 : Nat), .int .i64 (c % 4 : Nat)]) ∧ w = w' := by
  have hand : bits .and .u64 (W : Int) 15 = ((c : Nat) : Int) := by
    have := and_u64 (a := W) (b := 15) hW (by omega)
    rw [show W &&& 15 = W % 16 from Nat.and_two_pow_sub_one_eq_mod W 4, hc.out] at this
    exact this
  have hc16 : c < 16 := by rw [← hc.out]; omega
  clear hc
  have e1 : Int.tdiv (c : Int) 4 = ((c / 4 : Nat) : Int) := by rw [Int.tdiv_eq_ediv_of_nonneg (by omega)]; omega
  have e2 : Int.tmod (c : Int) 4 = ((c % 4 : Nat) : Int) := by rw [Int.tmod_eq_emod_of_nonneg (by omega)]; omega
  go_enter Try.func111, Try.ntmps111
  go_wp2
  exact bodyPost_ret (v := .tuple #[.int .i64 (c / 4 : Nat), .int .i64 (c % 4 : Nat)]) (by simp [results, Try.results111, go_sem]) rfl ⟨rfl, rfl⟩
theorem oldf_any (c : Nat) (r : List Nat) (w : World) (h : okS (c :: r)) (hl : r.length ≤ 7) :
    Calls Try.prog 162 #[.int .u64 (bwC (c :: r) : Nat)] w fun e w' => e = .returned (.int .i64 (8 * r.length : Nat)) ∧ w = w' := by
  obtain ⟨W, hW⟩ : ∃ W, bwC (c :: r) = W := ⟨_, rfl⟩
  have hlt : W < 18446744073709551616 := by rw [← hW]; exact bwC_8 h (by simp; omega)
  have more := Lib.hid (fun k => bwC_more (k := k) h)
  rw [hW] at *
  clear hW h
  generalize r.length = n at *
  go_enter Try.func162, Try.ntmps162
  go_wp2
  go_loop [3] (fun i => ∃ k : Nat, k ≤ n ∧ i = .int .i64 (8 * k : Nat)) (fun i => 8 * n + 8 - (intOf i).toNat)
  case atStart => exact ⟨0, Nat.zero_le _, rfl⟩
  case round =>
    obtain ⟨k, hk, rfl⟩ := hrel
    have hs : (W : Int) / 2 ^ (8 * (k : Int) + 8).toNat = ((W / 256 ^ (k + 1) : Nat) : Int) := by
      rw [div_pow W (8 * (k + 1)) _ (by omega), pow256]
    have hm := more.out k
    obtain ⟨Q, hQ⟩ : ∃ Q, W / 256 ^ (k + 1) = Q := ⟨_, rfl⟩
    rw [hQ] at hs hm
    clear hQ
    by_cases hlt2 : k < n
    · have hne : ((Q : Int) != 0) = true := by have := hm.2 hlt2; simp; omega
      clear hm
      go_wp2
      go_round
      case rel => exact ⟨k + 1, by omega, by go_num⟩
      case measure => simp [intOf]; omega
    · have hne : ((Q : Int) != 0) = false := by
        have : Q = 0 := by
          by_cases e : Q = 0
          · exact e
          · exact absurd (hm.1 e) hlt2
        simp [this]
      have hkn : k = n := by omega
      subst hkn
      clear hm
      go_wp2
      go_ret
      exact ⟨rfl, rfl⟩
theorem mask_low (W n : Nat) (hW : W < 18446744073709551616) (hn : n ≤ 7) : bits .and .u64 (W : Int) (IntKind.u64.wrap (IntKind.u64.wrap ((2 : Int) ^ (8 * n)) - 1)) = ((W % 256 ^ n : Nat) : Int) := by
  have hp : (256 : Nat) ^ n ≤ 256 ^ 7 := Nat.pow_le_pow_right (by omega) hn
  have h7 : (256 : Nat) ^ 7 = 72057594037927936 := rfl
  have hp0 : 0 < (256 : Nat) ^ n := Nat.pow_pos (by omega)
  have e1 : ((2 : Int) ^ (8 * n)) = ((256 ^ n : Nat) : Int) := by rw [← pow256]; simp
  have hand : W &&& (256 ^ n - 1) = W % 256 ^ n := by rw [← pow256]; exact Nat.and_two_pow_sub_one_eq_mod W (8 * n)
  rw [e1]
  generalize (256 : Nat) ^ n = P at *
  rw [wrapu_small (x := (P : Int)) (by omega) (by omega), show (P : Int) - 1 = ((P - 1 : Nat) : Int) by omega, wrapu_small (by omega) (by omega), and_u64 hW (by omega), hand]
theorem witho_any (c : Nat) (r : List Nat) (w : World) (h : okS (c :: r)) (hl : r.length ≤ 7) :
    Calls Try.prog 163 #[.int .u64 (bwC (c :: r) : Nat)] w fun e w' => e = .returned (.int .u64 (bwC r : Nat)) ∧ w = w' := by
  have hlt : bwC (c :: r) < 18446744073709551616 := bwC_8 h (by simp; omega)
  have hrest := bwC_rest h
  have OF := fun w => oldf_any c r w h hl
  rw [← hrest]
  obtain ⟨n, hn⟩ : ∃ n, r.length = n := ⟨_, rfl⟩
  rw [hn] at OF hl
  rw [hn]
  clear hrest
  revert OF
  generalize bwC (c :: r) = W at *
  intro OF
  have OF := Lib.hid OF
  have hn8 : 8 * n ≤ 56 := by omega
  clear h hn
  go_enter Try.func163, Try.ntmps163
  go_wp2_with fail
  refine (OF.out _).mono ?_
  rintro e w' ⟨rfl, rfl⟩
  go_wp2
  go_ret
  refine ⟨?_, rfl⟩
  rw [← mask_low W n hlt hl]; rfl
/-- A list that a loop makes by appends. -/
def PuB (w wr : World) (v : Value) (n : Nat) (xs : List Int) : Prop := ∃ g c, v = .slice (some ⟨g, 0, none⟩) n c ∧ w.heap.size ≤ g ∧ wr.ownsRow w.heap.size 3 1 (.slice (some ⟨g, 0, none⟩) n c) n (ints xs) ∧ Below w.heap.size w wr
theorem cell2_new (w : World) (a b : Value) (t : TypeId) : ∀ j u, [a, b][j]? = some u → (w.alloc (.cells #[a, b] t)).cell? ((⟨w.heap.size, 0, none⟩ : Addr).add j) = some u := by
  intro j u h
  have hb := (Bk.new w #[a, b] t)
  have e : (⟨w.heap.size, 0, none⟩ : Addr).add j = ⟨w.heap.size, j, none⟩ := by
    unfold Addr.add
    split <;> simp_all
  rw [e, hb.cell j]
  simpa using h
theorem buflist_any (cs : List Nat) (w : World) (hc : okS cs) (hl : cs.length ≤ 7) :
    Calls Try.prog 102 #[.int .u64 (bwC cs : Nat)] w fun e w' => ∃ A c, e = .returned (.slice A (2 * cs.length : Nat) c) ∧ Below w.heap.size w w' ∧ OwnVs w' w.heap.size w'.heap.size 3 A (ints (rowS cs)) := by
  obtain ⟨i0, hi, iz0, iz1, iz2⟩ := info_parts Try.info3
  have start : Hid (PuB w (w.alloc (.cells #[] 3)) (.slice (some ⟨w.heap.size, 0, none⟩) 0 0) 0 []) := Lib.hid ⟨w.heap.size, 0, rfl, Nat.le_refl _, World.ownsRow_made w #[] 0 (Nat.le_refl _) (by decide) (by simp), (Below.refl _ _).alloc (Nat.le_refl _) _⟩
  go_enter Try.func102, Try.ntmps102
  go_wp2_with fail
  go_loopw [0, 3] (fun b l wr => ∃ d r : List Nat, cs = d ++ r ∧ b = .int .u64 (bwC r : Nat) ∧ PuB w wr l (2 * d.length) (rowS d)) (fun b _ _ => (intOf b).toNat)
  case atStart => exact ⟨[], cs, rfl, rfl, start.out⟩
  case round =>
    obtain ⟨d, r, hcs, rfl, g, cap, rfl, hg, hown, hbel⟩ := hrel
    clear start
    have hz := hbel.size
    cases r with
    | cons x r =>
      have hok : okS (x :: r) := fun y hy => hc y (by rw [hcs]; exact List.mem_append_right _ hy)
      have hdl : d.length + r.length + 1 = cs.length := by rw [hcs]; simp; omega
      have hx12 := hok.head
      have hW8 : bwC (x :: r) < 18446744073709551616 := bwC_8 hok (by simp; omega)
      have hpos : bwC (x :: r) ≠ 0 := fun e => by have := bwC_zero.1 e; cases this
      have hlt : bwC r < bwC (x :: r) := Nat.lt_of_lt_of_le (bwC_lt hok.tail) bwC_ge
      have hhead := bwC_head hok
      have OF := Lib.hid (fun v => oldf_any x r v hok (by omega))
      have WO := Lib.hid (fun v => witho_any x r v hok (by omega))
      have LO := Lib.hid (fun v => lows_any (16 + x) v (by omega) x (Lib.hid (by omega)))
      have HCS := Lib.hid (show cs = (d ++ [x]) ++ r by rw [hcs]; simp)
      have HO := Lib.hid hown
      have HB := Lib.hid hbel
      have HR := Lib.hid (rowS_snoc d x)
      have HL := Lib.hid (rowS_length d)
      have hs : ((bwC (x :: r) : Nat) : Int) / 2 ^ (8 * (r.length : Int)).toNat = ((16 + x : Nat) : Int) := by
        rw [div_pow (bwC (x :: r)) (8 * r.length) _ (by omega), pow256, hhead]
      revert OF WO hs hlt hpos hW8
      clear hhead hown hbel hcs
      generalize bwC (x :: r) = W
      generalize hV : bwC r = V
      have HV := Lib.hid hV
      clear hV
      intro hW8 hpos hlt OF WO hs
      have hne : ((W : Int) != 0) = true := by simp; omega
      clear hpos
      generalize r.length = n at *
      go_wp2_with fail
      refine (OF.out _).mono ?_
      rintro e w' ⟨rfl, rfl⟩
      go_wp2_with fail
      refine (LO.out _).mono ?_
      rintro e w' ⟨rfl, rfl⟩
      have z1 := wr.heap.size
      go_wp2_with (at_builtin; refine wpList_append_own _ rfl (.tmp 17) (.tmp 20) 26 rfl w.heap.size 3 i0 _ 1 8 Try.underlying26 hi iz0 iz1 iz2 rfl (by decide) _ (2 * d.length) _ rfl (HO.out.alloc _) ⟨_, 0, none⟩ 2 2 [.int .i64 _, .int .i64 _] rfl rfl (cell2_new _ _ _ _) (by intro u hu; simp at hu; rcases hu with rfl | rfl <;> rfl) (by unfold maxLen; omega) (by omega) (by simp; omega) ?_; intro v' w3 own3 grow3 _; obtain ⟨g3, cap3, rfl, hg3, hlt3⟩ := own3.form (by omega); have Own3 := Lib.hid own3; have B3 := Lib.hid ((HB.out.alloc hz _).grown grow3 (by simp; omega) (by intro q hq; cases hq; exact hg)); clear own3 grow3)
      refine (WO.out _).mono ?_
      rintro e w' ⟨rfl, rfl⟩
      have OI := Lib.hid (show w3.ownsRow w.heap.size 3 1 (.slice (some ⟨g3, 0, none⟩) (2 * d.length + 2) cap3) (2 * d.length + 2) (ints (rowS (d ++ [x]))) from by have := Own3.out; rw [HR.out]; simpa [ints] using this)
      go_wp2
      go_roundw
      case rel => exact ⟨d ++ [x], r, HCS.out, by rw [HV.out], g3, cap3, by simp [Nat.mul_add], hg3, by simpa [Nat.mul_add] using OI.out, B3.out⟩
      case measure => first | (simp [intOf]; done) | (simp [intOf]; omega)
    | nil =>
      rw [bwC_nil]
      have e : d = cs := by rw [hcs]; simp
      subst e
      have HO := Lib.hid hown
      clear hown hcs
      go_wp2
      go_ret
      exact ⟨_, _, rfl, hbel, own_vs HO.out rfl⟩
end Go.Proofs.Ytpcdcgcbhhnhhaa
namespace Go.Proofs.Ytpcdcgcbhhnhhaa
open Go.RowKit Pl Go.BigFrame
set_option maxHeartbeats 4000000
set_option maxRecDepth 100000
set_option linter.unusedVariables false

def bufB (L : Pg) (o : Buf) : Bool := (stB L o.st && decide (o.bs.length = L.length)) && o.bs.all lokB
end Go.Proofs.Ytpcdcgcbhhnhhaa
namespace Go.Proofs.Ytpcdcgcbhhnhhaa
open Go.RowKit Pl Go.BigFrame
set_option maxHeartbeats 4000000
set_option maxRecDepth 100000
set_option linter.unusedVariables false

/-- Rows of the call's own, put one by one below headers that were made ahead. -/
structure RwsO (w wr : World) (g n : Nat) (F : Nat → List Int) (k : Nat) : Prop where
  bel : Below w.heap.size w wr
  hd : ∃ (cs : Array Value) (D : Nat → Option Addr) (C : Nat → Nat), Bk wr g 26 cs ∧ cs.size = n ∧ (∀ j, j < k → cs[j]? = some (.slice (D j) (F j).length (C j)) ∧ OwnVs wr (g + 1) wr.heap.size 3 (D j) (ints (F j))) ∧ ∀ i j, i < j → j < k → 0 < (F i).length → 0 < (F j).length → D i ≠ D j
theorem own_where {w : World} {lo hi : Nat} {t : TypeId} {A : Option Addr} {xs : List Int} (h : OwnVs w lo hi t A (ints xs)) (hn : 0 < xs.length) : ∃ g, A = some ⟨g, 0, none⟩ ∧ lo ≤ g ∧ g < hi := by
  obtain ⟨g, cs, hA, h1, h2, _⟩ := h (by rw [ints_length]; exact hn)
  exact ⟨g, hA, h1, h2⟩
theorem RwsO.next {w wr w1 : World} {g n k c : Nat} {F : Nat → List Int} {A : Option Addr} (h : RwsO w wr g n F k) (hk : k < n) (hg : w.heap.size ≤ g) (hb : Below wr.heap.size wr w1) (ho : OwnVs w1 wr.heap.size w1.heap.size 3 A (ints (F k))) :
    RwsO w (w1.setCell ⟨g, k, none⟩ (.slice A (F k).length c)) g n F (k + 1) := by
  obtain ⟨h0, cs, D, C, hbk, hsz, hc, hd⟩ := h
  have hlt := hbk.lt
  have hz := hb.size
  have hset : ∀ i, i ≠ g → (w1.setCell ⟨g, k, none⟩ (.slice A (F k).length c)).heap[i]? = w1.heap[i]? := fun i hi => Below.heap_setCell w1 ⟨g, k, none⟩ _ i hi
  have hs2 : (w1.setCell ⟨g, k, none⟩ (.slice A (F k).length c)).heap.size = w1.heap.size := World.size_setCell ..
  refine ⟨(below_on h0 hb).setCell hg _, _, fun i => if i = k then A else D i, fun i => if i = k then c else C i, (hbk.below hb hlt).set _ _, by simpa using hsz, ?_, ?_⟩
  · intro j hj
    by_cases e : j = k
    · subst e
      simp only [if_true]
      refine ⟨by simp [hsz, hk], ?_⟩
      rw [hs2]
      exact ho.keep (by omega) (Nat.le_refl _) fun i h1 h2 => hset i (by omega)
    · simp only [if_neg e]
      obtain ⟨g0, g1⟩ := hc j (by omega)
      refine ⟨by rw [Array.getElem?_setIfInBounds_ne (by omega)]; exact g0, ?_⟩
      rw [hs2]
      exact g1.keep (Nat.le_refl _) hz fun i h1 h2 => (hset i (by omega)).trans (hb.block i h2)
  · intro i j hij hj hi0 hj0
    by_cases e : j = k
    · subst e
      have e' : i ≠ j := by omega
      simp only [if_true, if_neg e']
      obtain ⟨ga, ea, _, h2⟩ := own_where (hc i (by omega)).2 hi0
      obtain ⟨gb, eb, h3, _⟩ := own_where ho hj0
      rw [ea, eb]
      intro e
      injection e with e
      injection e with e
      omega
    · have e' : i ≠ k := by omega
      simp only [if_neg e, if_neg e']
      exact hd i j hij (by omega) hi0 hj0
theorem RwsO.done {w wr : World} {g n lo : Nat} {F : Nat → List Int} (h : RwsO w wr g n F n) (hl : lo ≤ g) (c : Nat) : IssO wr lo wr.heap.size ⟨some ⟨g, 0, none⟩, c⟩ ((List.range n).map F) := ⟨fun _ => by
  obtain ⟨_, cs, D, C, hbk, _, hc, hd⟩ := h
  have at_ : ∀ {i : Nat} {vs : List Value}, (vsIss ((List.range n).map F))[i]? = some vs → i < n ∧ vs = ints (F i) := by
    intro i vs hi
    obtain ⟨xs, hx, rfl⟩ := vsIss_inv hi
    have hl := (List.getElem?_eq_some_iff.1 hx).1
    rw [List.length_map, List.length_range] at hl
    rw [List.getElem?_map, List.getElem?_range hl] at hx
    simp at hx
    exact ⟨hl, by rw [hx]⟩
  refine ⟨g, cs, D, C, rfl, hl, hbk.lt, hbk, ?_, ?_⟩
  · intro i vs hi
    obtain ⟨h1, rfl⟩ := at_ hi
    obtain ⟨g0, g1⟩ := hc i h1
    rw [ints_length]
    exact ⟨g0, g1.keep (by omega) (Nat.le_refl _) fun _ _ _ => rfl⟩
  · intro i j vs us hij hi hj h0 h1
    obtain ⟨_, rfl⟩ := at_ hi
    obtain ⟨h2, rfl⟩ := at_ hj
    rw [ints_length] at h0 h1
    exact hd i j hij h2 h0 h1⟩

/-- A state with buffers as words. -/
abbrev QV (f : Nat → Nat) (b : Nat → List Nat) : Value := .agg #[.int .u64 (enc WS f : Nat), .int .u64 (bwC (b 0) : Nat), .int .u64 (bwC (b 1) : Nat), .int .u64 (bwC (b 2) : Nat)]
/-- The record of words. -/
def bufOf (L : Pg) (f : Nat → Nat) (b : Nat → List Nat) : Buf := ⟨staF L f, (List.range L.length).map fun t => rowS (b t)⟩
/-- Buffers with at most m stores. -/
def okB7 (b : Nat → List Nat) (m : Nat) : Prop := ∀ t, t < 3 → okS (b t) ∧ (b t).length ≤ m

theorem begq_any (h : PgH) (L : Pg) (w : World) (B : Nat) (hR : PgR w B h L) (hB : B ≤ w.heap.size) (hL : progB L = true) :
    Calls Try.prog 52 #[PgV h L] w fun e w' => e = .returned (QV (keptF L zeroF L.length) (fun _ => [])) ∧ Below w.heap.size w w' := by
  obtain ⟨W, hW⟩ : ∃ W, W = (w.alloc (.cells #[.slice h.A L.length h.c] 36)).alloc (.cells #[.int .u64 0, .int .u64 0, .int .u64 0, .int .u64 0] 74) := ⟨_, rfl⟩
  have bW : Below w.heap.size w W := by rw [hW]; go_grown
  have k1 : Bk W (w.heap.size + 1) 74 #[.int .u64 0, .int .u64 0, .int .u64 0, .int .u64 0] := by
    rw [hW]; have := Bk.new (w.alloc (.cells #[.slice h.A L.length h.c] 36)) #[.int .u64 0, .int .u64 0, .int .u64 0, .int .u64 0] 74
    rwa [World.size_alloc] at this
  have P := Lib.hid (hR.below bW hB)
  have K1 := Lib.hid k1
  have BW := Lib.hid bW
  have hz := bW.size
  have HW := Lib.hid hW
  clear hW bW hR k1
  go_enter Try.func52, Try.ntmps52
  go_wp2_with fail
  rw [← HW.out]
  have key := begword_any h L W B P.out (by omega) hL
  generalize hE : (enc WS (keptF L zeroF L.length) : Nat) = E at key
  have HE := Lib.hid hE
  refine key.mono ?_
  clear key hE
  rintro e w1 ⟨rfl, hb⟩
  have B1 := Lib.hid (below_on BW.out hb)
  have K2 := Lib.hid (K1.out.below hb K1.out.lt)
  clear hb
  have fr0 := K2.out.free 0
  obtain ⟨zr0, xr0⟩ := K2.out.some_ (i := 0) (by decide)
  have fr1 := K2.out.free 1
  obtain ⟨zr1, xr1⟩ := K2.out.some_ (i := 1) (by decide)
  have fr2 := K2.out.free 2
  obtain ⟨zr2, xr2⟩ := K2.out.some_ (i := 2) (by decide)
  have fr3 := K2.out.free 3
  obtain ⟨zr3, xr3⟩ := K2.out.some_ (i := 3) (by decide)
  obtain ⟨F, hF⟩ : ∃ F, F = ((((w1.setCell ⟨w.heap.size + 1, 0, none⟩ (.int .u64 (E : Nat))).setCell ⟨w.heap.size + 1, 1, none⟩ (.int .u64 0)).setCell ⟨w.heap.size + 1, 2, none⟩ (.int .u64 0)).setCell ⟨w.heap.size + 1, 3, none⟩ (.int .u64 0)) := ⟨_, rfl⟩
  have kF : Bk F (w.heap.size + 1) 74 #[.int .u64 (E : Nat), .int .u64 0, .int .u64 0, .int .u64 0] := by
    rw [hF]; have a0 := K2.out
    have a1 := a0.set 0 (.int .u64 (E : Nat))
    have a2 := a1.set 1 (.int .u64 0)
    have a3 := a2.set 2 (.int .u64 0)
    have a4 := a3.set 3 (.int .u64 0)
    simpa using a4
  have bF : ∀ B, B ≤ w.heap.size + 1 → Below B w1 F := fun B hB => by rw [hF]; exact (((((Below.refl _ _).setCell (by show B ≤ w.heap.size + 1; omega) _).setCell (by show B ≤ w.heap.size + 1; omega) _).setCell (by show B ≤ w.heap.size + 1; omega) _).setCell (by show B ≤ w.heap.size + 1; omega) _)
  have nF : ∀ q, q ≠ w.heap.size + 1 → F.heap[q]? = w1.heap[q]? := fun q hq => by rw [hF]; exact (Below.heap_setCell _ _ _ q (by show q ≠ w.heap.size + 1; omega)).trans ((Below.heap_setCell _ _ _ q (by show q ≠ w.heap.size + 1; omega)).trans ((Below.heap_setCell _ _ _ q (by show q ≠ w.heap.size + 1; omega)).trans (Below.heap_setCell _ _ _ q (by show q ≠ w.heap.size + 1; omega))))
  have sF : F.heap.size = w1.heap.size := by rw [hF]; simp
  have cF0 := kF.cell 0
  have cF1 := kF.cell 1
  have cF2 := kF.cell 2
  have cF3 := kF.cell 3
  simp only [List.getElem?_toArray, List.getElem?_cons_zero, List.getElem?_cons_succ] at cF0 cF1 cF2 cF3
  have HF := Lib.hid hF
  have KF := Lib.hid kF
  clear hF kF
  have CF0 := Lib.hid cF0
  clear cF0
  have CF1 := Lib.hid cF1
  clear cF1
  have CF2 := Lib.hid cF2
  clear cF2
  have CF3 := Lib.hid cF3
  clear cF3
  have NF := Lib.hid nF
  have BF := Lib.hid bF
  have sFa := Nat.le_of_eq sF
  have sFb := Nat.le_of_eq sF.symm
  clear nF bF sF
  go_wp2
  rw [← HF.out]
  have cF0 := CF0.out
  have cF1 := CF1.out
  have cF2 := CF2.out
  have cF3 := CF3.out
  refine bodyPost_ret (v := .agg #[.int .u64 (E : Nat), .int .u64 0, .int .u64 0, .int .u64 0]) (by simp [results, Try.results52, cF0, cF1, cF2, cF3, go_sem]) rfl ?_
  exact ⟨by rw [QV, HE.out]; rfl, B1.out.trans (BF.out _ (by omega))⟩

/-- An answer that is a state with buffers of the call's own. -/
def AnsB (w : World) (o : Buf) (e : Ending) (w' : World) : Prop := ∃ k, e = .returned (BufV k o) ∧ Below w.heap.size w w' ∧ w.heap.size < w'.heap.size ∧ BufO w' w.heap.size w'.heap.size k o
theorem unpbuf_any (h : PgH) (L : Pg) (f : Nat → Nat) (b : Nat → List Nat) (w : World) (hL : progB L = true) (hf : okF WS f) (hb : okB7 b 7) :
    Calls Try.prog 51 #[PgV h L, QV f b] w (AnsB w (bufOf L f b)) := by
  obtain ⟨h31, h32⟩ := prog_len hL
  obtain ⟨W, hW⟩ : ∃ W, W = ((w.alloc (.cells #[.slice h.A L.length h.c] 36)).alloc (.cells #[.int .u64 (enc WS f : Nat), .int .u64 (bwC (b 0) : Nat), .int .u64 (bwC (b 1) : Nat), .int .u64 (bwC (b 2) : Nat)] 74)).alloc (.cells #[.slice none 0 0, .slice none 0 0, .slice none 0 0, .slice none 0 0, .slice none 0 0, .slice none 0 0] 31) := ⟨_, rfl⟩
  have bW : Below w.heap.size w W := by rw [hW]; go_grown
  have sW : W.heap.size = w.heap.size + 1 + 1 + 1 := by rw [hW]; simp
  have k0 : Bk W w.heap.size 36 #[.slice h.A L.length h.c] := by rw [hW]; exact ((Bk.new w _ _).alloc _).alloc _
  have k1 : Bk W (w.heap.size + 1) 74 #[.int .u64 (enc WS f : Nat), .int .u64 (bwC (b 0) : Nat), .int .u64 (bwC (b 1) : Nat), .int .u64 (bwC (b 2) : Nat)] := by
    rw [hW]; have := (Bk.new (w.alloc (.cells #[.slice h.A L.length h.c] 36)) #[.int .u64 (enc WS f : Nat), .int .u64 (bwC (b 0) : Nat), .int .u64 (bwC (b 1) : Nat), .int .u64 (bwC (b 2) : Nat)] 74).alloc (.cells #[.slice none 0 0, .slice none 0 0, .slice none 0 0, .slice none 0 0, .slice none 0 0, .slice none 0 0] 31)
    rwa [World.size_alloc] at this
  have k2 : Bk W (w.heap.size + 1 + 1) 31 #[.slice none 0 0, .slice none 0 0, .slice none 0 0, .slice none 0 0, .slice none 0 0, .slice none 0 0] := by
    rw [hW]; have := Bk.new ((w.alloc (.cells #[.slice h.A L.length h.c] 36)).alloc (.cells #[.int .u64 (enc WS f : Nat), .int .u64 (bwC (b 0) : Nat), .int .u64 (bwC (b 1) : Nat), .int .u64 (bwC (b 2) : Nat)] 74)) #[.slice none 0 0, .slice none 0 0, .slice none 0 0, .slice none 0 0, .slice none 0 0, .slice none 0 0] 31
    rwa [World.size_alloc, World.size_alloc] at this
  obtain ⟨i0, hi, hz0, hz1, hz2⟩ := info_parts info_il
  have hmk := make_any Try.underlying29 hi hz0 L.length (by rw [hz2]; omega) (by omega)
  rw [hz1, Nat.mul_one] at hmk
  have start := Lib.hid (show RwsO w (W.alloc (.cells (madeCells #[.slice none 0 0] L.length) 26)) (w.heap.size + 1 + 1 + 1) L.length (fun t => rowS (b t)) 0 from by
    rw [← sW]; exact ⟨bW.alloc (by omega) _, _, fun _ => none, fun _ => 0, Bk.new _ _ _, by simp [size_madeCells], fun j hj => absurd hj (by omega), fun i j _ hj => absurd hj (by omega)⟩)
  have st0 := Lib.hid (show Bk (W.alloc (.cells (madeCells #[.slice none 0 0] L.length) 26)) w.heap.size 36 #[.slice h.A L.length h.c] from k0.alloc _)
  have st1 := Lib.hid (show Bk (W.alloc (.cells (madeCells #[.slice none 0 0] L.length) 26)) (w.heap.size + 1) 74 #[.int .u64 (enc WS f : Nat), .int .u64 (bwC (b 0) : Nat), .int .u64 (bwC (b 1) : Nat), .int .u64 (bwC (b 2) : Nat)] from k1.alloc _)
  have st2 := Lib.hid (show Bk (W.alloc (.cells (madeCells #[.slice none 0 0] L.length) 26)) (w.heap.size + 1 + 1) 31 #[.slice none 0 0, .slice none 0 0, .slice none 0 0, .slice none 0 0, .slice none 0 0, .slice none 0 0] from k2.alloc _)
  have stz : Hid (w.heap.size + 1 + 1 + 1 < (W.alloc (.cells (madeCells #[.slice none 0 0] L.length) 26)).heap.size) := Lib.hid (by simp [sW])
  have HF := Lib.hid hf
  have Hb := Lib.hid hb
  have HW := Lib.hid hW
  have sWa := Nat.le_of_eq sW
  have sWb := Nat.le_of_eq sW.symm
  have cp := k0.cell 0
  have cpl := k0.lt
  have cp' : W.cell? ⟨w.heap.size, 0, none⟩ = some (.slice h.A L.length h.c) := cp
  clear hz0 hz1 hz2 hi hW bW sW k0 k1 k2 hf hb cp
  go_enter Try.func51, Try.ntmps51
  go_wp2_with fail
  rw [← HW.out]
  go_wp2_with fail
  clear hmk cp' cpl
  go_loopw [13] (fun i wr => ∃ k : Nat, k ≤ L.length ∧ i = .int .i64 k ∧ RwsO w wr (w.heap.size + 1 + 1 + 1) L.length (fun t => rowS (b t)) k ∧ Bk wr w.heap.size 36 #[.slice h.A L.length h.c] ∧ Bk wr (w.heap.size + 1) 74 #[.int .u64 (enc WS f : Nat), .int .u64 (bwC (b 0) : Nat), .int .u64 (bwC (b 1) : Nat), .int .u64 (bwC (b 2) : Nat)] ∧ Bk wr (w.heap.size + 1 + 1) 31 #[.slice none 0 0, .slice none 0 0, .slice none 0 0, .slice none 0 0, .slice none 0 0, .slice none 0 0]) (fun i _ => L.length - (intOf i).toNat)
  case atStart => exact ⟨0, Nat.zero_le _, rfl, start.out, st0.out, st1.out, st2.out⟩
  case round =>
    obtain ⟨k, hk, rfl, hrw, hp, hq, hr⟩ := hrel
    clear start st0 st1 st2 stz
    have hz := hrw.bel.size
    by_cases hlt : k < L.length
    · have hk3 : k < 3 := by omega
      obtain ⟨hbk1, hbk2⟩ := Hb.out k hk3
      have ck : wr.cell? ⟨w.heap.size + 1, 1 + k, none⟩ = some (.int .u64 (bwC (b k) : Nat)) := (hq.cell (1 + k)).trans (by rcases (show k = 0 ∨ k = 1 ∨ k = 2 by omega) with rfl | rfl | rfl <;> rfl)
      have lq := hq.lt
      have lp := hp.lt
      have lr := hr.lt
      obtain ⟨cs, D, C, hbk, hsz, hcs, hds⟩ := id hrw.hd
      obtain ⟨v0, e0⟩ := hbk.some_ (i := k) (by omega)
      have q0 := hbk.free k
      have lg := hbk.lt
      have BL := Lib.hid (fun v => buflist_any (b k) v hbk1 hbk2)
      have HRw := Lib.hid hrw
      have HP := Lib.hid hp
      have HQ := Lib.hid hq
      have HRr := Lib.hid hr
      have hti : (k : Int) < (L.length : Int) := by omega
      have hl2 : Hid ((rowS (b k)).length = 2 * (b k).length) := Lib.hid (rowS_length _)
      clear hbk hcs hds hrw hp hq hr hbk1 hbk2
      generalize hW2 : bwC (b k) = W2 at ck
      rw [hW2] at BL
      clear hW2
      go_wp2_with fail
      refine (BL.out _).mono ?_
      rintro e w1 ⟨A, c, rfl, hb1, own⟩
      have z1 := hb1.size
      obtain ⟨hc1, hf1⟩ := bcell hb1
      have HN := Lib.hid (HRw.out.next hlt (by omega) hb1 own (c := c))
      have kset : ∀ {g : Nat} {t : TypeId} {cs : Array Value}, Bk wr g t cs → g ≠ w.heap.size + 1 + 1 + 1 → Bk (w1.setCell ⟨w.heap.size + 1 + 1 + 1, k, none⟩ (.slice A (rowS (b k)).length c)) g t cs := fun hg hne => (hg.below hb1 hg.lt).far (p := ⟨w.heap.size + 1 + 1 + 1, k, none⟩) hne _
      have HP1 := Lib.hid (kset HP.out (by omega))
      have HQ1 := Lib.hid (kset HQ.out (by omega))
      have HR1 := Lib.hid (kset HRr.out (by omega))
      rw [hl2.out] at HN HP1 HQ1 HR1
      clear hb1 own kset ck
      go_wp2
      go_roundw
      case rel => exact ⟨k + 1, by omega, by go_num, HN.out, HP1.out, HQ1.out, HR1.out⟩
      case measure => simp [intOf]; omega
    · have hkl : k = L.length := by omega
      subst hkl
      have cP : wr.cell? ⟨w.heap.size, 0, none⟩ = some (.slice h.A L.length h.c) := hp.cell 0
      have cQ : wr.cell? ⟨w.heap.size + 1, 0, none⟩ = some (.int .u64 (enc WS f : Nat)) := hq.cell 0
      have lq := hq.lt
      have lp := hp.lt
      have HRw := Lib.hid hrw
      have HRr := Lib.hid hr
      clear hp hq hr hrw
      go_wp2_with fail
      refine (unpacked_any h L f wr hL HF.out).mono ?_
      rintro e w1 ⟨hs, rfl, hb1, hl1, own⟩
      have B1 := Lib.hid (below_on HRw.out.bel hb1)
      have K2 := Lib.hid (HRr.out.below hb1 HRr.out.lt)
      have Own := Lib.hid own
      have IO := Lib.hid ((HRw.out.done (lo := w.heap.size + 1 + 1 + 1) (Nat.le_refl _) L.length).below hb1 (Nat.le_refl _))
      have lg : w.heap.size + 1 + 1 + 1 < wr.heap.size := by obtain ⟨cs, D, C, hbk, _⟩ := HRw.out.hd; exact hbk.lt
      have z1 := hb1.size
      clear hb1 own cP cQ
      have fr0 := K2.out.free 0
      obtain ⟨zr0, xr0⟩ := K2.out.some_ (i := 0) (by decide)
      have fr1 := K2.out.free 1
      obtain ⟨zr1, xr1⟩ := K2.out.some_ (i := 1) (by decide)
      have fr2 := K2.out.free 2
      obtain ⟨zr2, xr2⟩ := K2.out.some_ (i := 2) (by decide)
      have fr3 := K2.out.free 3
      obtain ⟨zr3, xr3⟩ := K2.out.some_ (i := 3) (by decide)
      have fr4 := K2.out.free 4
      obtain ⟨zr4, xr4⟩ := K2.out.some_ (i := 4) (by decide)
      have fr5 := K2.out.free 5
      obtain ⟨zr5, xr5⟩ := K2.out.some_ (i := 5) (by decide)
      obtain ⟨F, hF⟩ : ∃ F, F = ((((((w1.setCell ⟨w.heap.size + 1 + 1, 0, none⟩ (.slice hs.A0 (staF L f).f0.length hs.c0)).setCell ⟨w.heap.size + 1 + 1, 1, none⟩ (.slice hs.A1 (staF L f).f1.length hs.c1)).setCell ⟨w.heap.size + 1 + 1, 2, none⟩ (.slice hs.A2 (staF L f).f2.length hs.c2)).setCell ⟨w.heap.size + 1 + 1, 3, none⟩ (.slice hs.A3 (staF L f).f3.length hs.c3)).setCell ⟨w.heap.size + 1 + 1, 4, none⟩ (.slice hs.A4 (staF L f).f4.length hs.c4)).setCell ⟨w.heap.size + 1 + 1, 5, none⟩ (.slice (some ⟨w.heap.size + 1 + 1 + 1, 0, none⟩) L.length L.length)) := ⟨_, rfl⟩
      have kF : Bk F (w.heap.size + 1 + 1) 31 #[.slice hs.A0 (staF L f).f0.length hs.c0, .slice hs.A1 (staF L f).f1.length hs.c1, .slice hs.A2 (staF L f).f2.length hs.c2, .slice hs.A3 (staF L f).f3.length hs.c3, .slice hs.A4 (staF L f).f4.length hs.c4, .slice (some ⟨w.heap.size + 1 + 1 + 1, 0, none⟩) L.length L.length] := by
        rw [hF]; have a0 := K2.out
        have a1 := a0.set 0 (.slice hs.A0 (staF L f).f0.length hs.c0)
        have a2 := a1.set 1 (.slice hs.A1 (staF L f).f1.length hs.c1)
        have a3 := a2.set 2 (.slice hs.A2 (staF L f).f2.length hs.c2)
        have a4 := a3.set 3 (.slice hs.A3 (staF L f).f3.length hs.c3)
        have a5 := a4.set 4 (.slice hs.A4 (staF L f).f4.length hs.c4)
        have a6 := a5.set 5 (.slice (some ⟨w.heap.size + 1 + 1 + 1, 0, none⟩) L.length L.length)
        simpa using a6
      have bF : ∀ B, B ≤ w.heap.size + 1 + 1 → Below B w1 F := fun B hB => by rw [hF]; exact (((((((Below.refl _ _).setCell (by show B ≤ w.heap.size + 1 + 1; omega) _).setCell (by show B ≤ w.heap.size + 1 + 1; omega) _).setCell (by show B ≤ w.heap.size + 1 + 1; omega) _).setCell (by show B ≤ w.heap.size + 1 + 1; omega) _).setCell (by show B ≤ w.heap.size + 1 + 1; omega) _).setCell (by show B ≤ w.heap.size + 1 + 1; omega) _)
      have nF : ∀ q, q ≠ w.heap.size + 1 + 1 → F.heap[q]? = w1.heap[q]? := fun q hq => by rw [hF]; exact (Below.heap_setCell _ _ _ q (by show q ≠ w.heap.size + 1 + 1; omega)).trans ((Below.heap_setCell _ _ _ q (by show q ≠ w.heap.size + 1 + 1; omega)).trans ((Below.heap_setCell _ _ _ q (by show q ≠ w.heap.size + 1 + 1; omega)).trans ((Below.heap_setCell _ _ _ q (by show q ≠ w.heap.size + 1 + 1; omega)).trans ((Below.heap_setCell _ _ _ q (by show q ≠ w.heap.size + 1 + 1; omega)).trans (Below.heap_setCell _ _ _ q (by show q ≠ w.heap.size + 1 + 1; omega))))))
      have sF : F.heap.size = w1.heap.size := by rw [hF]; simp
      have cF0 := kF.cell 0
      have cF1 := kF.cell 1
      have cF2 := kF.cell 2
      have cF3 := kF.cell 3
      have cF4 := kF.cell 4
      have cF5 := kF.cell 5
      simp only [List.getElem?_toArray, List.getElem?_cons_zero, List.getElem?_cons_succ] at cF0 cF1 cF2 cF3 cF4 cF5
      have HF := Lib.hid hF
      have KF := Lib.hid kF
      clear hF kF
      have CF0 := Lib.hid cF0
      clear cF0
      have CF1 := Lib.hid cF1
      clear cF1
      have CF2 := Lib.hid cF2
      clear cF2
      have CF3 := Lib.hid cF3
      clear cF3
      have CF4 := Lib.hid cF4
      clear cF4
      have CF5 := Lib.hid cF5
      clear cF5
      have NF := Lib.hid nF
      have BF := Lib.hid bF
      have sFa := Nat.le_of_eq sF
      have sFb := Nat.le_of_eq sF.symm
      clear nF bF sF
      go_wp2
      rw [← HF.out]
      have cF0 := CF0.out
      have cF1 := CF1.out
      have cF2 := CF2.out
      have cF3 := CF3.out
      have cF4 := CF4.out
      have cF5 := CF5.out
      refine bodyPost_ret (v := .agg #[.slice hs.A0 (staF L f).f0.length hs.c0, .slice hs.A1 (staF L f).f1.length hs.c1, .slice hs.A2 (staF L f).f2.length hs.c2, .slice hs.A3 (staF L f).f3.length hs.c3, .slice hs.A4 (staF L f).f4.length hs.c4, .slice (some ⟨w.heap.size + 1 + 1 + 1, 0, none⟩) L.length L.length]) (by simp [results, Try.results51, cF0, cF1, cF2, cF3, cF4, cF5, go_sem]) rfl ?_
      refine ⟨⟨hs, ⟨some ⟨w.heap.size + 1 + 1 + 1, 0, none⟩, L.length⟩⟩, by simp [BufV, bufOf], B1.out.trans (BF.out _ (by omega)), by omega, wr.heap.size, w1.heap.size, w.heap.size + 1 + 1 + 1, wr.heap.size, by omega, by omega, by omega, by omega, Or.inr (Nat.le_refl _), ?_, ?_⟩
      · exact Own.out.keep (Nat.le_refl _) (Nat.le_refl _) fun q h1 h2 => NF.out q (by omega)
      · exact IO.out.keep (Nat.le_refl _) (Nat.le_refl _) fun q h1 h2 => NF.out q (by omega)

/-- The codes of a record's buffers. -/
def cdsB (o : Buf) : Nat → List Nat := fun t => cdR (o.bs.getD t [])
def part (b : Nat → List Nat) (k : Nat) : Nat → List Nat := fun t => if t < k then b t else []
abbrev Qk (f : Nat → Nat) (b : Nat → List Nat) : Array Value := #[.int .u64 (enc WS f : Nat), .int .u64 (bwC (b 0) : Nat), .int .u64 (bwC (b 1) : Nat), .int .u64 (bwC (b 2) : Nat)]
theorem cdsB_row {o : Buf} (hok : ∀ xs ∈ o.bs, lokB xs = true) {k : Nat} {xs : List Int} (hx : o.bs[k]? = some xs) : rowS (cdsB o k) = xs ∧ okS (cdsB o k) ∧ (cdsB o k).length ≤ 6 := by
  have e : o.bs.getD k [] = xs := by simp [List.getD, hx]
  unfold cdsB
  rw [e]
  obtain ⟨h1, h2, h3⟩ := lok_parts (hok xs (List.mem_of_getElem? hx))
  exact ⟨h3, h1, h2⟩
theorem cdsB_off {o : Buf} {t : Nat} (h : o.bs.length ≤ t) : cdsB o t = [] := by
  have e : o.bs.getD t [] = [] := by simp [List.getD, List.getElem?_eq_none h]
  unfold cdsB
  rw [e]; rfl
end Go.Proofs.Ytpcdcgcbhhnhhaa
