/-
  What the program's Can comes to.
-/
import Derived.Test.YtnadihepgmbhaaaBegin
import Derived.Test.YtnadihepgmbhaaaStOk
import Derived.Deep.QuietTactic
import Derived.BigQuiet
namespace Go.Proofs.Ytnadihepgmbhaaa
open Go.RowKit Pl
set_option maxHeartbeats 4000000
set_option maxRecDepth 100000
set_option linter.unusedVariables false

def natL (xs : List Int) (l : Int) : List Nat := xs.map fun x => (x - l).toNat
theorem natL_length (xs : List Int) (l : Int) : (natL xs l).length = xs.length := by simp [natL]
theorem natL_getD (xs : List Int) (l : Int) (k : Nat) (h : k < xs.length) : (natL xs l).getD k 0 = (xs.getD k 0 - l).toNat := by
  simp [natL, List.getD, h]
/-- The numbers of a state's word but for which threads can go on. -/
def pkF (s : Sta) : Nat → Nat := updL (updL (updL (updL (updL zeroF 3 (natL s.f0 (fL 0))) 6 (natL s.f1 (fL 1))) 15 (natL s.f2 (fL 2))) 18 (natL s.f3 (fL 3))) 20 (natL s.f4 (fL 4))
theorem allIn_at {xs : List Int} {lo hi : Int} (h : allIn xs lo hi = true) {k : Nat} {x : Int} (hx : xs[k]? = some x) : lo ≤ x ∧ x ≤ hi := by
  have := List.all_eq_true.1 h x (List.mem_of_getElem? hx)
  simpa [inB] using this
theorem atZ_at {L : List (List Sm)} : ∀ {r : List Int}, atZ L r = true → ∀ {k : Nat} {xs : List Sm}, L[k]? = some xs → ∃ x, r[k]? = some x ∧ 0 ≤ x ∧ x ≤ (xs.length : Int) := by
  induction L with
  | nil => intro r _ k xs h; simp at h
  | cons y L ih =>
    intro r h k xs hk
    cases r with
    | nil => simp [atZ] at h
    | cons n r =>
      simp only [atZ, Bool.and_eq_true] at h
      cases k with
      | zero =>
        simp at hk; subst hk
        have := h.1
        simp [inB] at this
        exact ⟨n, rfl, this.1, this.2⟩
      | succ k => simpa using ih h.2 (by simpa using hk)
/-- A state of a program, in parts. -/
structure StP (L : Pg) (s : Sta) : Prop where
  prog : progB L = true
  n1 : 1 ≤ L.length
  n3 : L.length ≤ 3
  at_ : atZ L s.f0 = true
  m0 : s.f0.length = L.length
  m1 : s.f1.length = L.length * 3
  m2 : s.f2.length = 3
  m3 : s.f3.length = 2
  m4 : s.f4.length = 2
  v0 : ∀ (k : Nat) (x : Int), s.f0[k]? = some x → 0 ≤ x ∧ x ≤ 6
  v1 : ∀ (k : Nat) (x : Int), s.f1[k]? = some x → 0 ≤ x ∧ x ≤ 3
  v2 : ∀ (k : Nat) (x : Int), s.f2[k]? = some x → 0 ≤ x ∧ x ≤ 3
  v3 : ∀ (k : Nat) (x : Int), s.f3[k]? = some x → -1 ≤ x ∧ x ≤ (L.length : Int) - 1
  v4 : ∀ (k : Nat) (x : Int), s.f4[k]? = some x → -1 ≤ x ∧ x ≤ 3
theorem stB_parts {L : Pg} {s : Sta} (h : stB L s = true) : StP L s := by
  simp only [stB, numB, Bool.and_eq_true, beq_iff_eq] at h
  obtain ⟨⟨⟨⟨⟨hp, ha⟩, h1, g1⟩, h2, g2⟩, h3, g3⟩, h4, g4⟩ := h
  obtain ⟨n1, n3⟩ := prog_len hp
  have m0 := atZ_len ha
  refine ⟨hp, n1, n3, ha, m0, by omega, by omega, by omega, by omega, fun k x hx => ?_, fun k x hx => allIn_at g1 hx, fun k x hx => allIn_at g2 hx, fun k x hx => allIn_at g3 hx, fun k x hx => allIn_at g4 hx⟩
  have hk : k < L.length := by have := (List.getElem?_eq_some_iff.1 hx).1; omega
  obtain ⟨y, hy, h5, h6⟩ := atZ_at ha (List.getElem?_eq_getElem hk)
  rw [hx] at hy; injection hy with hy; subst hy
  have := (prog_thr hp (List.getElem?_eq_getElem hk)).1
  omega
section
variable {L : Pg} {s : Sta}
theorem pk_at (P : StP L s) {t : Nat} (ht : t < L.length) : pkF s (3 + t) = (s.f0.getD t 0).toNat := by
  have := P.m0; have := P.n3; have := P.m1; have := P.m2; have := P.m3; have := P.m4
  unfold pkF
  rw [updL_at, if_neg (by rw [natL_length]; omega), updL_at, if_neg (by rw [natL_length]; omega), updL_at, if_neg (by rw [natL_length]; omega), updL_at, if_neg (by rw [natL_length]; omega), updL_at, if_pos (by rw [natL_length]; omega), show 3 + t - 3 = t by omega, natL_getD _ _ _ (by omega)]
  simp [fL]
theorem pk_reg (P : StP L s) {i : Nat} (hi : i < L.length * 3) : pkF s (6 + i) = (s.f1.getD i 0).toNat := by
  have := P.m0; have := P.n3; have := P.m1; have := P.m2; have := P.m3; have := P.m4
  unfold pkF
  rw [updL_at, if_neg (by rw [natL_length]; omega), updL_at, if_neg (by rw [natL_length]; omega), updL_at, if_neg (by rw [natL_length]; omega), updL_at, if_pos (by rw [natL_length]; omega), show 6 + i - 6 = i by omega, natL_getD _ _ _ (by omega)]
  simp [fL]
theorem pk_mem (P : StP L s) {i : Nat} (hi : i < 3) : pkF s (15 + i) = (s.f2.getD i 0).toNat := by
  have := P.m0; have := P.n3; have := P.m1; have := P.m2; have := P.m3; have := P.m4
  unfold pkF
  rw [updL_at, if_neg (by rw [natL_length]; omega), updL_at, if_neg (by rw [natL_length]; omega), updL_at, if_pos (by rw [natL_length]; omega), show 15 + i - 15 = i by omega, natL_getD _ _ _ (by omega)]
  simp [fL]
theorem pk_own (P : StP L s) {i : Nat} (hi : i < 2) : pkF s (18 + i) = (s.f3.getD i 0 + 1).toNat := by
  have := P.m0; have := P.n3; have := P.m1; have := P.m2; have := P.m3; have := P.m4
  unfold pkF
  rw [updL_at, if_neg (by rw [natL_length]; omega), updL_at, if_pos (by rw [natL_length]; omega), show 18 + i - 18 = i by omega, natL_getD _ _ _ (by omega)]
  simp [fL]
theorem pk_chan (P : StP L s) {i : Nat} (hi : i < 2) : pkF s (20 + i) = (s.f4.getD i 0 + 1).toNat := by
  have := P.m0; have := P.n3; have := P.m1; have := P.m2; have := P.m3; have := P.m4
  unfold pkF
  rw [updL_at, if_pos (by rw [natL_length]; omega), show 20 + i - 20 = i by omega, natL_getD _ _ _ (by omega)]
  simp [fL]
/-- The words on the way. -/
def pk1 (s : Sta) : Nat → Nat := updL zeroF 3 (natL s.f0 (fL 0))
def pk2 (s : Sta) : Nat → Nat := updL (pk1 s) 6 (natL s.f1 (fL 1))
def pk3 (s : Sta) : Nat → Nat := updL (pk2 s) 15 (natL s.f2 (fL 2))
def pk4 (s : Sta) : Nat → Nat := updL (pk3 s) 18 (natL s.f3 (fL 3))
end
/-- The word of a state. -/
def wdF (L : Pg) (s : Sta) : Nat → Nat := keptF L (pkF s) L.length
theorem wdF_hi {L : Pg} {s : Sta} (P : StP L s) {p : Nat} (hp : 3 ≤ p) : wdF L s p = pkF s p := keptF_hi P.n3 hp
theorem wdF_can {L : Pg} {s : Sta} {t : Nat} (ht : t < L.length) : wdF L s (0 + t) = bitN (canF L (pkF s) t) := by
  unfold wdF keptF; rw [if_pos (by omega), Nat.zero_add]

theorem able_any (h : PgH) (L : Pg) (f : Nat → Nat) (th : Int) (w : World) (hf : okF WS f) (h31 : 1 ≤ L.length) (h32 : L.length ≤ 3) (r : Bool) (hr : Hid ((inB th 0 ((L.length : Int) - 1) && (f (0 + th.toNat) == 1)) = r)) :
    Calls Try.prog 121 #[PgV h L, .int .u64 (enc WS f : Nat), .int .i64 th] w fun e w' => e = .returned (.bool r) ∧ Below w.heap.size w w' := by
  rcases Bool.eq_false_or_eq_true (inB th 0 ((L.length : Int) - 1)) with h1 | h1
  · have h1' := h1
    simp [inB] at h1'
    obtain ⟨t, rfl⟩ := Int.eq_ofNat_of_zero_le h1'.1
    have ht : t < 3 := by omega
    have hr' := hr.out
    rw [h1, Bool.true_and, Int.toNat_natCast] at hr'
    obtain ⟨d, hd⟩ : ∃ d : Int, (f (0 + t) : Int) + fL 5 = d := ⟨_, rfl⟩
    have hdv : d = (f (0 + t) : Int) := by rw [← hd]; simp [fL]
    have HD := Lib.hid hd
    have hfin : Hid ((d == 1) = r) := Lib.hid (by rw [← hr', hdv, Bool.eq_iff_iff]; simp; omega)
    have H1 := Lib.hid h1
    have HE := Lib.hid (entF fld5 hf t ht)
    clear hr hr' h1 hd hdv
    go_enter Try.func121, Try.ntmps121
    go_wp2_with fail
    refine (within_b _ _ _ _ _ H1).mono ?_
    rintro e w' ⟨rfl, rfl⟩
    go_wp2_with fail
    refine (HE.out _ _ HD).mono ?_
    rintro e w1 ⟨rfl, hb⟩
    go_wp2
    go_ret
    exact ⟨by rw [← hfin.out]; simp, below_on ((Below.refl _ _).alloc (Nat.le_refl _) _) hb⟩
  · have hfin : Hid (r = false) := Lib.hid (by rw [← hr.out, h1]; rfl)
    have H1 := Lib.hid h1
    clear hr h1
    go_enter Try.func121, Try.ntmps121
    go_wp2_with fail
    refine (within_b _ _ _ _ _ H1).mono ?_
    rintro e w' ⟨rfl, rfl⟩
    go_wp2
    go_ret
    exact ⟨by rw [hfin.out]; rfl, by go_grown⟩

end Go.Proofs.Ytnadihepgmbhaaa
namespace Go.Proofs.Ytnadihepgmbhaaa
open Go.RowKit Pl Go.BigFrame
set_option maxHeartbeats 4000000
set_option maxRecDepth 100000
set_option linter.unusedVariables false

/-- Whether a thread of a state can do its next statement. -/
def canB (L : Pg) (s : Sta) (th : Int) : Bool := stB L s && (inB th 0 ((L.length : Int) - 1) && canF L (pkF s) th.toNat)
end Go.Proofs.Ytnadihepgmbhaaa
