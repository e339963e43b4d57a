/-
  Plain facts on runs: what holds of a word all the way, and the state of such a word is one of the program.
-/
import Derived.Test.YtiljakbjbiinkaaDoZ
namespace Go.Proofs.Ytiljakbjbiinkaa
open Go.RowKit Pl
set_option maxHeartbeats 2000000
set_option maxRecDepth 100000
set_option linter.unusedVariables false

/-- Places of a word that no thread of the program has. -/
def Off (L : Pg) (p : Nat) : Prop := (p < 3 ∧ L.length ≤ p) ∨ (p < 6 ∧ 3 + L.length ≤ p) ∨ (p < 15 ∧ 6 + L.length * 3 ≤ p) ∨ 22 ≤ p
structure Inv (L : Pg) (f : Nat → Nat) : Prop where
  good : Good L f
  own : ∀ n, n < 2 → f (18 + n) ≤ L.length
  chan : ∀ n, n < 2 → f (20 + n) ≤ 4
  bits : ∀ t, t < L.length → f (0 + t) = bitN (canF L f t)
  off : ∀ p, Off L p → f p = 0
theorem inv_beg {L : Pg} (hL : progB L = true) : Inv L (keptF L zeroF L.length) := by
  obtain ⟨h31, h32⟩ := prog_len hL
  have hi : ∀ p, 3 ≤ p → keptF L zeroF L.length p = 0 := fun p hp => keptF_hi h32 hp
  refine ⟨keptF_good (zeroF_good L) h32, fun n _ => by rw [hi _ (by omega)]; omega, fun n _ => by rw [hi _ (by omega)]; omega, fun t ht => ?_, fun p hp => by unfold Off at hp; unfold keptF; rw [if_neg (by omega)]; rfl⟩
  have e : canF L (keptF L zeroF L.length) t = canF L zeroF t := canF_congr fun p hp => by rw [hi p hp]; rfl
  rw [e]
  unfold keptF
  rw [if_pos (by omega), Nat.zero_add]
theorem aff_own {L : Pg} {f : Nat → Nat} {t : Nat} {x : Sm} (hx : x.okb = true) (ht : t < L.length) (h3 : L.length ≤ 3) {n : Nat} (hn : n < 2) (h : f (18 + n) ≤ L.length) (hc : f (20 + n) ≤ 4) :
    affF f t x (18 + n) ≤ L.length ∧ affF f t x (20 + n) ≤ 4 := by
  obtain ⟨q, a, b, c, s⟩ := x
  have hx' : okB q a b c s = true := hx
  have ga : ¬ (q = 0 ∨ q = 1 ∨ q = 2 ∨ q = 3 ∨ q = 4 ∨ q = 9) ∨ a.toNat < 3 := by
    by_cases e : q = 0 ∨ q = 1 ∨ q = 2 ∨ q = 3 ∨ q = 4 ∨ q = 9
    · obtain ⟨m, hm, rfl⟩ := ok_a3 hx' (by omega); right; simpa using hm
    · exact Or.inl e
  have gb : ¬ (q = 3 ∨ q = 4) ∨ b.toNat < 3 := by
    by_cases e : q = 3 ∨ q = 4
    · obtain ⟨m, hm, rfl⟩ := ok_b3 hx' (by omega); right; simpa using hm
    · exact Or.inl e
  have ga2 : ¬ (q = 6 ∨ q = 7 ∨ q = 8) ∨ a.toNat < 2 := by
    by_cases e : q = 6 ∨ q = 7 ∨ q = 8
    · obtain ⟨m, hm, rfl⟩ := ok_ab2 hx' e; right; simpa using hm
    · exact Or.inl e
  have gs : ¬ q = 8 ∨ sumF f t b c < 4 := by
    by_cases e : q = 8
    · right; exact sumF_lt (ok_sum hx' (by omega))
    · exact Or.inl e
  unfold affF
  simp only
  repeat' split
  all_goals (try simp only [upd])
  all_goals (refine ⟨?_, ?_⟩)
  all_goals (repeat' split)
  all_goals omega
theorem aff_off {L : Pg} {f : Nat → Nat} {t : Nat} {x : Sm} (hx : x.okb = true) (ht : t < L.length) (h3 : L.length ≤ 3) {p : Nat} (hp : Off L p) : affF f t x p = f p := by
  obtain ⟨q, a, b, c, s⟩ := x
  have hx' : okB q a b c s = true := hx
  have ga : ¬ (q = 0 ∨ q = 1 ∨ q = 2 ∨ q = 3 ∨ q = 4 ∨ q = 9) ∨ a.toNat < 3 := by
    by_cases e : q = 0 ∨ q = 1 ∨ q = 2 ∨ q = 3 ∨ q = 4 ∨ q = 9
    · obtain ⟨m, hm, rfl⟩ := ok_a3 hx' (by omega); right; simpa using hm
    · exact Or.inl e
  have gb : ¬ (q = 3 ∨ q = 4) ∨ b.toNat < 3 := by
    by_cases e : q = 3 ∨ q = 4
    · obtain ⟨m, hm, rfl⟩ := ok_b3 hx' (by omega); right; simpa using hm
    · exact Or.inl e
  have gb2 : ¬ q = 9 ∨ b.toNat < 2 := by
    by_cases e : q = 9
    · obtain ⟨m, hm, rfl⟩ := ok_b2 hx' e; right; simpa using hm
    · exact Or.inl e
  have ga2 : ¬ (q = 6 ∨ q = 7 ∨ q = 8) ∨ a.toNat < 2 := by
    by_cases e : q = 6 ∨ q = 7 ∨ q = 8
    · obtain ⟨m, hm, rfl⟩ := ok_ab2 hx' e; right; simpa using hm
    · exact Or.inl e
  unfold Off at hp
  unfold affF
  simp only
  repeat' split
  all_goals (try simp only [upd])
  all_goals (repeat' split)
  all_goals first | rfl | omega
theorem inv_step {L : Pg} {f : Nat → Nat} {t : Nat} (hL : progB L = true) (I : Inv L f) (ht : t < L.length) (hc : canF L f t = true) : Inv L (stepF L f t) := by
  obtain ⟨h31, h32⟩ := prog_len hL
  have hg := stepF_good hL I.good ht hc I.chan
  have hok : (smAt L t (f (3 + t))).okb = true := by
    obtain ⟨xs, hxs⟩ : ∃ xs, L[t]? = some xs := ⟨L[t], List.getElem?_eq_getElem ht⟩
    have hd : L.getD t [] = xs := getD_some hxs
    have hle := I.good.at_ t xs hxs
    unfold canF at hc
    rw [hd] at hc
    have hml : f (3 + t) < xs.length := by
      have : f (3 + t) ≠ xs.length := by intro e; rw [e] at hc; simp at hc
      omega
    have hsx : smAt L t (f (3 + t)) = xs[f (3 + t)] := by unfold smAt; rw [hd]; simp [List.getD, hml]
    rw [hsx]; exact (prog_thr hL hxs).2 _ _ (List.getElem?_eq_getElem hml)
  have hup : ∀ p, 6 ≤ p → upd f (3 + t) (nextF L f t (smAt L t (f (3 + t)))) p = f p := fun p hp => by unfold upd; rw [if_neg (by omega)]
  have key : ∀ n, n < 2 → stepF L f t (18 + n) ≤ L.length ∧ stepF L f t (20 + n) ≤ 4 := fun n hn => by
    unfold stepF
    rw [keptF_hi h32 (by omega), keptF_hi h32 (by omega)]
    exact aff_own hok ht h32 hn (by rw [hup _ (by omega)]; exact I.own n hn) (by rw [hup _ (by omega)]; exact I.chan n hn)
  have hoff : ∀ p, Off L p → stepF L f t p = 0 := fun p hp => by
    have h0 := I.off p hp
    unfold stepF keptF
    have hp' := hp
    unfold Off at hp'
    rw [if_neg (by omega), aff_off hok ht h32 hp]
    unfold upd
    rw [if_neg (by omega)]
    exact h0
  refine ⟨hg, fun n hn => (key n hn).1, fun n hn => (key n hn).2, fun u hu => ?_, hoff⟩
  have e : ∀ g : Nat → Nat, keptF L g L.length (0 + u) = bitN (canF L (keptF L g L.length) u) := fun g => by
    have e1 : canF L (keptF L g L.length) u = canF L g u := canF_congr fun p hp => keptF_hi h32 hp
    rw [e1]; unfold keptF; rw [if_pos (by omega), Nat.zero_add]
  unfold stepF
  exact e _
theorem atZ_of : ∀ {L : List (List Sm)} {r : List Int}, r.length = L.length → (∀ (k : Nat) (xs : List Sm) (n : Int), L[k]? = some xs → r[k]? = some n → inB n 0 xs.length = true) → atZ L r = true
  | [], [], _, _ => rfl
  | [], _ :: _, h, _ => by simp at h
  | _ :: _, [], h, _ => by simp at h
  | xs :: L, n :: r, h, k => by
    simp only [atZ, Bool.and_eq_true]
    exact ⟨k 0 xs n rfl rfl, atZ_of (by simpa using h) fun i ys m h1 h2 => k (i + 1) ys m (by simpa using h1) (by simpa using h2)⟩
theorem numB_fld {f : Nat → Nat} {b n : Nat} {l lo hi N : Int} (hN : (n : Int) = N) (h : ∀ i, i < n → lo ≤ (f (b + i) : Int) + l ∧ (f (b + i) : Int) + l ≤ hi) : numB (fldI f b l n) N lo hi = true := by
  unfold numB allIn
  rw [fldI_length]
  simp only [Bool.and_eq_true, beq_iff_eq, List.all_eq_true]
  refine ⟨hN, fun x hx => ?_⟩
  obtain ⟨i, hi, rfl⟩ := List.mem_iff_getElem.1 hx
  have h0 : i < n := by rw [fldI_length] at hi; exact hi
  have e : (fldI f b l n)[i] = (f (b + i) : Int) + l := by
    have := fldI_at (f := f) (b := b) (l := l) h0
    rw [List.getElem?_eq_getElem hi] at this
    injection this
  rw [e]
  have := h i h0
  simp [inB, this]
theorem staF_stB {L : Pg} {f : Nat → Nat} (hL : progB L = true) (I : Inv L f) : stB L (staF L f) = true := by
  obtain ⟨h31, h32⟩ := prog_len hL
  have ok := I.good.ok
  unfold stB
  simp only [Bool.and_eq_true]
  refine ⟨⟨⟨⟨⟨hL, atZ_of (by rw [(sta_len L f).1]) fun k xs n h1 h2 => ?_⟩, numB_fld (by omega) fun i hi => ?_⟩, numB_fld rfl fun i hi => ?_⟩, numB_fld rfl fun i hi => ?_⟩, numB_fld rfl fun i hi => ?_⟩
  · have hk : k < L.length := (List.getElem?_eq_some_iff.1 h1).1
    have h3 : (fldI f 3 (fL 0) L.length)[k]? = some n := h2
    rw [fldI_at hk] at h3
    injection h3 with h3
    have := I.good.at_ k xs h1
    have e : fL 0 = 0 := rfl
    subst h3
    simp [inB, e]; omega
  · have := fld_lt fld1 ok (i := i) (show i < 9 by omega)
    have e : (2 : Nat) ^ fB 1 = 4 := rfl
    have e2 : fL 1 = 0 := rfl
    omega
  · have := fld_lt fld2 ok (i := i) (show i < 3 by omega)
    have e : (2 : Nat) ^ fB 2 = 4 := rfl
    have e2 : fL 2 = 0 := rfl
    omega
  · have := I.own i hi
    have e2 : fL 3 = -1 := rfl
    omega
  · have := I.chan i hi
    have e2 : fL 4 = -1 := rfl
    omega
theorem can_pk {L : Pg} {f : Nat → Nat} (hL : progB L = true) (I : Inv L f) {t : Nat} (ht : t < L.length) : canF L (pkF (staF L f)) t = canF L f t := by
  have P := stB_parts (staF_stB hL I)
  have e0 : pkF (staF L f) (3 + t) = f (3 + t) := by
    rw [pk_at P ht, show (staF L f).f0.getD t 0 = (f (3 + t) : Int) + fL 0 from getD_some (fldI_at ht)]
    have e : fL 0 = 0 := rfl
    rw [e]; omega
  have e3 : ∀ n, n < 2 → pkF (staF L f) (18 + n) = f (18 + n) := fun n hn => by
    rw [pk_own P hn, show (staF L f).f3.getD n 0 = (f (18 + n) : Int) + fL 3 from getD_some (fldI_at hn)]
    have e : fL 3 = -1 := rfl
    rw [e]; omega
  have e4 : ∀ n, n < 2 → pkF (staF L f) (20 + n) = f (20 + n) := fun n hn => by
    rw [pk_chan P hn, show (staF L f).f4.getD n 0 = (f (20 + n) : Int) + fL 4 from getD_some (fldI_at hn)]
    have e : fL 4 = -1 := rfl
    rw [e]; omega
  unfold canF
  rw [e0]
  by_cases hd : f (3 + t) = (L.getD t []).length
  · rw [hd]; simp
  obtain ⟨xs, hxs⟩ : ∃ xs, L[t]? = some xs := ⟨L[t], List.getElem?_eq_getElem ht⟩
  have hdd : L.getD t [] = xs := getD_some hxs
  have hle := I.good.at_ t xs hxs
  rw [hdd] at hd
  have hml : f (3 + t) < xs.length := by omega
  have hsx : smAt L t (f (3 + t)) = xs[f (3 + t)] := by unfold smAt; rw [hdd]; simp [List.getD, hml]
  have hok : (smAt L t (f (3 + t))).okb = true := by rw [hsx]; exact (prog_thr hL hxs).2 _ _ (List.getElem?_eq_getElem hml)
  have hw : waitF (pkF (staF L f)) t (smAt L t (f (3 + t))) = waitF f t (smAt L t (f (3 + t))) := by
    generalize smAt L t (f (3 + t)) = x at hok ⊢
    unfold waitF
    by_cases h6 : x.k = 6 ∨ x.k = 7 ∨ x.k = 8
    · obtain ⟨n, hn, ha⟩ := ok_lock hok h6
      rw [ha, Int.toNat_natCast, e3 n hn, e4 n hn]
      by_cases h9 : x.k = 9
      · omega
      · simp [h9]
    · by_cases h9 : x.k = 9
      · obtain ⟨n, hn, hb⟩ := ok_get hok h9
        rw [hb, Int.toNat_natCast, e4 n hn]
        simp [h9]
      · simp only [not_or] at h6
        simp [h9, h6.1, h6.2.1, h6.2.2]
  rw [hw]
theorem pk_out {L : Pg} {s : Sta} (P : StP L s) {p : Nat} (hp : Off L p) : pkF s p = 0 := by
  have := P.m0; have := P.n3; have := P.m1; have := P.m2; have := P.m3; have := P.m4
  unfold Off at hp
  unfold pkF
  rw [updL_at, if_neg (by rw [natL_length]; omega), updL_at, if_neg (by rw [natL_length]; omega), updL_at, if_neg (by rw [natL_length]; omega), updL_at, if_neg (by rw [natL_length]; omega), updL_at, if_neg (by rw [natL_length]; omega)]
  rfl
theorem wd_sta {L : Pg} {f : Nat → Nat} (hL : progB L = true) (I : Inv L f) : wdF L (staF L f) = f := by
  obtain ⟨h31, h32⟩ := prog_len hL
  have P := stB_parts (staF_stB hL I)
  funext p
  by_cases h3 : p < 3
  · by_cases hl : p < L.length
    · have e := wdF_can (s := staF L f) hl
      have e2 := I.bits p hl
      rw [Nat.zero_add] at e e2
      rw [e, e2, can_pk hL I hl]
    · have ho : Off L p := Or.inl ⟨h3, by omega⟩
      unfold wdF keptF
      rw [if_neg hl, pk_out P ho, I.off p ho]
  · rw [wdF_hi P (by omega)]
    by_cases ho : Off L p
    · rw [pk_out P ho, I.off p ho]
    · unfold Off at ho
      by_cases h6 : p < 6
      · obtain ⟨t, rfl⟩ : ∃ t, p = 3 + t := ⟨p - 3, by omega⟩
        have ht : t < L.length := by omega
        rw [pk_at P ht, show (staF L f).f0.getD t 0 = (f (3 + t) : Int) + fL 0 from getD_some (fldI_at ht)]
        have e : fL 0 = 0 := rfl
        rw [e]; omega
      · by_cases h15 : p < 15
        · obtain ⟨t, rfl⟩ : ∃ t, p = 6 + t := ⟨p - 6, by omega⟩
          have ht : t < L.length * 3 := by omega
          rw [pk_reg P ht, show (staF L f).f1.getD t 0 = (f (6 + t) : Int) + fL 1 from getD_some (fldI_at ht)]
          have e : fL 1 = 0 := rfl
          rw [e]; omega
        · by_cases h18 : p < 18
          · obtain ⟨t, rfl⟩ : ∃ t, p = 15 + t := ⟨p - 15, by omega⟩
            have ht : t < 3 := by omega
            rw [pk_mem P ht, show (staF L f).f2.getD t 0 = (f (15 + t) : Int) + fL 2 from getD_some (fldI_at ht)]
            have e : fL 2 = 0 := rfl
            rw [e]; omega
          · by_cases h20 : p < 20
            · obtain ⟨t, rfl⟩ : ∃ t, p = 18 + t := ⟨p - 18, by omega⟩
              have ht : t < 2 := by omega
              rw [pk_own P ht, show (staF L f).f3.getD t 0 = (f (18 + t) : Int) + fL 3 from getD_some (fldI_at ht)]
              have e : fL 3 = -1 := rfl
              rw [e]; omega
            · obtain ⟨t, rfl⟩ : ∃ t, p = 20 + t := ⟨p - 20, by omega⟩
              have ht : t < 2 := by omega
              rw [pk_chan P ht, show (staF L f).f4.getD t 0 = (f (20 + t) : Int) + fL 4 from getD_some (fldI_at ht)]
              have e : fL 4 = -1 := rfl
              rw [e]; omega
/-- Whether a thread goes on, told by the word. -/
def goB (L : Pg) (f : Nat → Nat) (th : Int) : Bool := inB th 0 ((L.length : Int) - 1) && canF L f th.toNat
theorem can_sta {L : Pg} {f : Nat → Nat} (hL : progB L = true) (I : Inv L f) (th : Int) : canB L (staF L f) th = goB L f th := by
  unfold canB goB
  rw [staF_stB hL I, Bool.true_and]
  by_cases h : inB th 0 ((L.length : Int) - 1) = true
  · rw [h, can_pk hL I (by simp [inB] at h; omega)]
  · rw [Bool.not_eq_true] at h; rw [h]; rfl
theorem staF_S (L : Pg) (f : Nat → Nat) (h3 : L.length ≤ 3) : StaS (staF L f) := by
  obtain ⟨a0, a1, a2, a3, a4⟩ := sta_len L f
  exact ⟨by omega, by omega, by omega, by omega, by omega⟩
theorem do_sta {L : Pg} {f : Nat → Nat} (hL : progB L = true) (I : Inv L f) (th : Int) : doB L (staF L f) th = if goB L f th then staF L (stepF L f th.toNat) else StaE := by
  unfold doB
  rw [can_sta hL I, wd_sta hL I]
theorem able_bits {L : Pg} {f : Nat → Nat} (I : Inv L f) (th : Int) : (inB th 0 ((L.length : Int) - 1) && (f (0 + th.toNat) == 1)) = goB L f th := by
  unfold goB
  by_cases h : inB th 0 ((L.length : Int) - 1) = true
  · rw [I.bits th.toNat (by simp [inB] at h; omega)]
    cases canF L f th.toNat <;> rfl
  · rw [Bool.not_eq_true] at h; rw [h]; rfl
/-- The word behind an order; none, if a thread of it cannot go on. -/
def runF (L : Pg) : (Nat → Nat) → List Int → Option (Nat → Nat)
  | f, [] => some f
  | f, th :: r => if goB L f th then runF L (stepF L f th.toNat) r else none
theorem goB_parts {L : Pg} {f : Nat → Nat} {th : Int} (h : goB L f th = true) : ∃ t : Nat, th = (t : Int) ∧ t < L.length ∧ canF L f t = true := by
  unfold goB at h
  simp only [Bool.and_eq_true] at h
  obtain ⟨h1, h2⟩ := h
  have h1' := h1
  simp [inB] at h1'
  exact ⟨th.toNat, by omega, by omega, h2⟩
theorem runF_inv {L : Pg} (hL : progB L = true) : ∀ {r : List Int} {f g : Nat → Nat}, Inv L f → runF L f r = some g → Inv L g
  | [], f, g, I, h => by simp only [runF, Option.some.injEq] at h; subst h; exact I
  | th :: r, f, g, I, h => by
    unfold runF at h
    split at h
    · rename_i hg
      obtain ⟨t, rfl, ht, hc⟩ := goB_parts hg
      exact runF_inv hL (inv_step hL I ht hc) h
    · cases h
end Go.Proofs.Ytiljakbjbiinkaa
