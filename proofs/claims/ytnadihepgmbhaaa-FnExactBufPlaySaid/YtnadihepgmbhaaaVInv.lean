/-
  The program's bufStepped whole; and what holds of words and buffers behind an order of steps, with one buffer for each thread or one for each place.
-/
import Derived.Test.YtnadihepgmbhaaaDoZ
import Derived.Test.YtnadihepgmbhaaaVPut
import Derived.Test.YtnadihepgmbhaaaVCan
namespace Go.Proofs.Ytnadihepgmbhaaa
open Go.RowKit Pl
set_option maxHeartbeats 2000000
set_option maxRecDepth 100000
set_option linter.unusedVariables false

/-- Places of a word that no thread of the program has. -/
def Off (L : Pg) (p : Nat) : Prop := (p < 3 ∧ L.length ≤ p) ∨ (p < 6 ∧ 3 + L.length ≤ p) ∨ (p < 15 ∧ 6 + L.length * 3 ≤ p) ∨ 22 ≤ p
structure Inv (L : Pg) (f : Nat → Nat) : Prop where
  good : Good L f
  own : ∀ n, n < 2 → f (18 + n) ≤ L.length
  chan : ∀ n, n < 2 → f (20 + n) ≤ 4
  bits : ∀ t, t < L.length → f (0 + t) = bitN (canF L f t)
  off : ∀ p, Off L p → f p = 0
theorem inv_beg {L : Pg} (hL : progB L = true) : Inv L (keptF L zeroF L.length) := by
  obtain ⟨h31, h32⟩ := prog_len hL
  have hi : ∀ p, 3 ≤ p → keptF L zeroF L.length p = 0 := fun p hp => keptF_hi h32 hp
  refine ⟨keptF_good (zeroF_good L) h32, fun n _ => by rw [hi _ (by omega)]; omega, fun n _ => by rw [hi _ (by omega)]; omega, fun t ht => ?_, fun p hp => by unfold Off at hp; unfold keptF; rw [if_neg (by omega)]; rfl⟩
  have e : canF L (keptF L zeroF L.length) t = canF L zeroF t := canF_congr fun p hp => by rw [hi p hp]; rfl
  rw [e]
  unfold keptF
  rw [if_pos (by omega), Nat.zero_add]
theorem aff_own {L : Pg} {f : Nat → Nat} {t : Nat} {x : Sm} (hx : x.okb = true) (ht : t < L.length) (h3 : L.length ≤ 3) {n : Nat} (hn : n < 2) (h : f (18 + n) ≤ L.length) (hc : f (20 + n) ≤ 4) :
    affF f t x (18 + n) ≤ L.length ∧ affF f t x (20 + n) ≤ 4 := by
  obtain ⟨q, a, b, c, s⟩ := x
  have hx' : okB q a b c s = true := hx
  have ga : ¬ (q = 0 ∨ q = 1 ∨ q = 2 ∨ q = 3 ∨ q = 4 ∨ q = 9) ∨ a.toNat < 3 := by
    by_cases e : q = 0 ∨ q = 1 ∨ q = 2 ∨ q = 3 ∨ q = 4 ∨ q = 9
    · obtain ⟨m, hm, rfl⟩ := ok_a3 hx' (by omega); right; simpa using hm
    · exact Or.inl e
  have gb : ¬ (q = 3 ∨ q = 4) ∨ b.toNat < 3 := by
    by_cases e : q = 3 ∨ q = 4
    · obtain ⟨m, hm, rfl⟩ := ok_b3 hx' (by omega); right; simpa using hm
    · exact Or.inl e
  have ga2 : ¬ (q = 6 ∨ q = 7 ∨ q = 8) ∨ a.toNat < 2 := by
    by_cases e : q = 6 ∨ q = 7 ∨ q = 8
    · obtain ⟨m, hm, rfl⟩ := ok_ab2 hx' e; right; simpa using hm
    · exact Or.inl e
  have gs : ¬ q = 8 ∨ sumF f t b c < 4 := by
    by_cases e : q = 8
    · right; exact sumF_lt (ok_sum hx' (by omega))
    · exact Or.inl e
  unfold affF
  simp only
  repeat' split
  all_goals (try simp only [upd])
  all_goals (refine ⟨?_, ?_⟩)
  all_goals (repeat' split)
  all_goals omega
theorem aff_off {L : Pg} {f : Nat → Nat} {t : Nat} {x : Sm} (hx : x.okb = true) (ht : t < L.length) (h3 : L.length ≤ 3) {p : Nat} (hp : Off L p) : affF f t x p = f p := by
  obtain ⟨q, a, b, c, s⟩ := x
  have hx' : okB q a b c s = true := hx
  have ga : ¬ (q = 0 ∨ q = 1 ∨ q = 2 ∨ q = 3 ∨ q = 4 ∨ q = 9) ∨ a.toNat < 3 := by
    by_cases e : q = 0 ∨ q = 1 ∨ q = 2 ∨ q = 3 ∨ q = 4 ∨ q = 9
    · obtain ⟨m, hm, rfl⟩ := ok_a3 hx' (by omega); right; simpa using hm
    · exact Or.inl e
  have gb : ¬ (q = 3 ∨ q = 4) ∨ b.toNat < 3 := by
    by_cases e : q = 3 ∨ q = 4
    · obtain ⟨m, hm, rfl⟩ := ok_b3 hx' (by omega); right; simpa using hm
    · exact Or.inl e
  have gb2 : ¬ q = 9 ∨ b.toNat < 2 := by
    by_cases e : q = 9
    · obtain ⟨m, hm, rfl⟩ := ok_b2 hx' e; right; simpa using hm
    · exact Or.inl e
  have ga2 : ¬ (q = 6 ∨ q = 7 ∨ q = 8) ∨ a.toNat < 2 := by
    by_cases e : q = 6 ∨ q = 7 ∨ q = 8
    · obtain ⟨m, hm, rfl⟩ := ok_ab2 hx' e; right; simpa using hm
    · exact Or.inl e
  unfold Off at hp
  unfold affF
  simp only
  repeat' split
  all_goals (try simp only [upd])
  all_goals (repeat' split)
  all_goals first | rfl | omega
theorem inv_step {L : Pg} {f : Nat → Nat} {t : Nat} (hL : progB L = true) (I : Inv L f) (ht : t < L.length) (hc : canF L f t = true) : Inv L (stepF L f t) := by
  obtain ⟨h31, h32⟩ := prog_len hL
  have hg := stepF_good hL I.good ht hc I.chan
  have hok : (smAt L t (f (3 + t))).okb = true := by
    obtain ⟨xs, hxs⟩ : ∃ xs, L[t]? = some xs := ⟨L[t], List.getElem?_eq_getElem ht⟩
    have hd : L.getD t [] = xs := getD_some hxs
    have hle := I.good.at_ t xs hxs
    unfold canF at hc
    rw [hd] at hc
    have hml : f (3 + t) < xs.length := by
      have : f (3 + t) ≠ xs.length := by intro e; rw [e] at hc; simp at hc
      omega
    have hsx : smAt L t (f (3 + t)) = xs[f (3 + t)] := by unfold smAt; rw [hd]; simp [List.getD, hml]
    rw [hsx]; exact (prog_thr hL hxs).2 _ _ (List.getElem?_eq_getElem hml)
  have hup : ∀ p, 6 ≤ p → upd f (3 + t) (nextF L f t (smAt L t (f (3 + t)))) p = f p := fun p hp => by unfold upd; rw [if_neg (by omega)]
  have key : ∀ n, n < 2 → stepF L f t (18 + n) ≤ L.length ∧ stepF L f t (20 + n) ≤ 4 := fun n hn => by
    unfold stepF
    rw [keptF_hi h32 (by omega), keptF_hi h32 (by omega)]
    exact aff_own hok ht h32 hn (by rw [hup _ (by omega)]; exact I.own n hn) (by rw [hup _ (by omega)]; exact I.chan n hn)
  have hoff : ∀ p, Off L p → stepF L f t p = 0 := fun p hp => by
    have h0 := I.off p hp
    unfold stepF keptF
    have hp' := hp
    unfold Off at hp'
    rw [if_neg (by omega), aff_off hok ht h32 hp]
    unfold upd
    rw [if_neg (by omega)]
    exact h0
  refine ⟨hg, fun n hn => (key n hn).1, fun n hn => (key n hn).2, fun u hu => ?_, hoff⟩
  have e : ∀ g : Nat → Nat, keptF L g L.length (0 + u) = bitN (canF L (keptF L g L.length) u) := fun g => by
    have e1 : canF L (keptF L g L.length) u = canF L g u := canF_congr fun p hp => keptF_hi h32 hp
    rw [e1]; unfold keptF; rw [if_pos (by omega), Nat.zero_add]
  unfold stepF
  exact e _
theorem atZ_of : ∀ {L : List (List Sm)} {r : List Int}, r.length = L.length → (∀ (k : Nat) (xs : List Sm) (n : Int), L[k]? = some xs → r[k]? = some n → inB n 0 xs.length = true) → atZ L r = true
  | [], [], _, _ => rfl
  | [], _ :: _, h, _ => by simp at h
  | _ :: _, [], h, _ => by simp at h
  | xs :: L, n :: r, h, k => by
    simp only [atZ, Bool.and_eq_true]
    exact ⟨k 0 xs n rfl rfl, atZ_of (by simpa using h) fun i ys m h1 h2 => k (i + 1) ys m (by simpa using h1) (by simpa using h2)⟩
theorem numB_fld {f : Nat → Nat} {b n : Nat} {l lo hi N : Int} (hN : (n : Int) = N) (h : ∀ i, i < n → lo ≤ (f (b + i) : Int) + l ∧ (f (b + i) : Int) + l ≤ hi) : numB (fldI f b l n) N lo hi = true := by
  unfold numB allIn
  rw [fldI_length]
  simp only [Bool.and_eq_true, beq_iff_eq, List.all_eq_true]
  refine ⟨hN, fun x hx => ?_⟩
  obtain ⟨i, hi, rfl⟩ := List.mem_iff_getElem.1 hx
  have h0 : i < n := by rw [fldI_length] at hi; exact hi
  have e : (fldI f b l n)[i] = (f (b + i) : Int) + l := by
    have := fldI_at (f := f) (b := b) (l := l) h0
    rw [List.getElem?_eq_getElem hi] at this
    injection this
  rw [e]
  have := h i h0
  simp [inB, this]
theorem staF_stB {L : Pg} {f : Nat → Nat} (hL : progB L = true) (I : Inv L f) : stB L (staF L f) = true := by
  obtain ⟨h31, h32⟩ := prog_len hL
  have ok := I.good.ok
  unfold stB
  simp only [Bool.and_eq_true]
  refine ⟨⟨⟨⟨⟨hL, atZ_of (by rw [(sta_len L f).1]) fun k xs n h1 h2 => ?_⟩, numB_fld (by omega) fun i hi => ?_⟩, numB_fld rfl fun i hi => ?_⟩, numB_fld rfl fun i hi => ?_⟩, numB_fld rfl fun i hi => ?_⟩
  · have hk : k < L.length := (List.getElem?_eq_some_iff.1 h1).1
    have h3 : (fldI f 3 (fL 0) L.length)[k]? = some n := h2
    rw [fldI_at hk] at h3
    injection h3 with h3
    have := I.good.at_ k xs h1
    have e : fL 0 = 0 := rfl
    subst h3
    simp [inB, e]; omega
  · have := fld_lt fld1 ok (i := i) (show i < 9 by omega)
    have e : (2 : Nat) ^ fB 1 = 4 := rfl
    have e2 : fL 1 = 0 := rfl
    omega
  · have := fld_lt fld2 ok (i := i) (show i < 3 by omega)
    have e : (2 : Nat) ^ fB 2 = 4 := rfl
    have e2 : fL 2 = 0 := rfl
    omega
  · have := I.own i hi
    have e2 : fL 3 = -1 := rfl
    omega
  · have := I.chan i hi
    have e2 : fL 4 = -1 := rfl
    omega
theorem can_pk {L : Pg} {f : Nat → Nat} (hL : progB L = true) (I : Inv L f) {t : Nat} (ht : t < L.length) : canF L (pkF (staF L f)) t = canF L f t := by
  have P := stB_parts (staF_stB hL I)
  have e0 : pkF (staF L f) (3 + t) = f (3 + t) := by
    rw [pk_at P ht, show (staF L f).f0.getD t 0 = (f (3 + t) : Int) + fL 0 from getD_some (fldI_at ht)]
    have e : fL 0 = 0 := rfl
    rw [e]; omega
  have e3 : ∀ n, n < 2 → pkF (staF L f) (18 + n) = f (18 + n) := fun n hn => by
    rw [pk_own P hn, show (staF L f).f3.getD n 0 = (f (18 + n) : Int) + fL 3 from getD_some (fldI_at hn)]
    have e : fL 3 = -1 := rfl
    rw [e]; omega
  have e4 : ∀ n, n < 2 → pkF (staF L f) (20 + n) = f (20 + n) := fun n hn => by
    rw [pk_chan P hn, show (staF L f).f4.getD n 0 = (f (20 + n) : Int) + fL 4 from getD_some (fldI_at hn)]
    have e : fL 4 = -1 := rfl
    rw [e]; omega
  unfold canF
  rw [e0]
  by_cases hd : f (3 + t) = (L.getD t []).length
  · rw [hd]; simp
  obtain ⟨xs, hxs⟩ : ∃ xs, L[t]? = some xs := ⟨L[t], List.getElem?_eq_getElem ht⟩
  have hdd : L.getD t [] = xs := getD_some hxs
  have hle := I.good.at_ t xs hxs
  rw [hdd] at hd
  have hml : f (3 + t) < xs.length := by omega
  have hsx : smAt L t (f (3 + t)) = xs[f (3 + t)] := by unfold smAt; rw [hdd]; simp [List.getD, hml]
  have hok : (smAt L t (f (3 + t))).okb = true := by rw [hsx]; exact (prog_thr hL hxs).2 _ _ (List.getElem?_eq_getElem hml)
  have hw : waitF (pkF (staF L f)) t (smAt L t (f (3 + t))) = waitF f t (smAt L t (f (3 + t))) := by
    generalize smAt L t (f (3 + t)) = x at hok ⊢
    unfold waitF
    by_cases h6 : x.k = 6 ∨ x.k = 7 ∨ x.k = 8
    · obtain ⟨n, hn, ha⟩ := ok_lock hok h6
      rw [ha, Int.toNat_natCast, e3 n hn, e4 n hn]
      by_cases h9 : x.k = 9
      · omega
      · simp [h9]
    · by_cases h9 : x.k = 9
      · obtain ⟨n, hn, hb⟩ := ok_get hok h9
        rw [hb, Int.toNat_natCast, e4 n hn]
        simp [h9]
      · simp only [not_or] at h6
        simp [h9, h6.1, h6.2.1, h6.2.2]
  rw [hw]
theorem pk_out {L : Pg} {s : Sta} (P : StP L s) {p : Nat} (hp : Off L p) : pkF s p = 0 := by
  have := P.m0; have := P.n3; have := P.m1; have := P.m2; have := P.m3; have := P.m4
  unfold Off at hp
  unfold pkF
  rw [updL_at, if_neg (by rw [natL_length]; omega), updL_at, if_neg (by rw [natL_length]; omega), updL_at, if_neg (by rw [natL_length]; omega), updL_at, if_neg (by rw [natL_length]; omega), updL_at, if_neg (by rw [natL_length]; omega)]
  rfl
theorem wd_sta {L : Pg} {f : Nat → Nat} (hL : progB L = true) (I : Inv L f) : wdF L (staF L f) = f := by
  obtain ⟨h31, h32⟩ := prog_len hL
  have P := stB_parts (staF_stB hL I)
  funext p
  by_cases h3 : p < 3
  · by_cases hl : p < L.length
    · have e := wdF_can (s := staF L f) hl
      have e2 := I.bits p hl
      rw [Nat.zero_add] at e e2
      rw [e, e2, can_pk hL I hl]
    · have ho : Off L p := Or.inl ⟨h3, by omega⟩
      unfold wdF keptF
      rw [if_neg hl, pk_out P ho, I.off p ho]
  · rw [wdF_hi P (by omega)]
    by_cases ho : Off L p
    · rw [pk_out P ho, I.off p ho]
    · unfold Off at ho
      by_cases h6 : p < 6
      · obtain ⟨t, rfl⟩ : ∃ t, p = 3 + t := ⟨p - 3, by omega⟩
        have ht : t < L.length := by omega
        rw [pk_at P ht, show (staF L f).f0.getD t 0 = (f (3 + t) : Int) + fL 0 from getD_some (fldI_at ht)]
        have e : fL 0 = 0 := rfl
        rw [e]; omega
      · by_cases h15 : p < 15
        · obtain ⟨t, rfl⟩ : ∃ t, p = 6 + t := ⟨p - 6, by omega⟩
          have ht : t < L.length * 3 := by omega
          rw [pk_reg P ht, show (staF L f).f1.getD t 0 = (f (6 + t) : Int) + fL 1 from getD_some (fldI_at ht)]
          have e : fL 1 = 0 := rfl
          rw [e]; omega
        · by_cases h18 : p < 18
          · obtain ⟨t, rfl⟩ : ∃ t, p = 15 + t := ⟨p - 15, by omega⟩
            have ht : t < 3 := by omega
            rw [pk_mem P ht, show (staF L f).f2.getD t 0 = (f (15 + t) : Int) + fL 2 from getD_some (fldI_at ht)]
            have e : fL 2 = 0 := rfl
            rw [e]; omega
          · by_cases h20 : p < 20
            · obtain ⟨t, rfl⟩ : ∃ t, p = 18 + t := ⟨p - 18, by omega⟩
              have ht : t < 2 := by omega
              rw [pk_own P ht, show (staF L f).f3.getD t 0 = (f (18 + t) : Int) + fL 3 from getD_some (fldI_at ht)]
              have e : fL 3 = -1 := rfl
              rw [e]; omega
            · obtain ⟨t, rfl⟩ : ∃ t, p = 20 + t := ⟨p - 20, by omega⟩
              have ht : t < 2 := by omega
              rw [pk_chan P ht, show (staF L f).f4.getD t 0 = (f (20 + t) : Int) + fL 4 from getD_some (fldI_at ht)]
              have e : fL 4 = -1 := rfl
              rw [e]; omega
/-- Whether a thread goes on, told by the word. -/
def goB (L : Pg) (f : Nat → Nat) (th : Int) : Bool := inB th 0 ((L.length : Int) - 1) && canF L f th.toNat
theorem staF_S (L : Pg) (f : Nat → Nat) (h3 : L.length ≤ 3) : StaS (staF L f) := by
  obtain ⟨a0, a1, a2, a3, a4⟩ := sta_len L f
  exact ⟨by omega, by omega, by omega, by omega, by omega⟩
/-- The word behind an order; none, if a thread of it cannot go on. -/
def runF (L : Pg) : (Nat → Nat) → List Int → Option (Nat → Nat)
  | f, [] => some f
  | f, th :: r => if goB L f th then runF L (stepF L f th.toNat) r else none
end Go.Proofs.Ytnadihepgmbhaaa
namespace Go.Proofs.Ytnadihepgmbhaaa
open Go.RowKit Pl Go.BigFrame
set_option maxHeartbeats 1000000
set_option maxRecDepth 100000
set_option linter.unusedVariables false

theorem bufstepped_any (h : PgH) (L : Pg) (e : Nat) (f : Nat → Nat) (b : Nat → List Nat) (st : Nat) (w : World) (B : Nat) (he : Ech e) (hP : PgR w B h L) (hB : B ≤ w.heap.size) (hL : progB L = true) (hf : Good L f) (hst : st < L.length * (1 + e)) (hc : canQ e L f b st = true) (h4 : ∀ n, n < 2 → f (20 + n) ≤ 4) (hb6 : okB9 b 6) :
    Calls Try.prog 131 #[PgV h L, QV e f b, .int .i64 st] w fun en w' => en = .returned (QV e (stepQ e L f b st).1 (stepQ e L f b st).2) ∧ Below w.heap.size w w' := by
  obtain ⟨h31, h32⟩ := prog_len hL
  have hb7 : okB9 b 7 := fun u hu => ⟨(hb6 u hu).1, by have := (hb6 u hu).2; omega⟩
  by_cases hs : L.length ≤ st
  · obtain ⟨t, rfl⟩ : ∃ t, st = L.length + t := ⟨st - L.length, by omega⟩
    have hte : t < L.length * e := by rw [mul_in] at hst; omega
    have ht3 : t < 9 := by rcases he with rfl | rfl <;> omega
    rw [canQ_hi hte] at hc
    obtain ⟨hok, hl⟩ := hb6 t ht3
    unfold stepQ
    rw [if_pos hs, show L.length + t - L.length = t by omega]
    cases hbt : b t with
    | nil => rw [hbt] at hc; simp at hc
    | cons c q =>
      rw [hbt] at hok hl
      exact bstp_take h L e f b t w B hP hB hf.ok ht3 c q hbt hok (by simp at hl; omega)
  · have ht : st < L.length := by omega
    rw [canQ_lo ht] at hc
    simp only [Bool.and_eq_true] at hc
    have hcf := hc.1
    obtain ⟨hml, hxok⟩ := can_lt hL hf ht hcf
    unfold stepQ
    rw [if_neg hs]
    obtain ⟨x, hx⟩ : ∃ x, smAt L st (f (3 + st)) = x := ⟨_, rfl⟩
    rw [hx] at hxok ⊢
    by_cases hp : x.k = 2 ∧ x.s = false
    · rw [if_pos hp]
      have hxo : okB x.k x.a x.b x.c x.s = true := hxok
      obtain ⟨n, hn3, hn⟩ := ok_a3 hxo (by omega)
      have hvb := ok_sum hxo (by omega)
      have := bstp_put h L e f b st w B he hP hB hL hf ht hcf hb7 (by rw [hx]; unfold putBeh; rw [hp.1, hp.2]; rfl) n _ hn3 (sumF_lt hvb) (by rw [hx]; exact hn) (by rw [hx]; exact hvb) (Lib.hid (by rw [hx])) _ (Lib.hid rfl)
      rw [hx] at this
      rw [hn, Int.toNat_natCast]
      exact this
    · rw [if_neg hp]
      by_cases h1 : x.k = 1
      · rw [if_pos h1]
        have hxo : okB x.k x.a x.b x.c x.s = true := hxok
        obtain ⟨n, hn3, hn⟩ := ok_a3 hxo (by omega)
        obtain ⟨m, hm3, hm⟩ := ok_b3 hxo (by omega)
        have := bstp_load h L e f b st w B he hP hB hL hf ht hcf h4 hb7 (by rw [hx]; exact h1) n m hn3 hm3 (by rw [hx]; exact hn) (by rw [hx]; exact hm) _ (rdC_lt (mem_lt hf.ok hm3)) (Lib.hid rfl)
        rw [hn, hm, Int.toNat_natCast, Int.toNat_natCast]
        exact this
      · rw [if_neg h1]
        refine bstp_rest h L e f b st w B hP hB hL hf ht hcf h4 ?_ (by rw [hx]; exact h1)
        rw [hx]
        unfold putBeh
        by_cases h2 : x.k = 2
        · cases hs2 : x.s with
          | true => simp
          | false => exact absurd ⟨h2, hs2⟩ hp
        · rw [beq_eq_false_iff_ne.2 h2]; rfl
/-- What holds of a word and its buffers. -/
structure InvQ (e : Nat) (L : Pg) (f : Nat → Nat) (b : Nat → List Nat) : Prop where
  inv : Inv L f
  q : ∀ k, k < L.length * e → okS (b k) ∧ (b k).length ≤ f (3 + k / e)
  pl : e = 3 → ∀ k, ∀ c ∈ b k, c / 4 = k % 3
  off : ∀ k, L.length * e ≤ k → b k = []
theorem div_in {e n k : Nat} (he : Ech e) (h : k < n * e) : k / e < n := by
  rcases he with rfl | rfl <;> omega
theorem bfi_div {e t p : Nat} (he : Ech e) : bfi e t p / e = t := by
  unfold bfi
  rcases he with rfl | rfl <;> omega
theorem InvQ.ok6 {e : Nat} {L : Pg} {f : Nat → Nat} {b : Nat → List Nat} (he : Ech e) (hL : progB L = true) (I : InvQ e L f b) : okB9 b 6 := fun k _ => by
  rcases Nat.lt_or_ge k (L.length * e) with h | h
  · obtain ⟨h1, h2⟩ := I.q k h
    have ht := div_in he h
    obtain ⟨xs, hxs⟩ : ∃ xs, L[k / e]? = some xs := ⟨_, List.getElem?_eq_getElem ht⟩
    have h3 := I.inv.good.at_ (k / e) xs hxs
    have h4 := (prog_thr hL hxs).1
    exact ⟨h1, by omega⟩
  · rw [I.off k h]
    exact ⟨fun c hc => by simp at hc, by simp⟩
theorem invq_beg {e : Nat} {L : Pg} (hL : progB L = true) : InvQ e L (keptF L zeroF L.length) (fun _ => []) :=
  ⟨inv_beg hL, fun t _ => ⟨fun c hc => by simp at hc, by simp⟩, fun _ k c hc => by simp at hc, fun _ _ => rfl⟩
/-- A register or a place of memory put into a word. -/
theorem inv_put {L : Pg} {f : Nat → Nat} (I : Inv L f) {p v : Nat} (hok : okF WS (upd f p v)) (hp : (6 ≤ p ∧ p < 6 + L.length * 3) ∨ (15 ≤ p ∧ p < 18)) (h3 : L.length ≤ 3) : Inv L (upd f p v) := by
  have hc : ∀ u, u < L.length → canF L (upd f p v) u = canF L f u := fun u hu => by
    unfold canF
    have e3 : upd f p v (3 + u) = f (3 + u) := by unfold upd; rw [if_neg (by omega)]
    have ew : waitF (upd f p v) u (smAt L u (f (3 + u))) = waitF f u (smAt L u (f (3 + u))) := by
      have e : ∀ n, 18 ≤ n → upd f p v n = f n := fun n hn => by unfold upd; rw [if_neg (by omega)]
      unfold waitF
      rw [e _ (by omega), e _ (by omega), e _ (by omega)]
    rw [e3, ew]
  refine ⟨⟨hok, fun t xs ht => ?_⟩, fun n hn => ?_, fun n hn => ?_, fun t ht => ?_, fun q hq => ?_⟩
  · have : upd f p v (3 + t) = f (3 + t) := by
      have : t < L.length := (List.getElem?_eq_some_iff.1 ht).1
      unfold upd; rw [if_neg (by omega)]
    rw [this]; exact I.good.at_ t xs ht
  · unfold upd; rw [if_neg (by omega)]; exact I.own n hn
  · unfold upd; rw [if_neg (by omega)]; exact I.chan n hn
  · rw [hc t ht, ← I.bits t ht]; unfold upd; rw [if_neg (by omega)]
  · have h0 := I.off q hq
    unfold Off at hq
    unfold upd; rw [if_neg (by omega)]; exact h0
theorem inv_gone {L : Pg} {f : Nat → Nat} {t : Nat} {x : Sm} (hL : progB L = true) (I : Inv L f) (ht : t < L.length) (hlt : f (3 + t) < (L.getD t []).length) : Inv L (goF L f t x) := by
  obtain ⟨h31, h32⟩ := prog_len hL
  have hi : ∀ p, 6 ≤ p → goF L f t x p = f p := fun p hp => by unfold goF; rw [keptF_hi h32 (by omega)]; unfold upd; rw [if_neg (by omega)]
  refine ⟨goF_good I.good hL ht hlt, fun n hn => by rw [hi _ (by omega)]; exact I.own n hn, fun n hn => by rw [hi _ (by omega)]; exact I.chan n hn, fun u hu => ?_, fun p hp => ?_⟩
  · have e1 : canF L (goF L f t x) u = canF L (upd f (3 + t) (nextF L f t x)) u := canF_congr fun p hp => keptF_hi h32 hp
    rw [e1]; unfold goF keptF; rw [if_pos (by omega), Nat.zero_add]
  · have h0 := I.off p hp
    unfold Off at hp
    unfold goF keptF
    rw [if_neg (by omega)]
    unfold upd
    rw [if_neg (by omega)]
    exact h0
theorem nextF_ge {L : Pg} {f : Nat → Nat} {t : Nat} {x : Sm} (h : f (3 + t) < (L.getD t []).length) : f (3 + t) ≤ nextF L f t x := by
  unfold nextF
  repeat' split
  all_goals omega
theorem step_at {L : Pg} {f : Nat → Nat} {t u : Nat} (h32 : L.length ≤ 3) (hu : u < L.length) : stepF L f t (3 + u) = if u = t then nextF L f t (smAt L t (f (3 + t))) else f (3 + u) := by
  unfold stepF
  rw [keptF_hi h32 (by omega)]
  rw [affF_lo (by omega)]
  unfold upd
  by_cases e : u = t
  · subst e; rw [if_pos rfl, if_pos rfl]
  · rw [if_neg (by omega), if_neg e]
theorem vnextF_ne {L : Pg} {f : Nat → Nat} {t : Nat} {x : Sm} (h : x.k ≠ 10) : nextF L f t x = f (3 + t) + 1 := by unfold nextF; rw [if_neg h]
theorem canQ_parts {e : Nat} {L : Pg} {f : Nat → Nat} {b : Nat → List Nat} {st : Int} (h : canQ e L f b st = true) : ∃ n : Nat, st = (n : Int) ∧ n < L.length * (1 + e) := by
  rcases Bool.eq_false_or_eq_true (inB st 0 (((L.length * (1 + e) : Nat) : Int) - 1)) with h1 | h1
  · simp [inB] at h1
    have h2 : 0 ≤ st ∧ st ≤ ((L.length * (1 + e) : Nat) : Int) - 1 := by
      refine ⟨h1.1, ?_⟩
      have := h1.2
      push_cast at this ⊢
      omega
    generalize L.length * (1 + e) = N at *
    exact ⟨st.toNat, by omega, by omega⟩
  · rw [canQ_out h1] at h; cases h
theorem invq_step {e : Nat} {L : Pg} {f : Nat → Nat} {b : Nat → List Nat} {st : Nat} (he : Ech e) (hL : progB L = true) (I : InvQ e L f b) (hst : st < L.length * (1 + e)) (hc : canQ e L f b st = true) : InvQ e L (stepQ e L f b st).1 (stepQ e L f b st).2 := by
  obtain ⟨h31, h32⟩ := prog_len hL
  by_cases hs : L.length ≤ st
  · obtain ⟨t, rfl⟩ : ∃ t, st = L.length + t := ⟨st - L.length, by omega⟩
    have ht : t < L.length * e := by rw [mul_in] at hst; omega
    unfold stepQ
    rw [if_pos hs, show L.length + t - L.length = t by omega]
    cases hbt : b t with
    | nil => exact I
    | cons c r =>
      obtain ⟨h1, h2⟩ := I.q t ht
      rw [hbt] at h1 h2
      have h12 := h1.head
      refine ⟨inv_put I.inv (okF_upd fld2 I.inv.good.ok (i := c / 4) (show c / 4 < 3 by omega) (show c % 4 < 4 by omega)) (Or.inr ⟨by omega, by omega⟩) h32, fun u hu => ?_, fun e3 u x hx => ?_, fun u hu => ?_⟩
      · have hue := div_in he hu
        have ee : upd f (15 + c / 4) (c % 4) (3 + u / e) = f (3 + u / e) := by unfold upd; rw [if_neg (by omega)]
        show okS (updB b t r u) ∧ (updB b t r u).length ≤ upd f (15 + c / 4) (c % 4) (3 + u / e)
        rw [ee]
        by_cases eu : u = t
        · subst eu; rw [updB_same]; simp at h2; exact ⟨h1.tail, by omega⟩
        · rw [updB_other b r eu]; exact I.q u hu
      · have hx : x ∈ updB b t r u := hx
        by_cases eu : u = t
        · subst eu; rw [updB_same] at hx; exact I.pl e3 u x (by rw [hbt]; exact List.mem_cons_of_mem _ hx)
        · rw [updB_other b r eu] at hx; exact I.pl e3 u x hx
      · show updB b t r u = []
        rw [updB_other b r (by omega)]; exact I.off u hu
  · have ht : st < L.length := by omega
    rw [canQ_lo ht] at hc
    simp only [Bool.and_eq_true] at hc
    have hcf := hc.1
    obtain ⟨hml, hxok⟩ := can_lt hL I.inv.good ht hcf
    have hstep := inv_step hL I.inv ht hcf
    have hcnt : ∀ u, u < L.length * e → okS (b u) ∧ (b u).length ≤ stepF L f st (3 + u / e) := fun u hu => by
      obtain ⟨h1, h2⟩ := I.q u hu
      rw [step_at h32 (div_in he hu)]
      by_cases ee : u / e = st
      · rw [if_pos ee]
        rw [ee] at h2
        exact ⟨h1, Nat.le_trans h2 (nextF_ge hml)⟩
      · rw [if_neg ee]; exact ⟨h1, h2⟩
    unfold stepQ
    rw [if_neg hs]
    obtain ⟨x, hx⟩ : ∃ x, smAt L st (f (3 + st)) = x := ⟨_, rfl⟩
    rw [hx] at hxok ⊢
    obtain ⟨xk, xa, xb, xc, xs⟩ := x
    have hxo : okB xk xa xb xc xs = true := hxok
    simp only
    by_cases hp : xk = 2 ∧ xs = false
    · rw [if_pos hp]
      obtain ⟨rfl, rfl⟩ := hp
      obtain ⟨n, hn3, rfl⟩ := ok_a3 hxo (by omega)
      have hs4 := sumF_lt (f := f) (t := st) (ok_sum hxo (by omega))
      rw [Int.toNat_natCast]
      have hin := bfi_in (e := e) (p := n) he ht
      have hdv := bfi_div (e := e) (t := st) (p := n) he
      have hpl : e = 3 → bfi e st n % 3 = n := fun e3 => by subst e3; unfold bfi; omega
      obtain ⟨kb, hkb⟩ : ∃ kb, bfi e st n = kb := ⟨_, rfl⟩
      rw [hkb] at hin hdv hpl ⊢
      refine ⟨inv_gone hL I.inv ht hml, fun u hu => ?_, fun e3 u y hy => ?_, fun u hu => ?_⟩
      · have hue := div_in he hu
        show okS (updB b kb _ u) ∧ (updB b kb _ u).length ≤ goF L f st _ (3 + u / e)
        have e3 : ∀ d, d < L.length → goF L f st ⟨2, (n : Int), xb, xc, false⟩ (3 + d) = if d = st then f (3 + st) + 1 else f (3 + d) := fun d hd => by
          unfold goF
          rw [keptF_hi h32 (by omega)]
          unfold upd
          by_cases ee : d = st
          · subst ee; rw [if_pos rfl, if_pos rfl, vnextF_ne (by show (2 : Int) ≠ 10; decide)]
          · rw [if_neg (by omega), if_neg ee]
        obtain ⟨h1, h2⟩ := I.q u hu
        rw [e3 _ hue]
        by_cases eu : u = kb
        · subst eu
          rw [hdv] at h2
          rw [updB_same, if_pos hdv]
          exact ⟨h1.snoc (by omega), by simp; omega⟩
        · rw [updB_other b _ eu]
          refine ⟨h1, ?_⟩
          split
          · rename_i ee; rw [ee] at h2; omega
          · exact h2
      · have hy : y ∈ updB b kb _ u := hy
        by_cases eu : u = kb
        · subst eu
          rw [updB_same] at hy
          rcases List.mem_append.1 hy with h | h
          · exact I.pl e3 u y h
          · simp at h; have := hpl e3; omega
        · rw [updB_other b _ eu] at hy; exact I.pl e3 u y hy
      · show updB b kb _ u = []
        rw [updB_other b _ (by omega)]; exact I.off u hu
    · rw [if_neg hp]
      by_cases h1 : xk = 1
      · rw [if_pos h1]
        subst h1
        obtain ⟨n, hn3, rfl⟩ := ok_a3 hxo (by omega)
        obtain ⟨m, hm3, rfl⟩ := ok_b3 hxo (by omega)
        rw [Int.toNat_natCast, Int.toNat_natCast]
        refine ⟨inv_put hstep (okF_upd fld1 hstep.good.ok (i := st * 3 + n) (show st * 3 + n < 9 by omega) (show rdC _ _ _ < 4 from rdC_lt (mem_lt I.inv.good.ok hm3))) (Or.inl ⟨by omega, by omega⟩) h32, fun u hu => ?_, I.pl, I.off⟩
        have hue := div_in he hu
        show okS (b u) ∧ (b u).length ≤ upd (stepF L f st) (6 + (st * 3 + n)) _ (3 + u / e)
        have ee : upd (stepF L f st) (6 + (st * 3 + n)) (rdC (b (bfi e st m)) m (f (15 + m))) (3 + u / e) = stepF L f st (3 + u / e) := by unfold upd; rw [if_neg (by omega)]
        rw [ee]; exact hcnt u hu
      · rw [if_neg h1]
        exact ⟨hstep, hcnt, I.pl, I.off⟩
/-- The word and the buffers behind an order of steps; none, if a step of it cannot be. -/
def runQ (e : Nat) (L : Pg) : (Nat → Nat) → (Nat → List Nat) → List Int → Option ((Nat → Nat) × (Nat → List Nat))
  | f, b, [] => some (f, b)
  | f, b, st :: r => if canQ e L f b st then runQ e L (stepQ e L f b st.toNat).1 (stepQ e L f b st.toNat).2 r else none
theorem runQ_inv {e : Nat} {L : Pg} (he : Ech e) (hL : progB L = true) : ∀ {r : List Int} {f : Nat → Nat} {b : Nat → List Nat} {g : (Nat → Nat) × (Nat → List Nat)}, InvQ e L f b → runQ e L f b r = some g → InvQ e L g.1 g.2
  | [], f, b, g, I, h => by simp only [runQ, Option.some.injEq] at h; subst h; exact I
  | th :: r, f, b, g, I, h => by
    unfold runQ at h
    split at h
    · rename_i hg
      obtain ⟨n, rfl, hn⟩ := canQ_parts hg
      rw [Int.toNat_natCast] at h
      exact runQ_inv he hL (invq_step he hL I hn hg) h
    · cases h
end Go.Proofs.Ytnadihepgmbhaaa
