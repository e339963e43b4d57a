/-
  What the reference model's Play comes to.
-/
import Derived.Test.YtmnpndmjheippaaDoZ
import Derived.Test.YtmnpndmjheippaaBegin
import Derived.Test.YtmnpndmjheippaaOpenIs
import Derived.Test.YtmnpndmjheippaaSpDo
import Derived.Test.YtmnpndmjheippaaCutP
import Derived.Deep.RegionHeld3
import Derived.Deep.DeepCutAuto
namespace Go.Proofs.Ytmnpndmjheippaa
open Go.RowKit Pl
set_option maxHeartbeats 2000000
set_option maxRecDepth 100000
set_option linter.unusedVariables false

/-- Places of a word that no thread of the program has. -/
def Off (L : Pg) (p : Nat) : Prop := (p < 3 ∧ L.length ≤ p) ∨ (p < 6 ∧ 3 + L.length ≤ p) ∨ (p < 15 ∧ 6 + L.length * 3 ≤ p) ∨ 22 ≤ p
structure Inv (L : Pg) (f : Nat → Nat) : Prop where
  good : Good L f
  own : ∀ n, n < 2 → f (18 + n) ≤ L.length
  chan : ∀ n, n < 2 → f (20 + n) ≤ 4
  bits : ∀ t, t < L.length → f (0 + t) = bitN (canF L f t)
  off : ∀ p, Off L p → f p = 0
theorem inv_beg {L : Pg} (hL : progB L = true) : Inv L (keptF L zeroF L.length) := by
  obtain ⟨h31, h32⟩ := prog_len hL
  have hi : ∀ p, 3 ≤ p → keptF L zeroF L.length p = 0 := fun p hp => keptF_hi h32 hp
  refine ⟨keptF_good (zeroF_good L) h32, fun n _ => by rw [hi _ (by omega)]; omega, fun n _ => by rw [hi _ (by omega)]; omega, fun t ht => ?_, fun p hp => by unfold Off at hp; unfold keptF; rw [if_neg (by omega)]; rfl⟩
  have e : canF L (keptF L zeroF L.length) t = canF L zeroF t := canF_congr fun p hp => by rw [hi p hp]; rfl
  rw [e]
  unfold keptF
  rw [if_pos (by omega), Nat.zero_add]
theorem aff_own {L : Pg} {f : Nat → Nat} {t : Nat} {x : Sm} (hx : x.okb = true) (ht : t < L.length) (h3 : L.length ≤ 3) {n : Nat} (hn : n < 2) (h : f (18 + n) ≤ L.length) (hc : f (20 + n) ≤ 4) :
    affF f t x (18 + n) ≤ L.length ∧ affF f t x (20 + n) ≤ 4 := by
  obtain ⟨q, a, b, c, s⟩ := x
  have hx' : okB q a b c s = true := hx
  have ga : ¬ (q = 0 ∨ q = 1 ∨ q = 2 ∨ q = 3 ∨ q = 4 ∨ q = 9) ∨ a.toNat < 3 := by
    by_cases e : q = 0 ∨ q = 1 ∨ q = 2 ∨ q = 3 ∨ q = 4 ∨ q = 9
    · obtain ⟨m, hm, rfl⟩ := ok_a3 hx' (by omega); right; simpa using hm
    · exact Or.inl e
  have gb : ¬ (q = 3 ∨ q = 4) ∨ b.toNat < 3 := by
    by_cases e : q = 3 ∨ q = 4
    · obtain ⟨m, hm, rfl⟩ := ok_b3 hx' (by omega); right; simpa using hm
    · exact Or.inl e
  have ga2 : ¬ (q = 6 ∨ q = 7 ∨ q = 8) ∨ a.toNat < 2 := by
    by_cases e : q = 6 ∨ q = 7 ∨ q = 8
    · obtain ⟨m, hm, rfl⟩ := ok_ab2 hx' e; right; simpa using hm
    · exact Or.inl e
  have gs : ¬ q = 8 ∨ sumF f t b c < 4 := by
    by_cases e : q = 8
    · right; exact sumF_lt (ok_sum hx' (by omega))
    · exact Or.inl e
  unfold affF
  simp only
  repeat' split
  all_goals (try simp only [upd])
  all_goals (refine ⟨?_, ?_⟩)
  all_goals (repeat' split)
  all_goals omega
theorem aff_off {L : Pg} {f : Nat → Nat} {t : Nat} {x : Sm} (hx : x.okb = true) (ht : t < L.length) (h3 : L.length ≤ 3) {p : Nat} (hp : Off L p) : affF f t x p = f p := by
  obtain ⟨q, a, b, c, s⟩ := x
  have hx' : okB q a b c s = true := hx
  have ga : ¬ (q = 0 ∨ q = 1 ∨ q = 2 ∨ q = 3 ∨ q = 4 ∨ q = 9) ∨ a.toNat < 3 := by
    by_cases e : q = 0 ∨ q = 1 ∨ q = 2 ∨ q = 3 ∨ q = 4 ∨ q = 9
    · obtain ⟨m, hm, rfl⟩ := ok_a3 hx' (by omega); right; simpa using hm
    · exact Or.inl e
  have gb : ¬ (q = 3 ∨ q = 4) ∨ b.toNat < 3 := by
    by_cases e : q = 3 ∨ q = 4
    · obtain ⟨m, hm, rfl⟩ := ok_b3 hx' (by omega); right; simpa using hm
    · exact Or.inl e
  have gb2 : ¬ q = 9 ∨ b.toNat < 2 := by
    by_cases e : q = 9
    · obtain ⟨m, hm, rfl⟩ := ok_b2 hx' e; right; simpa using hm
    · exact Or.inl e
  have ga2 : ¬ (q = 6 ∨ q = 7 ∨ q = 8) ∨ a.toNat < 2 := by
    by_cases e : q = 6 ∨ q = 7 ∨ q = 8
    · obtain ⟨m, hm, rfl⟩ := ok_ab2 hx' e; right; simpa using hm
    · exact Or.inl e
  unfold Off at hp
  unfold affF
  simp only
  repeat' split
  all_goals (try simp only [upd])
  all_goals (repeat' split)
  all_goals first | rfl | omega
theorem inv_step {L : Pg} {f : Nat → Nat} {t : Nat} (hL : progB L = true) (I : Inv L f) (ht : t < L.length) (hc : canF L f t = true) : Inv L (stepF L f t) := by
  obtain ⟨h31, h32⟩ := prog_len hL
  have hg := stepF_good hL I.good ht hc I.chan
  have hok : (smAt L t (f (3 + t))).okb = true := by
    obtain ⟨xs, hxs⟩ : ∃ xs, L[t]? = some xs := ⟨L[t], List.getElem?_eq_getElem ht⟩
    have hd : L.getD t [] = xs := getD_some hxs
    have hle := I.good.at_ t xs hxs
    unfold canF at hc
    rw [hd] at hc
    have hml : f (3 + t) < xs.length := by
      have : f (3 + t) ≠ xs.length := by intro e; rw [e] at hc; simp at hc
      omega
    have hsx : smAt L t (f (3 + t)) = xs[f (3 + t)] := by unfold smAt; rw [hd]; simp [List.getD, hml]
    rw [hsx]; exact (prog_thr hL hxs).2 _ _ (List.getElem?_eq_getElem hml)
  have hup : ∀ p, 6 ≤ p → upd f (3 + t) (nextF L f t (smAt L t (f (3 + t)))) p = f p := fun p hp => by unfold upd; rw [if_neg (by omega)]
  have key : ∀ n, n < 2 → stepF L f t (18 + n) ≤ L.length ∧ stepF L f t (20 + n) ≤ 4 := fun n hn => by
    unfold stepF
    rw [keptF_hi h32 (by omega), keptF_hi h32 (by omega)]
    exact aff_own hok ht h32 hn (by rw [hup _ (by omega)]; exact I.own n hn) (by rw [hup _ (by omega)]; exact I.chan n hn)
  have hoff : ∀ p, Off L p → stepF L f t p = 0 := fun p hp => by
    have h0 := I.off p hp
    unfold stepF keptF
    have hp' := hp
    unfold Off at hp'
    rw [if_neg (by omega), aff_off hok ht h32 hp]
    unfold upd
    rw [if_neg (by omega)]
    exact h0
  refine ⟨hg, fun n hn => (key n hn).1, fun n hn => (key n hn).2, fun u hu => ?_, hoff⟩
  have e : ∀ g : Nat → Nat, keptF L g L.length (0 + u) = bitN (canF L (keptF L g L.length) u) := fun g => by
    have e1 : canF L (keptF L g L.length) u = canF L g u := canF_congr fun p hp => keptF_hi h32 hp
    rw [e1]; unfold keptF; rw [if_pos (by omega), Nat.zero_add]
  unfold stepF
  exact e _
theorem atZ_of : ∀ {L : List (List Sm)} {r : List Int}, r.length = L.length → (∀ (k : Nat) (xs : List Sm) (n : Int), L[k]? = some xs → r[k]? = some n → inB n 0 xs.length = true) → atZ L r = true
  | [], [], _, _ => rfl
  | [], _ :: _, h, _ => by simp at h
  | _ :: _, [], h, _ => by simp at h
  | xs :: L, n :: r, h, k => by
    simp only [atZ, Bool.and_eq_true]
    exact ⟨k 0 xs n rfl rfl, atZ_of (by simpa using h) fun i ys m h1 h2 => k (i + 1) ys m (by simpa using h1) (by simpa using h2)⟩
theorem numB_fld {f : Nat → Nat} {b n : Nat} {l lo hi N : Int} (hN : (n : Int) = N) (h : ∀ i, i < n → lo ≤ (f (b + i) : Int) + l ∧ (f (b + i) : Int) + l ≤ hi) : numB (fldI f b l n) N lo hi = true := by
  unfold numB allIn
  rw [fldI_length]
  simp only [Bool.and_eq_true, beq_iff_eq, List.all_eq_true]
  refine ⟨hN, fun x hx => ?_⟩
  obtain ⟨i, hi, rfl⟩ := List.mem_iff_getElem.1 hx
  have h0 : i < n := by rw [fldI_length] at hi; exact hi
  have e : (fldI f b l n)[i] = (f (b + i) : Int) + l := by
    have := fldI_at (f := f) (b := b) (l := l) h0
    rw [List.getElem?_eq_getElem hi] at this
    injection this
  rw [e]
  have := h i h0
  simp [inB, this]
theorem staF_stB {L : Pg} {f : Nat → Nat} (hL : progB L = true) (I : Inv L f) : stB L (staF L f) = true := by
  obtain ⟨h31, h32⟩ := prog_len hL
  have ok := I.good.ok
  unfold stB
  simp only [Bool.and_eq_true]
  refine ⟨⟨⟨⟨⟨hL, atZ_of (by rw [(sta_len L f).1]) fun k xs n h1 h2 => ?_⟩, numB_fld (by omega) fun i hi => ?_⟩, numB_fld rfl fun i hi => ?_⟩, numB_fld rfl fun i hi => ?_⟩, numB_fld rfl fun i hi => ?_⟩
  · have hk : k < L.length := (List.getElem?_eq_some_iff.1 h1).1
    have h3 : (fldI f 3 (fL 0) L.length)[k]? = some n := h2
    rw [fldI_at hk] at h3
    injection h3 with h3
    have := I.good.at_ k xs h1
    have e : fL 0 = 0 := rfl
    subst h3
    simp [inB, e]; omega
  · have := fld_lt fld1 ok (i := i) (show i < 9 by omega)
    have e : (2 : Nat) ^ fB 1 = 4 := rfl
    have e2 : fL 1 = 0 := rfl
    omega
  · have := fld_lt fld2 ok (i := i) (show i < 3 by omega)
    have e : (2 : Nat) ^ fB 2 = 4 := rfl
    have e2 : fL 2 = 0 := rfl
    omega
  · have := I.own i hi
    have e2 : fL 3 = -1 := rfl
    omega
  · have := I.chan i hi
    have e2 : fL 4 = -1 := rfl
    omega
theorem can_pk {L : Pg} {f : Nat → Nat} (hL : progB L = true) (I : Inv L f) {t : Nat} (ht : t < L.length) : canF L (pkF (staF L f)) t = canF L f t := by
  have P := stB_parts (staF_stB hL I)
  have e0 : pkF (staF L f) (3 + t) = f (3 + t) := by
    rw [pk_at P ht, show (staF L f).f0.getD t 0 = (f (3 + t) : Int) + fL 0 from getD_some (fldI_at ht)]
    have e : fL 0 = 0 := rfl
    rw [e]; omega
  have e3 : ∀ n, n < 2 → pkF (staF L f) (18 + n) = f (18 + n) := fun n hn => by
    rw [pk_own P hn, show (staF L f).f3.getD n 0 = (f (18 + n) : Int) + fL 3 from getD_some (fldI_at hn)]
    have e : fL 3 = -1 := rfl
    rw [e]; omega
  have e4 : ∀ n, n < 2 → pkF (staF L f) (20 + n) = f (20 + n) := fun n hn => by
    rw [pk_chan P hn, show (staF L f).f4.getD n 0 = (f (20 + n) : Int) + fL 4 from getD_some (fldI_at hn)]
    have e : fL 4 = -1 := rfl
    rw [e]; omega
  unfold canF
  rw [e0]
  by_cases hd : f (3 + t) = (L.getD t []).length
  · rw [hd]; simp
  obtain ⟨xs, hxs⟩ : ∃ xs, L[t]? = some xs := ⟨L[t], List.getElem?_eq_getElem ht⟩
  have hdd : L.getD t [] = xs := getD_some hxs
  have hle := I.good.at_ t xs hxs
  rw [hdd] at hd
  have hml : f (3 + t) < xs.length := by omega
  have hsx : smAt L t (f (3 + t)) = xs[f (3 + t)] := by unfold smAt; rw [hdd]; simp [List.getD, hml]
  have hok : (smAt L t (f (3 + t))).okb = true := by rw [hsx]; exact (prog_thr hL hxs).2 _ _ (List.getElem?_eq_getElem hml)
  have hw : waitF (pkF (staF L f)) t (smAt L t (f (3 + t))) = waitF f t (smAt L t (f (3 + t))) := by
    generalize smAt L t (f (3 + t)) = x at hok ⊢
    unfold waitF
    by_cases h6 : x.k = 6 ∨ x.k = 7 ∨ x.k = 8
    · obtain ⟨n, hn, ha⟩ := ok_lock hok h6
      rw [ha, Int.toNat_natCast, e3 n hn, e4 n hn]
      by_cases h9 : x.k = 9
      · omega
      · simp [h9]
    · by_cases h9 : x.k = 9
      · obtain ⟨n, hn, hb⟩ := ok_get hok h9
        rw [hb, Int.toNat_natCast, e4 n hn]
        simp [h9]
      · simp only [not_or] at h6
        simp [h9, h6.1, h6.2.1, h6.2.2]
  rw [hw]
theorem pk_out {L : Pg} {s : Sta} (P : StP L s) {p : Nat} (hp : Off L p) : pkF s p = 0 := by
  have := P.m0; have := P.n3; have := P.m1; have := P.m2; have := P.m3; have := P.m4
  unfold Off at hp
  unfold pkF
  rw [updL_at, if_neg (by rw [natL_length]; omega), updL_at, if_neg (by rw [natL_length]; omega), updL_at, if_neg (by rw [natL_length]; omega), updL_at, if_neg (by rw [natL_length]; omega), updL_at, if_neg (by rw [natL_length]; omega)]
  rfl
theorem wd_sta {L : Pg} {f : Nat → Nat} (hL : progB L = true) (I : Inv L f) : wdF L (staF L f) = f := by
  obtain ⟨h31, h32⟩ := prog_len hL
  have P := stB_parts (staF_stB hL I)
  funext p
  by_cases h3 : p < 3
  · by_cases hl : p < L.length
    · have e := wdF_can (s := staF L f) hl
      have e2 := I.bits p hl
      rw [Nat.zero_add] at e e2
      rw [e, e2, can_pk hL I hl]
    · have ho : Off L p := Or.inl ⟨h3, by omega⟩
      unfold wdF keptF
      rw [if_neg hl, pk_out P ho, I.off p ho]
  · rw [wdF_hi P (by omega)]
    by_cases ho : Off L p
    · rw [pk_out P ho, I.off p ho]
    · unfold Off at ho
      by_cases h6 : p < 6
      · obtain ⟨t, rfl⟩ : ∃ t, p = 3 + t := ⟨p - 3, by omega⟩
        have ht : t < L.length := by omega
        rw [pk_at P ht, show (staF L f).f0.getD t 0 = (f (3 + t) : Int) + fL 0 from getD_some (fldI_at ht)]
        have e : fL 0 = 0 := rfl
        rw [e]; omega
      · by_cases h15 : p < 15
        · obtain ⟨t, rfl⟩ : ∃ t, p = 6 + t := ⟨p - 6, by omega⟩
          have ht : t < L.length * 3 := by omega
          rw [pk_reg P ht, show (staF L f).f1.getD t 0 = (f (6 + t) : Int) + fL 1 from getD_some (fldI_at ht)]
          have e : fL 1 = 0 := rfl
          rw [e]; omega
        · by_cases h18 : p < 18
          · obtain ⟨t, rfl⟩ : ∃ t, p = 15 + t := ⟨p - 15, by omega⟩
            have ht : t < 3 := by omega
            rw [pk_mem P ht, show (staF L f).f2.getD t 0 = (f (15 + t) : Int) + fL 2 from getD_some (fldI_at ht)]
            have e : fL 2 = 0 := rfl
            rw [e]; omega
          · by_cases h20 : p < 20
            · obtain ⟨t, rfl⟩ : ∃ t, p = 18 + t := ⟨p - 18, by omega⟩
              have ht : t < 2 := by omega
              rw [pk_own P ht, show (staF L f).f3.getD t 0 = (f (18 + t) : Int) + fL 3 from getD_some (fldI_at ht)]
              have e : fL 3 = -1 := rfl
              rw [e]; omega
            · obtain ⟨t, rfl⟩ : ∃ t, p = 20 + t := ⟨p - 20, by omega⟩
              have ht : t < 2 := by omega
              rw [pk_chan P ht, show (staF L f).f4.getD t 0 = (f (20 + t) : Int) + fL 4 from getD_some (fldI_at ht)]
              have e : fL 4 = -1 := rfl
              rw [e]; omega
/-- Whether a thread goes on, told by the word. -/
def goB (L : Pg) (f : Nat → Nat) (th : Int) : Bool := inB th 0 ((L.length : Int) - 1) && canF L f th.toNat
theorem can_sta {L : Pg} {f : Nat → Nat} (hL : progB L = true) (I : Inv L f) (th : Int) : canB L (staF L f) th = goB L f th := by
  unfold canB goB
  rw [staF_stB hL I, Bool.true_and]
  by_cases h : inB th 0 ((L.length : Int) - 1) = true
  · rw [h, can_pk hL I (by simp [inB] at h; omega)]
  · rw [Bool.not_eq_true] at h; rw [h]; rfl
theorem staF_S (L : Pg) (f : Nat → Nat) (h3 : L.length ≤ 3) : StaS (staF L f) := by
  obtain ⟨a0, a1, a2, a3, a4⟩ := sta_len L f
  exact ⟨by omega, by omega, by omega, by omega, by omega⟩
theorem do_sta {L : Pg} {f : Nat → Nat} (hL : progB L = true) (I : Inv L f) (th : Int) : doB L (staF L f) th = if goB L f th then staF L (stepF L f th.toNat) else StaE := by
  unfold doB
  rw [can_sta hL I, wd_sta hL I]
theorem able_bits {L : Pg} {f : Nat → Nat} (I : Inv L f) (th : Int) : (inB th 0 ((L.length : Int) - 1) && (f (0 + th.toNat) == 1)) = goB L f th := by
  unfold goB
  by_cases h : inB th 0 ((L.length : Int) - 1) = true
  · rw [I.bits th.toNat (by simp [inB] at h; omega)]
    cases canF L f th.toNat <;> rfl
  · rw [Bool.not_eq_true] at h; rw [h]; rfl
/-- The word behind an order; none, if a thread of it cannot go on. -/
def runF (L : Pg) : (Nat → Nat) → List Int → Option (Nat → Nat)
  | f, [] => some f
  | f, th :: r => if goB L f th then runF L (stepF L f th.toNat) r else none
theorem goB_parts {L : Pg} {f : Nat → Nat} {th : Int} (h : goB L f th = true) : ∃ t : Nat, th = (t : Int) ∧ t < L.length ∧ canF L f t = true := by
  unfold goB at h
  simp only [Bool.and_eq_true] at h
  obtain ⟨h1, h2⟩ := h
  have h1' := h1
  simp [inB] at h1'
  exact ⟨th.toNat, by omega, by omega, h2⟩
theorem runF_inv {L : Pg} (hL : progB L = true) : ∀ {r : List Int} {f g : Nat → Nat}, Inv L f → runF L f r = some g → Inv L g
  | [], f, g, I, h => by simp only [runF, Option.some.injEq] at h; subst h; exact I
  | th :: r, f, g, I, h => by
    unfold runF at h
    split at h
    · rename_i hg
      obtain ⟨t, rfl, ht, hc⟩ := goB_parts hg
      exact runF_inv hL (inv_step hL I ht hc) h
    · cases h
end Go.Proofs.Ytmnpndmjheippaa
namespace Go.Proofs.Ytmnpndmjheippaa
open Go.RowKit Pl
set_option maxHeartbeats 4000000
set_option maxRecDepth 100000
set_option linter.unusedVariables false

def wordO : Option (Nat → Nat) → Nat
  | none => 0
  | some f => enc WS f
theorem played_any (h : PgH) (L : Pg) (A : Option Addr) (c : Nat) (xs : List Int) (w : World) (B : Nat) (hR : PgR w B h L) (hV : Vs w B A (ints xs)) (hB : B ≤ w.heap.size) (hL : progB L = true) (hm : xs.length ≤ maxLen) (q : Option (Nat → Nat)) (hq : Hid (runF L (keptF L zeroF L.length) xs = q)) :
    Calls Try.prog 81 #[PgV h L, .slice A xs.length c] w fun e w' => e = .returned (.tuple #[.int .u64 (wordO q : Nat), .bool q.isSome]) ∧ Below w.heap.size w w' := by
  obtain ⟨h31, h32⟩ := prog_len hL
  unfold maxLen at hm
  obtain ⟨W, hW⟩ : ∃ W, W = w.alloc (.cells #[.slice h.A L.length h.c] 35) := ⟨_, rfl⟩
  have bW : Below w.heap.size w W := by rw [hW]; go_grown
  have KW := Lib.hid (show Bk W w.heap.size 35 #[.slice h.A L.length h.c] by rw [hW]; exact Bk.new _ _ _)
  have RW := Lib.hid (hR.below bW hB)
  have VW := Lib.hid (hV.below bW hB)
  have BW := Lib.hid bW
  have hBW : B ≤ W.heap.size := Nat.le_trans hB bW.size
  have HW := Lib.hid hW
  have I0 := Lib.hid (inv_beg hL)
  clear hW bW hR hV
  go_enter Try.func81, Try.ntmps81
  go_wp2_with fail
  rw [← HW.out]
  refine (begword_any h L W B RW.out hBW hL).mono ?_
  rintro e w1 ⟨rfl, hb1⟩
  have B1 := Lib.hid hb1
  clear hb1
  go_wp2
  go_loopw [6, 13] (fun x i wr => ∃ (k : Nat) (f : Nat → Nat), k ≤ xs.length ∧ i = .int .i64 k ∧ x = .int .u64 (enc WS f : Nat) ∧ Below W.heap.size W wr ∧ Hid (Inv L f) ∧ Hid (runF L f (xs.drop k) = q)) (fun _ i _ => xs.length - (intOf i).toNat)
  case atStart => exact ⟨0, keptF L zeroF L.length, Nat.zero_le _, rfl, rfl, B1.out, I0, hq⟩
  case round =>
    obtain ⟨k, f, hk, rfl, rfl, hbel, hI, hrest⟩ := hrel
    by_cases hlt : k < xs.length
    · obtain ⟨b, off, th, rfl, hb, hx, hd, hx0⟩ := (VW.out.below hbel hBW).int_ hlt
      have hz := hbel.size
      have hbox : wr.cell? ⟨w.heap.size, 0, none⟩ = some (.slice h.A L.length h.c) := (KW.out.below hbel KW.out.lt).cell 0
      have hlw := KW.out.lt
      have hbw : b < wr.heap.size := by omega
      have hwr : w.heap.size < wr.heap.size := by omega
      have hi2 : (k : Int) < (xs.length : Int) := by omega
      have Hd := Lib.hid hd
      have Hbel := Lib.hid hbel
      have RW' := Lib.hid (RW.out.below hbel hBW)
      clear hd hx hbel
      rcases Bool.eq_false_or_eq_true (goB L f th) with hg | hg
      · obtain ⟨t, rfl, ht, hc⟩ := goB_parts hg
        have HA := Lib.hid ((able_bits hI.out (t : Int)).trans hg)
        have HC := Lib.hid hc
        have Hn : Hid (runF L (stepF L f t) (xs.drop (k + 1)) = q) := Lib.hid (by
          have := hrest.out
          rw [Hd.out] at this
          unfold runF at this
          rw [if_pos hg] at this
          exact this)
        clear hg hc
        go_wp2_with fail
        refine (able_any h L f (t : Int) wr hI.out.good.ok h31 h32 true HA).mono ?_
        rintro e w2 ⟨rfl, hb2⟩
        have hbox2 : w2.cell? ⟨w.heap.size, 0, none⟩ = some (.slice h.A L.length h.c) := (hb2.cell (p := ⟨w.heap.size, 0, none⟩) hwr).trans hbox
        have hz2 := hb2.size
        have R2 := Lib.hid (RW'.out.below hb2 (by omega))
        have Hb2 := Lib.hid (below_on Hbel.out hb2)
        clear hb2 hbox hx0
        go_wp2_with fail
        refine (stepped_any h L f t w2 B R2.out (by omega) hL hI.out.good ht HC.out hI.out.chan).mono ?_
        rintro e w3 ⟨rfl, hb3⟩
        have Hb3 := Lib.hid (below_on Hb2.out hb3)
        clear hb3 hbox2
        go_wp2
        go_roundw
        case rel => exact ⟨k + 1, stepF L f t, by omega, by go_num, rfl, Hb3.out, Lib.hid (inv_step hL hI.out ht HC.out), Hn⟩
        case measure => simp [intOf]; omega
      · have HA := Lib.hid ((able_bits hI.out th).trans hg)
        have hq0 : q = none := by
          have := hrest.out
          rw [Hd.out] at this
          unfold runF at this
          rw [if_neg (by rw [hg]; simp)] at this
          exact this.symm
        subst hq0
        clear hg
        go_wp2_with fail
        refine (able_any h L f th wr hI.out.good.ok h31 h32 false HA).mono ?_
        rintro e w2 ⟨rfl, hb2⟩
        have Hb2 := Lib.hid (below_on BW.out (below_on Hbel.out hb2))
        clear hb2 hbox hx0
        go_wp2
        go_returns
        exact ⟨rfl, Hb2.out⟩
    · have hq0 : q = some f := by
        have := hrest.out
        rw [List.drop_eq_nil_of_le (by omega)] at this
        unfold runF at this
        exact this.symm
      subst hq0
      have hi2 : ¬ (k : Int) < (xs.length : Int) := by omega
      go_wp2
      go_returns
      exact ⟨rfl, below_on BW.out hbel⟩

/-- The state behind an order. -/
def playO (L : Pg) (xs : List Int) : Option (Nat → Nat) := if progB L then runF L (keptF L zeroF L.length) xs else none
def staO (L : Pg) : Option (Nat → Nat) → Sta
  | none => StaE
  | some f => staF L f
def playE (L : Pg) (xs : List Int) : Sta := staO L (playO L xs)
def playB (L : Pg) (xs : List Int) : Bool := (playO L xs).isSome

theorem iplay_any (h : PgH) (L : Pg) (k : IsH) (xs : List Int) (w : World) (B : Nat) (hP : PgR w B h L) (hV : IsR w B k xs) (hB : B ≤ w.heap.size) (SP : PgS L) (LS : IsS xs) :
    Calls Try.prog 28 #[PgV h L, IsV k xs] w (AnsSta w (playE L xs) (playB L xs)) := by
  have LP := PgS_L SP
  have hl := LP.l
  have hm := (IsS_L LS).l0
  obtain ⟨W, hW⟩ : ∃ W, W = (w.alloc (.cells #[.slice h.A L.length h.c] 35)).alloc (.cells #[.slice none 0 0, .slice none 0 0, .slice none 0 0, .slice none 0 0, .slice none 0 0] 30) := ⟨_, rfl⟩
  have bW : Below w.heap.size w W := by rw [hW]; go_grown
  have sW : W.heap.size = w.heap.size + 1 + 1 := by rw [hW]; simp
  have k0 : Bk W w.heap.size 35 #[.slice h.A L.length h.c] := by rw [hW]; exact (Bk.new w _ _).alloc _
  have k1 : Bk W (w.heap.size + 1) 30 #[.slice none 0 0, .slice none 0 0, .slice none 0 0, .slice none 0 0, .slice none 0 0] := by
    rw [hW]; have := Bk.new (w.alloc (.cells #[.slice h.A L.length h.c] 35)) #[.slice none 0 0, .slice none 0 0, .slice none 0 0, .slice none 0 0, .slice none 0 0] 30
    rwa [World.size_alloc] at this
  have P0 := Lib.hid (hP.below bW hB)
  have V0 := Lib.hid (hV.below bW hB)
  have K0 := Lib.hid k0
  have K1 := Lib.hid k1
  have BW := Lib.hid bW
  have sWa := Nat.le_of_eq sW
  have sWb := Nat.le_of_eq sW.symm
  have HW := Lib.hid hW
  have HM := Lib.hid hm
  clear k0 k1 bW sW hW hP hV hm
  have BW_ := BW
  have K0W := K0
  have K1W := K1
  have PW := P0
  have VW := V0
  clear K0 K1 P0 V0 BW_
  rcases Bool.eq_false_or_eq_true (progB L) with hp | hp
  rotate_left
  · have hO : playO L xs = none := by unfold playO; rw [hp]; rfl
    have hE : playE L xs = StaE := by unfold playE; rw [hO]; rfl
    have hQ : playB L xs = false := by unfold playB; rw [hO]; rfl
    rw [hE, hQ]
    have HP := Lib.hid hp
    clear hO hE hQ hp
    go_enter Try.func28, Try.ntmps28
    go_wp2_with fail
    rw [← HW.out]
    refine (iprog_any h.A L h.c W B PW.out (by omega) hl false HP).mono ?_
    rintro e w1 ⟨rfl, hb1⟩
    have B1 := Lib.hid (below_on BW.out hb1)
    have z1 := hb1.size
    have K01 := Lib.hid (K0W.out.below hb1 K0W.out.lt)
    have K11 := Lib.hid (K1W.out.below hb1 K1W.out.lt)
    have P1 := Lib.hid (PW.out.below hb1 (by omega))
    have V1 := Lib.hid (VW.out.below hb1 (by omega))
    clear hb1
    have cr0 : w1.cell? ⟨w.heap.size + 1, 0, none⟩ = some (.slice none 0 0) := K11.out.cell 0
    have fr0 : w1.frozen? ⟨w.heap.size + 1, 0, none⟩ = false := K11.out.free 0
    have cr1 : w1.cell? ⟨w.heap.size + 1, 1, none⟩ = some (.slice none 0 0) := K11.out.cell 1
    have fr1 : w1.frozen? ⟨w.heap.size + 1, 1, none⟩ = false := K11.out.free 1
    have cr2 : w1.cell? ⟨w.heap.size + 1, 2, none⟩ = some (.slice none 0 0) := K11.out.cell 2
    have fr2 : w1.frozen? ⟨w.heap.size + 1, 2, none⟩ = false := K11.out.free 2
    have cr3 : w1.cell? ⟨w.heap.size + 1, 3, none⟩ = some (.slice none 0 0) := K11.out.cell 3
    have fr3 : w1.frozen? ⟨w.heap.size + 1, 3, none⟩ = false := K11.out.free 3
    have cr4 : w1.cell? ⟨w.heap.size + 1, 4, none⟩ = some (.slice none 0 0) := K11.out.cell 4
    have fr4 : w1.frozen? ⟨w.heap.size + 1, 4, none⟩ = false := K11.out.free 4
    go_wp2
    clear cr0 fr0 cr1 fr1 cr2 fr2 cr3 fr3 cr4 fr4
    have kF : Bk (((((w1.setCell ⟨w.heap.size + 1, 0, none⟩ (.slice none 0 0)).setCell ⟨w.heap.size + 1, 1, none⟩ (.slice none 0 0)).setCell ⟨w.heap.size + 1, 2, none⟩ (.slice none 0 0)).setCell ⟨w.heap.size + 1, 3, none⟩ (.slice none 0 0)).setCell ⟨w.heap.size + 1, 4, none⟩ (.slice none 0 0)) (w.heap.size + 1) 30 #[.slice none 0 0, .slice none 0 0, .slice none 0 0, .slice none 0 0, .slice none 0 0] := by
      have a0 := K11.out
      have a1 := a0.set 0 (.slice none 0 0)
      have a2 := a1.set 1 (.slice none 0 0)
      have a3 := a2.set 2 (.slice none 0 0)
      have a4 := a3.set 3 (.slice none 0 0)
      have a5 := a4.set 4 (.slice none 0 0)
      simpa using a5
    have bF : Below w.heap.size w (((((w1.setCell ⟨w.heap.size + 1, 0, none⟩ (.slice none 0 0)).setCell ⟨w.heap.size + 1, 1, none⟩ (.slice none 0 0)).setCell ⟨w.heap.size + 1, 2, none⟩ (.slice none 0 0)).setCell ⟨w.heap.size + 1, 3, none⟩ (.slice none 0 0)).setCell ⟨w.heap.size + 1, 4, none⟩ (.slice none 0 0)) := (((((B1.out.setCell (p := ⟨w.heap.size + 1, 0, none⟩) (show w.heap.size ≤ w.heap.size + 1 by omega) _).setCell (p := ⟨w.heap.size + 1, 1, none⟩) (show w.heap.size ≤ w.heap.size + 1 by omega) _).setCell (p := ⟨w.heap.size + 1, 2, none⟩) (show w.heap.size ≤ w.heap.size + 1 by omega) _).setCell (p := ⟨w.heap.size + 1, 3, none⟩) (show w.heap.size ≤ w.heap.size + 1 by omega) _).setCell (p := ⟨w.heap.size + 1, 4, none⟩) (show w.heap.size ≤ w.heap.size + 1 by omega) _)
    have nF : ∀ q, w.heap.size + 1 < q → (((((w1.setCell ⟨w.heap.size + 1, 0, none⟩ (.slice none 0 0)).setCell ⟨w.heap.size + 1, 1, none⟩ (.slice none 0 0)).setCell ⟨w.heap.size + 1, 2, none⟩ (.slice none 0 0)).setCell ⟨w.heap.size + 1, 3, none⟩ (.slice none 0 0)).setCell ⟨w.heap.size + 1, 4, none⟩ (.slice none 0 0)).heap[q]? = w1.heap[q]? := fun q hq => (Below.heap_setCell _ _ _ q (by show q ≠ w.heap.size + 1; omega)).trans ((Below.heap_setCell _ _ _ q (by show q ≠ w.heap.size + 1; omega)).trans ((Below.heap_setCell _ _ _ q (by show q ≠ w.heap.size + 1; omega)).trans ((Below.heap_setCell _ _ _ q (by show q ≠ w.heap.size + 1; omega)).trans (Below.heap_setCell _ _ _ q (by show q ≠ w.heap.size + 1; omega)))))
    have zF : w1.heap.size ≤ (((((w1.setCell ⟨w.heap.size + 1, 0, none⟩ (.slice none 0 0)).setCell ⟨w.heap.size + 1, 1, none⟩ (.slice none 0 0)).setCell ⟨w.heap.size + 1, 2, none⟩ (.slice none 0 0)).setCell ⟨w.heap.size + 1, 3, none⟩ (.slice none 0 0)).setCell ⟨w.heap.size + 1, 4, none⟩ (.slice none 0 0)).heap.size := by simp
    have HF := Lib.hid kF
    have BF := Lib.hid bF
    have NF := Lib.hid nF
    obtain ⟨F, hF⟩ : ∃ F, F = (((((w1.setCell ⟨w.heap.size + 1, 0, none⟩ (.slice none 0 0)).setCell ⟨w.heap.size + 1, 1, none⟩ (.slice none 0 0)).setCell ⟨w.heap.size + 1, 2, none⟩ (.slice none 0 0)).setCell ⟨w.heap.size + 1, 3, none⟩ (.slice none 0 0)).setCell ⟨w.heap.size + 1, 4, none⟩ (.slice none 0 0)) := ⟨_, rfl⟩
    rw [← hF] at HF BF NF zF
    rw [← hF]
    clear kF bF nF hF
    have c0 := HF.out.cell 0
    have c1 := HF.out.cell 1
    have c2 := HF.out.cell 2
    have c3 := HF.out.cell 3
    have c4 := HF.out.cell 4
    simp only [List.getElem?_toArray, List.getElem?_cons_zero, List.getElem?_cons_succ] at c0 c1 c2 c3 c4
    refine bodyPost_ret (v := .tuple #[.agg #[.slice none 0 0, .slice none 0 0, .slice none 0 0, .slice none 0 0, .slice none 0 0], .bool false]) (by simp [results, Try.results28, c0, c1, c2, c3, c4, go_sem]) rfl ?_
    exact ⟨StaN, rfl, BF.out, by omega, StaO.none_ _ _ _ _⟩
  have HP := Lib.hid hp
  obtain ⟨q, hq⟩ : ∃ q, runF L (keptF L zeroF L.length) xs = q := ⟨_, rfl⟩
  have hO : playO L xs = q := by unfold playO; rw [hp, if_pos rfl]; exact hq
  have HQ := Lib.hid hq
  cases q with
  | none =>
    have hE : playE L xs = StaE := by unfold playE; rw [hO]; rfl
    have hB' : playB L xs = false := by unfold playB; rw [hO]; rfl
    rw [hE, hB']
    clear hO hE hB' hq
    go_enter Try.func28, Try.ntmps28
    go_wp2_with fail
    rw [← HW.out]
    refine (iprog_any h.A L h.c W B PW.out (by omega) hl true HP).mono ?_
    rintro e w1 ⟨rfl, hb1⟩
    have B1 := Lib.hid (below_on BW.out hb1)
    have z1 := hb1.size
    have K01 := Lib.hid (K0W.out.below hb1 K0W.out.lt)
    have K11 := Lib.hid (K1W.out.below hb1 K1W.out.lt)
    have P1 := Lib.hid (PW.out.below hb1 (by omega))
    have V1 := Lib.hid (VW.out.below hb1 (by omega))
    clear hb1
    have cb : w1.cell? ⟨w.heap.size, 0, none⟩ = some (.slice h.A L.length h.c) := K01.out.cell 0
    go_wp2_with fail
    clear cb
    refine (played_any h L k.A k.c xs w1 B P1.out V1.out.v (by omega) HP.out HM.out none HQ).mono ?_
    rintro e w2 ⟨rfl, hb2⟩
    have B2 := Lib.hid (below_on B1.out hb2)
    have z2 := hb2.size
    have K02 := Lib.hid (K01.out.below hb2 K01.out.lt)
    have K12 := Lib.hid (K11.out.below hb2 K11.out.lt)
    have P2 := Lib.hid (P1.out.below hb2 (by omega))
    have V2 := Lib.hid (V1.out.below hb2 (by omega))
    clear hb2
    simp only [wordO, Option.isSome]
    have cr0 : w2.cell? ⟨w.heap.size + 1, 0, none⟩ = some (.slice none 0 0) := K12.out.cell 0
    have fr0 : w2.frozen? ⟨w.heap.size + 1, 0, none⟩ = false := K12.out.free 0
    have cr1 : w2.cell? ⟨w.heap.size + 1, 1, none⟩ = some (.slice none 0 0) := K12.out.cell 1
    have fr1 : w2.frozen? ⟨w.heap.size + 1, 1, none⟩ = false := K12.out.free 1
    have cr2 : w2.cell? ⟨w.heap.size + 1, 2, none⟩ = some (.slice none 0 0) := K12.out.cell 2
    have fr2 : w2.frozen? ⟨w.heap.size + 1, 2, none⟩ = false := K12.out.free 2
    have cr3 : w2.cell? ⟨w.heap.size + 1, 3, none⟩ = some (.slice none 0 0) := K12.out.cell 3
    have fr3 : w2.frozen? ⟨w.heap.size + 1, 3, none⟩ = false := K12.out.free 3
    have cr4 : w2.cell? ⟨w.heap.size + 1, 4, none⟩ = some (.slice none 0 0) := K12.out.cell 4
    have fr4 : w2.frozen? ⟨w.heap.size + 1, 4, none⟩ = false := K12.out.free 4
    go_wp2
    clear cr0 fr0 cr1 fr1 cr2 fr2 cr3 fr3 cr4 fr4
    have kF : Bk (((((w2.setCell ⟨w.heap.size + 1, 0, none⟩ (.slice none 0 0)).setCell ⟨w.heap.size + 1, 1, none⟩ (.slice none 0 0)).setCell ⟨w.heap.size + 1, 2, none⟩ (.slice none 0 0)).setCell ⟨w.heap.size + 1, 3, none⟩ (.slice none 0 0)).setCell ⟨w.heap.size + 1, 4, none⟩ (.slice none 0 0)) (w.heap.size + 1) 30 #[.slice none 0 0, .slice none 0 0, .slice none 0 0, .slice none 0 0, .slice none 0 0] := by
      have a0 := K12.out
      have a1 := a0.set 0 (.slice none 0 0)
      have a2 := a1.set 1 (.slice none 0 0)
      have a3 := a2.set 2 (.slice none 0 0)
      have a4 := a3.set 3 (.slice none 0 0)
      have a5 := a4.set 4 (.slice none 0 0)
      simpa using a5
    have bF : Below w.heap.size w (((((w2.setCell ⟨w.heap.size + 1, 0, none⟩ (.slice none 0 0)).setCell ⟨w.heap.size + 1, 1, none⟩ (.slice none 0 0)).setCell ⟨w.heap.size + 1, 2, none⟩ (.slice none 0 0)).setCell ⟨w.heap.size + 1, 3, none⟩ (.slice none 0 0)).setCell ⟨w.heap.size + 1, 4, none⟩ (.slice none 0 0)) := (((((B2.out.setCell (p := ⟨w.heap.size + 1, 0, none⟩) (show w.heap.size ≤ w.heap.size + 1 by omega) _).setCell (p := ⟨w.heap.size + 1, 1, none⟩) (show w.heap.size ≤ w.heap.size + 1 by omega) _).setCell (p := ⟨w.heap.size + 1, 2, none⟩) (show w.heap.size ≤ w.heap.size + 1 by omega) _).setCell (p := ⟨w.heap.size + 1, 3, none⟩) (show w.heap.size ≤ w.heap.size + 1 by omega) _).setCell (p := ⟨w.heap.size + 1, 4, none⟩) (show w.heap.size ≤ w.heap.size + 1 by omega) _)
    have nF : ∀ q, w.heap.size + 1 < q → (((((w2.setCell ⟨w.heap.size + 1, 0, none⟩ (.slice none 0 0)).setCell ⟨w.heap.size + 1, 1, none⟩ (.slice none 0 0)).setCell ⟨w.heap.size + 1, 2, none⟩ (.slice none 0 0)).setCell ⟨w.heap.size + 1, 3, none⟩ (.slice none 0 0)).setCell ⟨w.heap.size + 1, 4, none⟩ (.slice none 0 0)).heap[q]? = w2.heap[q]? := fun q hq => (Below.heap_setCell _ _ _ q (by show q ≠ w.heap.size + 1; omega)).trans ((Below.heap_setCell _ _ _ q (by show q ≠ w.heap.size + 1; omega)).trans ((Below.heap_setCell _ _ _ q (by show q ≠ w.heap.size + 1; omega)).trans ((Below.heap_setCell _ _ _ q (by show q ≠ w.heap.size + 1; omega)).trans (Below.heap_setCell _ _ _ q (by show q ≠ w.heap.size + 1; omega)))))
    have zF : w2.heap.size ≤ (((((w2.setCell ⟨w.heap.size + 1, 0, none⟩ (.slice none 0 0)).setCell ⟨w.heap.size + 1, 1, none⟩ (.slice none 0 0)).setCell ⟨w.heap.size + 1, 2, none⟩ (.slice none 0 0)).setCell ⟨w.heap.size + 1, 3, none⟩ (.slice none 0 0)).setCell ⟨w.heap.size + 1, 4, none⟩ (.slice none 0 0)).heap.size := by simp
    have HF := Lib.hid kF
    have BF := Lib.hid bF
    have NF := Lib.hid nF
    obtain ⟨F, hF⟩ : ∃ F, F = (((((w2.setCell ⟨w.heap.size + 1, 0, none⟩ (.slice none 0 0)).setCell ⟨w.heap.size + 1, 1, none⟩ (.slice none 0 0)).setCell ⟨w.heap.size + 1, 2, none⟩ (.slice none 0 0)).setCell ⟨w.heap.size + 1, 3, none⟩ (.slice none 0 0)).setCell ⟨w.heap.size + 1, 4, none⟩ (.slice none 0 0)) := ⟨_, rfl⟩
    rw [← hF] at HF BF NF zF
    rw [← hF]
    clear kF bF nF hF
    have c0 := HF.out.cell 0
    have c1 := HF.out.cell 1
    have c2 := HF.out.cell 2
    have c3 := HF.out.cell 3
    have c4 := HF.out.cell 4
    simp only [List.getElem?_toArray, List.getElem?_cons_zero, List.getElem?_cons_succ] at c0 c1 c2 c3 c4
    refine bodyPost_ret (v := .tuple #[.agg #[.slice none 0 0, .slice none 0 0, .slice none 0 0, .slice none 0 0, .slice none 0 0], .bool false]) (by simp [results, Try.results28, c0, c1, c2, c3, c4, go_sem]) rfl ?_
    exact ⟨StaN, rfl, BF.out, by omega, StaO.none_ _ _ _ _⟩
  | some f =>
    have hE : playE L xs = staF L f := by unfold playE; rw [hO]; rfl
    have hB' : playB L xs = true := by unfold playB; rw [hO]; rfl
    rw [hE, hB']
    have HI := Lib.hid (runF_inv hp (inv_beg hp) hq)
    clear hO hE hB' hq
    go_enter Try.func28, Try.ntmps28
    go_wp2_with fail
    rw [← HW.out]
    refine (iprog_any h.A L h.c W B PW.out (by omega) hl true HP).mono ?_
    rintro e w1 ⟨rfl, hb1⟩
    have B1 := Lib.hid (below_on BW.out hb1)
    have z1 := hb1.size
    have K01 := Lib.hid (K0W.out.below hb1 K0W.out.lt)
    have K11 := Lib.hid (K1W.out.below hb1 K1W.out.lt)
    have P1 := Lib.hid (PW.out.below hb1 (by omega))
    have V1 := Lib.hid (VW.out.below hb1 (by omega))
    clear hb1
    have cb : w1.cell? ⟨w.heap.size, 0, none⟩ = some (.slice h.A L.length h.c) := K01.out.cell 0
    go_wp2_with fail
    clear cb
    refine (played_any h L k.A k.c xs w1 B P1.out V1.out.v (by omega) HP.out HM.out (some f) HQ).mono ?_
    rintro e w2 ⟨rfl, hb2⟩
    have B2 := Lib.hid (below_on B1.out hb2)
    have z2 := hb2.size
    have K02 := Lib.hid (K01.out.below hb2 K01.out.lt)
    have K12 := Lib.hid (K11.out.below hb2 K11.out.lt)
    have P2 := Lib.hid (P1.out.below hb2 (by omega))
    have V2 := Lib.hid (V1.out.below hb2 (by omega))
    clear hb2
    simp only [wordO, Option.isSome]
    have cb : w2.cell? ⟨w.heap.size, 0, none⟩ = some (.slice h.A L.length h.c) := K02.out.cell 0
    go_wp2_with fail
    clear cb
    refine (unpacked_any h L f w2 HP.out HI.out.good.ok).mono ?_
    rintro e w3 ⟨hu, rfl, hb3, hlt, ov⟩
    have Ov := Lib.hid ov
    clear ov
    have B3 := Lib.hid (below_on B2.out hb3)
    have z3 := hb3.size
    have K03 := Lib.hid (K02.out.below hb3 K02.out.lt)
    have K13 := Lib.hid (K12.out.below hb3 K12.out.lt)
    have P3 := Lib.hid (P2.out.below hb3 (by omega))
    have V3 := Lib.hid (V2.out.below hb3 (by omega))
    clear hb3
    have cr0 : w3.cell? ⟨w.heap.size + 1, 0, none⟩ = some (.slice none 0 0) := K13.out.cell 0
    have fr0 : w3.frozen? ⟨w.heap.size + 1, 0, none⟩ = false := K13.out.free 0
    have cr1 : w3.cell? ⟨w.heap.size + 1, 1, none⟩ = some (.slice none 0 0) := K13.out.cell 1
    have fr1 : w3.frozen? ⟨w.heap.size + 1, 1, none⟩ = false := K13.out.free 1
    have cr2 : w3.cell? ⟨w.heap.size + 1, 2, none⟩ = some (.slice none 0 0) := K13.out.cell 2
    have fr2 : w3.frozen? ⟨w.heap.size + 1, 2, none⟩ = false := K13.out.free 2
    have cr3 : w3.cell? ⟨w.heap.size + 1, 3, none⟩ = some (.slice none 0 0) := K13.out.cell 3
    have fr3 : w3.frozen? ⟨w.heap.size + 1, 3, none⟩ = false := K13.out.free 3
    have cr4 : w3.cell? ⟨w.heap.size + 1, 4, none⟩ = some (.slice none 0 0) := K13.out.cell 4
    have fr4 : w3.frozen? ⟨w.heap.size + 1, 4, none⟩ = false := K13.out.free 4
    go_wp2
    clear cr0 fr0 cr1 fr1 cr2 fr2 cr3 fr3 cr4 fr4
    have kF : Bk (((((w3.setCell ⟨w.heap.size + 1, 0, none⟩ (.slice hu.A0 (staF L f).f0.length hu.c0)).setCell ⟨w.heap.size + 1, 1, none⟩ (.slice hu.A1 (staF L f).f1.length hu.c1)).setCell ⟨w.heap.size + 1, 2, none⟩ (.slice hu.A2 (staF L f).f2.length hu.c2)).setCell ⟨w.heap.size + 1, 3, none⟩ (.slice hu.A3 (staF L f).f3.length hu.c3)).setCell ⟨w.heap.size + 1, 4, none⟩ (.slice hu.A4 (staF L f).f4.length hu.c4)) (w.heap.size + 1) 30 #[.slice hu.A0 (staF L f).f0.length hu.c0, .slice hu.A1 (staF L f).f1.length hu.c1, .slice hu.A2 (staF L f).f2.length hu.c2, .slice hu.A3 (staF L f).f3.length hu.c3, .slice hu.A4 (staF L f).f4.length hu.c4] := by
      have a0 := K13.out
      have a1 := a0.set 0 (.slice hu.A0 (staF L f).f0.length hu.c0)
      have a2 := a1.set 1 (.slice hu.A1 (staF L f).f1.length hu.c1)
      have a3 := a2.set 2 (.slice hu.A2 (staF L f).f2.length hu.c2)
      have a4 := a3.set 3 (.slice hu.A3 (staF L f).f3.length hu.c3)
      have a5 := a4.set 4 (.slice hu.A4 (staF L f).f4.length hu.c4)
      simpa using a5
    have bF : Below w.heap.size w (((((w3.setCell ⟨w.heap.size + 1, 0, none⟩ (.slice hu.A0 (staF L f).f0.length hu.c0)).setCell ⟨w.heap.size + 1, 1, none⟩ (.slice hu.A1 (staF L f).f1.length hu.c1)).setCell ⟨w.heap.size + 1, 2, none⟩ (.slice hu.A2 (staF L f).f2.length hu.c2)).setCell ⟨w.heap.size + 1, 3, none⟩ (.slice hu.A3 (staF L f).f3.length hu.c3)).setCell ⟨w.heap.size + 1, 4, none⟩ (.slice hu.A4 (staF L f).f4.length hu.c4)) := (((((B3.out.setCell (p := ⟨w.heap.size + 1, 0, none⟩) (show w.heap.size ≤ w.heap.size + 1 by omega) _).setCell (p := ⟨w.heap.size + 1, 1, none⟩) (show w.heap.size ≤ w.heap.size + 1 by omega) _).setCell (p := ⟨w.heap.size + 1, 2, none⟩) (show w.heap.size ≤ w.heap.size + 1 by omega) _).setCell (p := ⟨w.heap.size + 1, 3, none⟩) (show w.heap.size ≤ w.heap.size + 1 by omega) _).setCell (p := ⟨w.heap.size + 1, 4, none⟩) (show w.heap.size ≤ w.heap.size + 1 by omega) _)
    have nF : ∀ q, w.heap.size + 1 < q → (((((w3.setCell ⟨w.heap.size + 1, 0, none⟩ (.slice hu.A0 (staF L f).f0.length hu.c0)).setCell ⟨w.heap.size + 1, 1, none⟩ (.slice hu.A1 (staF L f).f1.length hu.c1)).setCell ⟨w.heap.size + 1, 2, none⟩ (.slice hu.A2 (staF L f).f2.length hu.c2)).setCell ⟨w.heap.size + 1, 3, none⟩ (.slice hu.A3 (staF L f).f3.length hu.c3)).setCell ⟨w.heap.size + 1, 4, none⟩ (.slice hu.A4 (staF L f).f4.length hu.c4)).heap[q]? = w3.heap[q]? := fun q hq => (Below.heap_setCell _ _ _ q (by show q ≠ w.heap.size + 1; omega)).trans ((Below.heap_setCell _ _ _ q (by show q ≠ w.heap.size + 1; omega)).trans ((Below.heap_setCell _ _ _ q (by show q ≠ w.heap.size + 1; omega)).trans ((Below.heap_setCell _ _ _ q (by show q ≠ w.heap.size + 1; omega)).trans (Below.heap_setCell _ _ _ q (by show q ≠ w.heap.size + 1; omega)))))
    have zF : w3.heap.size ≤ (((((w3.setCell ⟨w.heap.size + 1, 0, none⟩ (.slice hu.A0 (staF L f).f0.length hu.c0)).setCell ⟨w.heap.size + 1, 1, none⟩ (.slice hu.A1 (staF L f).f1.length hu.c1)).setCell ⟨w.heap.size + 1, 2, none⟩ (.slice hu.A2 (staF L f).f2.length hu.c2)).setCell ⟨w.heap.size + 1, 3, none⟩ (.slice hu.A3 (staF L f).f3.length hu.c3)).setCell ⟨w.heap.size + 1, 4, none⟩ (.slice hu.A4 (staF L f).f4.length hu.c4)).heap.size := by simp
    have HF := Lib.hid kF
    have BF := Lib.hid bF
    have NF := Lib.hid nF
    obtain ⟨F, hF⟩ : ∃ F, F = (((((w3.setCell ⟨w.heap.size + 1, 0, none⟩ (.slice hu.A0 (staF L f).f0.length hu.c0)).setCell ⟨w.heap.size + 1, 1, none⟩ (.slice hu.A1 (staF L f).f1.length hu.c1)).setCell ⟨w.heap.size + 1, 2, none⟩ (.slice hu.A2 (staF L f).f2.length hu.c2)).setCell ⟨w.heap.size + 1, 3, none⟩ (.slice hu.A3 (staF L f).f3.length hu.c3)).setCell ⟨w.heap.size + 1, 4, none⟩ (.slice hu.A4 (staF L f).f4.length hu.c4)) := ⟨_, rfl⟩
    rw [← hF] at HF BF NF zF
    rw [← hF]
    clear kF bF nF hF
    have c0 := HF.out.cell 0
    have c1 := HF.out.cell 1
    have c2 := HF.out.cell 2
    have c3 := HF.out.cell 3
    have c4 := HF.out.cell 4
    simp only [List.getElem?_toArray, List.getElem?_cons_zero, List.getElem?_cons_succ] at c0 c1 c2 c3 c4
    refine bodyPost_ret (v := .tuple #[.agg #[.slice hu.A0 (staF L f).f0.length hu.c0, .slice hu.A1 (staF L f).f1.length hu.c1, .slice hu.A2 (staF L f).f2.length hu.c2, .slice hu.A3 (staF L f).f3.length hu.c3, .slice hu.A4 (staF L f).f4.length hu.c4], .bool true]) (by simp [results, Try.results28, c0, c1, c2, c3, c4, go_sem]) rfl ?_
    exact ⟨hu, rfl, BF.out, by omega, Ov.out.keep (by omega) zF fun q h1 h2 => NF.out q (by omega)⟩
end Go.Proofs.Ytmnpndmjheippaa
namespace Go.Proofs.Ytmnpndmjheippaa
open Go.RowKit Pl Go.BigFrame
set_option maxHeartbeats 8000000
set_option maxRecDepth 100000
set_option linter.unusedVariables false

theorem splay_any (h : PgH) (L : Pg) (k : IsH) (xs : List Int) (w : World) (B : Nat) (hP : PgR w B h L) (hV : IsR w B k xs) (hB : B ≤ w.heap.size) (SP : PgS L) (LS : IsS xs) :
    Calls Try.prog 26 #[PgV h L, IsV k xs] w (AnsISta w (playE L xs) (playB L xs)) := by
  have hm := (IsS_L LS).l0
  unfold maxLen at hm
  obtain ⟨A, c⟩ := k
  show Calls Try.prog 26 #[PgV h L, .slice A xs.length c] w (AnsISta w (playE L xs) (playB L xs))
  obtain ⟨W, hW⟩ : ∃ W, W = (w.alloc (.cells #[.slice h.A L.length h.c] 35)).alloc (.cells #[.slice none 0 0, .slice none 0 0, .slice none 0 0, .slice none 0 0, .slice none 0 0] 30) := ⟨_, rfl⟩
  have bW : Below w.heap.size w W := by rw [hW]; go_grown
  have sW : W.heap.size = w.heap.size + 1 + 1 := by rw [hW]; simp
  have k0 : Bk W w.heap.size 35 #[.slice h.A L.length h.c] := by rw [hW]; exact (Bk.new w _ _).alloc _
  have k1 : Bk W (w.heap.size + 1) 30 #[.slice none 0 0, .slice none 0 0, .slice none 0 0, .slice none 0 0, .slice none 0 0] := by
    rw [hW]; have := Bk.new (w.alloc (.cells #[.slice h.A L.length h.c] 35)) #[.slice none 0 0, .slice none 0 0, .slice none 0 0, .slice none 0 0, .slice none 0 0] 30
    rwa [World.size_alloc] at this
  have PW := Lib.hid (hP.below bW hB)
  have VW := Lib.hid (hV.below bW hB)
  have K0W := Lib.hid k0
  have K1W := Lib.hid k1
  have BW := Lib.hid bW
  have sWa := Nat.le_of_eq sW
  have sWb := Nat.le_of_eq sW.symm
  have HW := Lib.hid hW
  clear k0 k1 bW sW hW hP hV
  rcases Bool.eq_false_or_eq_true (progB L) with hp | hp
  rotate_left
  · have hO : playO L xs = none := by unfold playO; rw [hp]; rfl
    have hE : playE L xs = StaE := by unfold playE; rw [hO]; rfl
    have hQ : playB L xs = false := by unfold playB; rw [hO]; rfl
    rw [hE, hQ]
    have HP := Lib.hid hp
    clear hO hE hQ hp
    go_enter Try.func26, Try.ntmps26
    go_wp2_with fail
    rw [← HW.out]
    refine (sprog_any h.A L h.c W B PW.out (by omega) SP.l (Lib.hid SP.e) false HP).mono ?_
    rintro e w1 ⟨rfl, hb1⟩
    have B1 := Lib.hid (below_on BW.out hb1)
    have z1 := hb1.size
    have K01 := Lib.hid (K0W.out.below hb1 K0W.out.lt)
    have K11 := Lib.hid (K1W.out.below hb1 K1W.out.lt)
    have P1 := Lib.hid (PW.out.below hb1 (by omega))
    have V1 := Lib.hid (VW.out.below hb1 (by omega))
    clear hb1
    have cr0 : w1.cell? ⟨w.heap.size + 1, 0, none⟩ = some (.slice none 0 0) := K11.out.cell 0
    have fr0 : w1.frozen? ⟨w.heap.size + 1, 0, none⟩ = false := K11.out.free 0
    have cr1 : w1.cell? ⟨w.heap.size + 1, 1, none⟩ = some (.slice none 0 0) := K11.out.cell 1
    have fr1 : w1.frozen? ⟨w.heap.size + 1, 1, none⟩ = false := K11.out.free 1
    have cr2 : w1.cell? ⟨w.heap.size + 1, 2, none⟩ = some (.slice none 0 0) := K11.out.cell 2
    have fr2 : w1.frozen? ⟨w.heap.size + 1, 2, none⟩ = false := K11.out.free 2
    have cr3 : w1.cell? ⟨w.heap.size + 1, 3, none⟩ = some (.slice none 0 0) := K11.out.cell 3
    have fr3 : w1.frozen? ⟨w.heap.size + 1, 3, none⟩ = false := K11.out.free 3
    have cr4 : w1.cell? ⟨w.heap.size + 1, 4, none⟩ = some (.slice none 0 0) := K11.out.cell 4
    have fr4 : w1.frozen? ⟨w.heap.size + 1, 4, none⟩ = false := K11.out.free 4
    go_wp2
    clear cr0 fr0 cr1 fr1 cr2 fr2 cr3 fr3 cr4 fr4
    have kF : Bk (((((w1.setCell ⟨w.heap.size + 1, 0, none⟩ (.slice none 0 0)).setCell ⟨w.heap.size + 1, 1, none⟩ (.slice none 0 0)).setCell ⟨w.heap.size + 1, 2, none⟩ (.slice none 0 0)).setCell ⟨w.heap.size + 1, 3, none⟩ (.slice none 0 0)).setCell ⟨w.heap.size + 1, 4, none⟩ (.slice none 0 0)) (w.heap.size + 1) 30 #[.slice none 0 0, .slice none 0 0, .slice none 0 0, .slice none 0 0, .slice none 0 0] := by
      have a0 := K11.out
      have a1 := a0.set 0 (.slice none 0 0)
      have a2 := a1.set 1 (.slice none 0 0)
      have a3 := a2.set 2 (.slice none 0 0)
      have a4 := a3.set 3 (.slice none 0 0)
      have a5 := a4.set 4 (.slice none 0 0)
      simpa using a5
    have bF : Below w.heap.size w (((((w1.setCell ⟨w.heap.size + 1, 0, none⟩ (.slice none 0 0)).setCell ⟨w.heap.size + 1, 1, none⟩ (.slice none 0 0)).setCell ⟨w.heap.size + 1, 2, none⟩ (.slice none 0 0)).setCell ⟨w.heap.size + 1, 3, none⟩ (.slice none 0 0)).setCell ⟨w.heap.size + 1, 4, none⟩ (.slice none 0 0)) := (((((B1.out.setCell (p := ⟨w.heap.size + 1, 0, none⟩) (show w.heap.size ≤ w.heap.size + 1 by omega) _).setCell (p := ⟨w.heap.size + 1, 1, none⟩) (show w.heap.size ≤ w.heap.size + 1 by omega) _).setCell (p := ⟨w.heap.size + 1, 2, none⟩) (show w.heap.size ≤ w.heap.size + 1 by omega) _).setCell (p := ⟨w.heap.size + 1, 3, none⟩) (show w.heap.size ≤ w.heap.size + 1 by omega) _).setCell (p := ⟨w.heap.size + 1, 4, none⟩) (show w.heap.size ≤ w.heap.size + 1 by omega) _)
    have nF : ∀ q, w.heap.size + 1 < q → (((((w1.setCell ⟨w.heap.size + 1, 0, none⟩ (.slice none 0 0)).setCell ⟨w.heap.size + 1, 1, none⟩ (.slice none 0 0)).setCell ⟨w.heap.size + 1, 2, none⟩ (.slice none 0 0)).setCell ⟨w.heap.size + 1, 3, none⟩ (.slice none 0 0)).setCell ⟨w.heap.size + 1, 4, none⟩ (.slice none 0 0)).heap[q]? = w1.heap[q]? := fun q hq => (Below.heap_setCell _ _ _ q (by show q ≠ w.heap.size + 1; omega)).trans ((Below.heap_setCell _ _ _ q (by show q ≠ w.heap.size + 1; omega)).trans ((Below.heap_setCell _ _ _ q (by show q ≠ w.heap.size + 1; omega)).trans ((Below.heap_setCell _ _ _ q (by show q ≠ w.heap.size + 1; omega)).trans (Below.heap_setCell _ _ _ q (by show q ≠ w.heap.size + 1; omega)))))
    have zF : w1.heap.size ≤ (((((w1.setCell ⟨w.heap.size + 1, 0, none⟩ (.slice none 0 0)).setCell ⟨w.heap.size + 1, 1, none⟩ (.slice none 0 0)).setCell ⟨w.heap.size + 1, 2, none⟩ (.slice none 0 0)).setCell ⟨w.heap.size + 1, 3, none⟩ (.slice none 0 0)).setCell ⟨w.heap.size + 1, 4, none⟩ (.slice none 0 0)).heap.size := by simp
    have HF := Lib.hid kF
    have BF := Lib.hid bF
    have NF := Lib.hid nF
    obtain ⟨F, hF⟩ : ∃ F, F = (((((w1.setCell ⟨w.heap.size + 1, 0, none⟩ (.slice none 0 0)).setCell ⟨w.heap.size + 1, 1, none⟩ (.slice none 0 0)).setCell ⟨w.heap.size + 1, 2, none⟩ (.slice none 0 0)).setCell ⟨w.heap.size + 1, 3, none⟩ (.slice none 0 0)).setCell ⟨w.heap.size + 1, 4, none⟩ (.slice none 0 0)) := ⟨_, rfl⟩
    rw [← hF] at HF BF NF zF
    rw [← hF]
    clear kF bF nF hF
    have c0 := HF.out.cell 0
    have c1 := HF.out.cell 1
    have c2 := HF.out.cell 2
    have c3 := HF.out.cell 3
    have c4 := HF.out.cell 4
    simp only [List.getElem?_toArray, List.getElem?_cons_zero, List.getElem?_cons_succ] at c0 c1 c2 c3 c4
    refine bodyPost_ret (v := .tuple #[.agg #[.slice none 0 0, .slice none 0 0, .slice none 0 0, .slice none 0 0, .slice none 0 0], .bool false]) (by simp [results, Try.results26, c0, c1, c2, c3, c4, go_sem]) rfl ?_
    exact ⟨StaN, rfl, BF.out, by omega, StaI.none_ _ _ _ _⟩
  obtain ⟨h31, h32⟩ := prog_len hp
  obtain ⟨q, hq⟩ : ∃ q, runF L (keptF L zeroF L.length) xs = q := ⟨_, rfl⟩
  have hO : playO L xs = q := by unfold playO; rw [hp, if_pos rfl]; exact hq
  have hE : playE L xs = staO L q := by unfold playE; rw [hO]
  have hQ : playB L xs = q.isSome := by unfold playB; rw [hO]
  rw [hE, hQ]
  have HQ := Lib.hid hq
  have HP := Lib.hid hp
  have I0 := Lib.hid (inv_beg hp)
  clear hO hE hQ hq hp
  go_enter Try.func26, Try.ntmps26
  go_wp2_with fail
  rw [← HW.out]
  refine (sprog_any h.A L h.c W B PW.out (by omega) SP.l (Lib.hid SP.e) true HP).mono ?_
  rintro e w1 ⟨rfl, hb1⟩
  have B1 := Lib.hid (below_on BW.out hb1)
  have z1 := hb1.size
  have K01 := Lib.hid (K0W.out.below hb1 K0W.out.lt)
  have K11 := Lib.hid (K1W.out.below hb1 K1W.out.lt)
  have P1 := Lib.hid (PW.out.below hb1 (by omega))
  have V1 := Lib.hid (VW.out.below hb1 (by omega))
  clear hb1
  have cb : w1.cell? ⟨w.heap.size, 0, none⟩ = some (.slice h.A L.length h.c) := K01.out.cell 0
  go_wp2_with fail
  clear cb
  refine (sbegin0_any h L w1 h31 h32).mono ?_
  rintro e w2 ⟨hs, rfl, hb2, hz2, oi⟩
  rw [← staF_beg L h32] at oi ⊢
  have OI := Lib.hid oi
  clear oi
  have B2 := Lib.hid (below_on B1.out hb2)
  have z2 := hb2.size
  have K02 := Lib.hid (K01.out.below hb2 K01.out.lt)
  have K12 := Lib.hid (K11.out.below hb2 K11.out.lt)
  have P2 := Lib.hid (P1.out.below hb2 (by omega))
  have V2 := Lib.hid (V1.out.below hb2 (by omega))
  clear hb2
  go_wp2
  obtain ⟨V, hV⟩ : ∃ V, V = w2.alloc (.cells #[.slice hs.A0 (staF L (keptF L zeroF L.length)).f0.length hs.c0, .slice hs.A1 (staF L (keptF L zeroF L.length)).f1.length hs.c1, .slice hs.A2 (staF L (keptF L zeroF L.length)).f2.length hs.c2, .slice hs.A3 (staF L (keptF L zeroF L.length)).f3.length hs.c3, .slice hs.A4 (staF L (keptF L zeroF L.length)).f4.length hs.c4] 30) := ⟨_, rfl⟩
  rw [← hV]
  have bV : Below w2.heap.size w2 V := by rw [hV]; go_grown
  have kV : Bk V w2.heap.size 30 #[.slice hs.A0 (staF L (keptF L zeroF L.length)).f0.length hs.c0, .slice hs.A1 (staF L (keptF L zeroF L.length)).f1.length hs.c1, .slice hs.A2 (staF L (keptF L zeroF L.length)).f2.length hs.c2, .slice hs.A3 (staF L (keptF L zeroF L.length)).f3.length hs.c3, .slice hs.A4 (staF L (keptF L zeroF L.length)).f4.length hs.c4] := by rw [hV]; exact Bk.new _ _ _
  have zV : V.heap.size = w2.heap.size + 1 := by rw [hV]; simp
  have OIV := OI.out.below bV (Nat.le_refl _)
  clear hV
  go_loopw [7] (fun i wr => ∃ (n : Nat) (f : Nat → Nat) (hk : StaH) (lo hi : Nat), n ≤ xs.length ∧ i = .int .i64 n ∧ Below w2.heap.size w2 wr ∧ Bk wr w2.heap.size 30 #[.slice hk.A0 (staF L f).f0.length hk.c0, .slice hk.A1 (staF L f).f1.length hk.c1, .slice hk.A2 (staF L f).f2.length hk.c2, .slice hk.A3 (staF L f).f3.length hk.c3, .slice hk.A4 (staF L f).f4.length hk.c4] ∧ StaI wr lo hi hk (staF L f) ∧ w.heap.size + 1 < lo ∧ lo ≤ hi ∧ hi ≤ wr.heap.size ∧ (hi ≤ w2.heap.size ∨ w2.heap.size < lo) ∧ Hid (Inv L f) ∧ Hid (runF L f (xs.drop n) = q)) (fun i _ => xs.length - (intOf i).toNat)
  case atStart => exact ⟨0, keptF L zeroF L.length, hs, w1.heap.size, w2.heap.size, Nat.zero_le _, rfl, bV, kV, OIV, by omega, by omega, by omega, Or.inl (Nat.le_refl _), I0, HQ⟩
  case round =>
    obtain ⟨n, f, hk, lo, hi, hn, rfl, hbel, hkS, hoi, hlo, hlh, hhi, hap, hI, hrest⟩ := hrel
    have hzr := hbel.size
    have KS := Lib.hid hkS
    have OS := Lib.hid hoi
    have K0R := Lib.hid (K02.out.below hbel K02.out.lt)
    have K1R := Lib.hid (K12.out.below hbel K12.out.lt)
    have PR := Lib.hid (P2.out.below hbel (by omega))
    have VR := Lib.hid (V2.out.below hbel (by omega))
    have BR := Lib.hid (below_on B2.out hbel)
    have HB := Lib.hid hbel
    have l0 := KS.out.lt
    have l1 := K0R.out.lt
    clear hkS hoi hbel bV kV zV OIV OI
    by_cases hlt : n < xs.length
    · obtain ⟨b, off, th, hA, hb, hx, hd, hx0⟩ := VR.out.v.int_ hlt
      simp only at hA
      subst hA
      have hbr : b < wr.heap.size := by omega
      have hi2 : (n : Int) < (xs.length : Int) := by omega
      have Hd := Lib.hid hd
      clear hd hx
      obtain ⟨g, hg⟩ : ∃ g, goB L f th = g := ⟨_, rfl⟩
      have HG := Lib.hid hg
      obtain ⟨E, hE⟩ : ∃ E, doB L (staF L f) th = E := ⟨_, rfl⟩
      have HE := Lib.hid hE
      have hct := fun (V' : World) (B' : Nat) (r0 : PgR V' B' h L) (r1 : StaR V' B' hk (staF L f)) (hB' : B' ≤ V'.heap.size) => spdo_any h L hk (staF L f) th V' B' r0 r1 hB' SP (staF_S L f h32)
      rw [can_sta HP.out hI.out, hg, hE] at hct
      have Hct := Lib.hid hct
      clear hct hg hE
      have allS : ∀ w', Below wr.heap.size wr w' → (Below wr.heap.size wr w' ∧ w'.cell? ⟨w.heap.size, 0, none⟩ = some (.slice h.A L.length h.c) ∧ w'.cell? ⟨w2.heap.size, 0, none⟩ = some (.slice hk.A0 (staF L f).f0.length hk.c0) ∧ w'.cell? ⟨w2.heap.size, 1, none⟩ = some (.slice hk.A1 (staF L f).f1.length hk.c1) ∧ w'.cell? ⟨w2.heap.size, 2, none⟩ = some (.slice hk.A2 (staF L f).f2.length hk.c2) ∧ w'.cell? ⟨w2.heap.size, 3, none⟩ = some (.slice hk.A3 (staF L f).f3.length hk.c3) ∧ w'.cell? ⟨w2.heap.size, 4, none⟩ = some (.slice hk.A4 (staF L f).f4.length hk.c4) ∧ w'.cell? ⟨b, off + n, none⟩ = some (.int .i64 th)) := fun w' hb' => ⟨hb', (K0R.out.below hb' K0R.out.lt).cell 0, (KS.out.below hb' KS.out.lt).cell 0, (KS.out.below hb' KS.out.lt).cell 1, (KS.out.below hb' KS.out.lt).cell 2, (KS.out.below hb' KS.out.lt).cell 3, (KS.out.below hb' KS.out.lt).cell 4, (hb'.cell (p := ⟨b, off + n, none⟩) hbr).trans hx0⟩
      have AllS := Lib.hid allS
      clear allS
      have c_p : wr.cell? ⟨w.heap.size, 0, none⟩ = some (.slice h.A L.length h.c) := K0R.out.cell 0
      have c_s0 : wr.cell? ⟨w2.heap.size, 0, none⟩ = some (.slice hk.A0 (staF L f).f0.length hk.c0) := KS.out.cell 0
      have c_s1 : wr.cell? ⟨w2.heap.size, 1, none⟩ = some (.slice hk.A1 (staF L f).f1.length hk.c1) := KS.out.cell 1
      have c_s2 : wr.cell? ⟨w2.heap.size, 2, none⟩ = some (.slice hk.A2 (staF L f).f2.length hk.c2) := KS.out.cell 2
      have c_s3 : wr.cell? ⟨w2.heap.size, 3, none⟩ = some (.slice hk.A3 (staF L f).f3.length hk.c3) := KS.out.cell 3
      have c_s4 : wr.cell? ⟨w2.heap.size, 4, none⟩ = some (.slice hk.A4 (staF L f).f4.length hk.c4) := KS.out.cell 4
      go_upto_region 7 with (fail)
      go_cut [8, 9] (fun sa sb wx => GotOSta wr E g sa sb wx)
      case first =>
        go_region_held3 (fun w' => Below wr.heap.size wr w' ∧ w'.cell? ⟨w.heap.size, 0, none⟩ = some (.slice h.A L.length h.c) ∧ w'.cell? ⟨w2.heap.size, 0, none⟩ = some (.slice hk.A0 (staF L f).f0.length hk.c0) ∧ w'.cell? ⟨w2.heap.size, 1, none⟩ = some (.slice hk.A1 (staF L f).f1.length hk.c1) ∧ w'.cell? ⟨w2.heap.size, 2, none⟩ = some (.slice hk.A2 (staF L f).f2.length hk.c2) ∧ w'.cell? ⟨w2.heap.size, 3, none⟩ = some (.slice hk.A3 (staF L f).f3.length hk.c3) ∧ w'.cell? ⟨w2.heap.size, 4, none⟩ = some (.slice hk.A4 (staF L f).f4.length hk.c4) ∧ w'.cell? ⟨b, off + n, none⟩ = some (.int .i64 th)) (first | (go_split_ands; exact AllS.out _ (by go_grown)) | (exact AllS.out _ (by go_grown))) (first | (go_at_call 17; go_split_ands; refine (Hct.out _ wr.heap.size (PR.out.up (show Below wr.heap.size wr _ from by go_grown) (by omega) (by omega)) (OS.out.rd.up (show Below wr.heap.size wr _ from by go_grown) (by omega) (by omega)) (show Below wr.heap.size wr _ from by go_grown).size).mono ?_; rintro e vs ⟨hans, rfl, hvs, -, ivs⟩; obtain ⟨hccs, hffs⟩ := bcell hvs; have Iv := Lib.hid ivs; have hBvs : Below wr.heap.size wr vs := below_on (by go_grown) hvs; have hzvs := hvs.size; (try simp at hzvs); have hyvs := hBvs.size; (try (have hsvs : wr.heap.size < vs.heap.size := (by omega))); have kvs := Lib.hid hvs; clear ivs hvs))
        all_goals go_wp2_with fail
        all_goals go_meet
        · refine gotOSta_late ?_ kvs.out Iv.out
          go_grown
        · refine gotOSta_early ?_ (bk_drew (Bk.new wr #[.slice none 0 0, .slice none 0 0, .slice none 0 0, .slice none 0 0, .slice none 0 0] 30)) (Nat.le_refl _) kvs.out Iv.out
          go_grown
      clear AllS Hct c_p c_s0 c_s1 c_s2 c_s3 c_s4 hx0
      obtain ⟨bb, hn', lo', hi', rfl, rfl, hby, hky, hiy, i1, i2, i3, i4, i5, i6⟩ := hcut
      obtain ⟨y, rfl⟩ : ∃ V, V = wc := ⟨_, rfl⟩
      have zy := hby.size
      have HBY := Lib.hid (below_on HB.out hby)
      have K1Y := Lib.hid (K1R.out.below hby K1R.out.lt)
      have KSY := Lib.hid (KS.out.below hby KS.out.lt)
      have BY := Lib.hid (below_on BR.out hby)
      have KY := Lib.hid hky
      have OY := Lib.hid hiy.in_
      clear hby hky hiy
      have HES := HE.out
      rw [do_sta HP.out hI.out, HG.out] at HES
      cases g with
      | false =>
        have hq0 : q = none := by
          have := hrest.out
          rw [Hd.out] at this
          unfold runF at this
          rw [HG.out] at this
          exact this.symm
        subst hq0
        have cr0 : y.cell? ⟨w.heap.size + 1, 0, none⟩ = some (.slice none 0 0) := K1Y.out.cell 0
        have fr0 : y.frozen? ⟨w.heap.size + 1, 0, none⟩ = false := K1Y.out.free 0
        have cr1 : y.cell? ⟨w.heap.size + 1, 1, none⟩ = some (.slice none 0 0) := K1Y.out.cell 1
        have fr1 : y.frozen? ⟨w.heap.size + 1, 1, none⟩ = false := K1Y.out.free 1
        have cr2 : y.cell? ⟨w.heap.size + 1, 2, none⟩ = some (.slice none 0 0) := K1Y.out.cell 2
        have fr2 : y.frozen? ⟨w.heap.size + 1, 2, none⟩ = false := K1Y.out.free 2
        have cr3 : y.cell? ⟨w.heap.size + 1, 3, none⟩ = some (.slice none 0 0) := K1Y.out.cell 3
        have fr3 : y.frozen? ⟨w.heap.size + 1, 3, none⟩ = false := K1Y.out.free 3
        have cr4 : y.cell? ⟨w.heap.size + 1, 4, none⟩ = some (.slice none 0 0) := K1Y.out.cell 4
        have fr4 : y.frozen? ⟨w.heap.size + 1, 4, none⟩ = false := K1Y.out.free 4
        go_wp2
        clear cr0 fr0 cr1 fr1 cr2 fr2 cr3 fr3 cr4 fr4
        have kF : Bk (((((y.setCell ⟨w.heap.size + 1, 0, none⟩ (.slice none 0 0)).setCell ⟨w.heap.size + 1, 1, none⟩ (.slice none 0 0)).setCell ⟨w.heap.size + 1, 2, none⟩ (.slice none 0 0)).setCell ⟨w.heap.size + 1, 3, none⟩ (.slice none 0 0)).setCell ⟨w.heap.size + 1, 4, none⟩ (.slice none 0 0)) (w.heap.size + 1) 30 #[.slice none 0 0, .slice none 0 0, .slice none 0 0, .slice none 0 0, .slice none 0 0] := by
          have a0 := K1Y.out
          have a1 := a0.set 0 (.slice none 0 0)
          have a2 := a1.set 1 (.slice none 0 0)
          have a3 := a2.set 2 (.slice none 0 0)
          have a4 := a3.set 3 (.slice none 0 0)
          have a5 := a4.set 4 (.slice none 0 0)
          simpa using a5
        have bF : Below w.heap.size w (((((y.setCell ⟨w.heap.size + 1, 0, none⟩ (.slice none 0 0)).setCell ⟨w.heap.size + 1, 1, none⟩ (.slice none 0 0)).setCell ⟨w.heap.size + 1, 2, none⟩ (.slice none 0 0)).setCell ⟨w.heap.size + 1, 3, none⟩ (.slice none 0 0)).setCell ⟨w.heap.size + 1, 4, none⟩ (.slice none 0 0)) := (((((BY.out.setCell (p := ⟨w.heap.size + 1, 0, none⟩) (show w.heap.size ≤ w.heap.size + 1 by omega) _).setCell (p := ⟨w.heap.size + 1, 1, none⟩) (show w.heap.size ≤ w.heap.size + 1 by omega) _).setCell (p := ⟨w.heap.size + 1, 2, none⟩) (show w.heap.size ≤ w.heap.size + 1 by omega) _).setCell (p := ⟨w.heap.size + 1, 3, none⟩) (show w.heap.size ≤ w.heap.size + 1 by omega) _).setCell (p := ⟨w.heap.size + 1, 4, none⟩) (show w.heap.size ≤ w.heap.size + 1 by omega) _)
        have nF : ∀ q, w.heap.size + 1 < q → (((((y.setCell ⟨w.heap.size + 1, 0, none⟩ (.slice none 0 0)).setCell ⟨w.heap.size + 1, 1, none⟩ (.slice none 0 0)).setCell ⟨w.heap.size + 1, 2, none⟩ (.slice none 0 0)).setCell ⟨w.heap.size + 1, 3, none⟩ (.slice none 0 0)).setCell ⟨w.heap.size + 1, 4, none⟩ (.slice none 0 0)).heap[q]? = y.heap[q]? := fun q hq => (Below.heap_setCell _ _ _ q (by show q ≠ w.heap.size + 1; omega)).trans ((Below.heap_setCell _ _ _ q (by show q ≠ w.heap.size + 1; omega)).trans ((Below.heap_setCell _ _ _ q (by show q ≠ w.heap.size + 1; omega)).trans ((Below.heap_setCell _ _ _ q (by show q ≠ w.heap.size + 1; omega)).trans (Below.heap_setCell _ _ _ q (by show q ≠ w.heap.size + 1; omega)))))
        have zF : y.heap.size ≤ (((((y.setCell ⟨w.heap.size + 1, 0, none⟩ (.slice none 0 0)).setCell ⟨w.heap.size + 1, 1, none⟩ (.slice none 0 0)).setCell ⟨w.heap.size + 1, 2, none⟩ (.slice none 0 0)).setCell ⟨w.heap.size + 1, 3, none⟩ (.slice none 0 0)).setCell ⟨w.heap.size + 1, 4, none⟩ (.slice none 0 0)).heap.size := by simp
        have HF := Lib.hid kF
        have BF := Lib.hid bF
        have NF := Lib.hid nF
        obtain ⟨F, hF⟩ : ∃ F, F = (((((y.setCell ⟨w.heap.size + 1, 0, none⟩ (.slice none 0 0)).setCell ⟨w.heap.size + 1, 1, none⟩ (.slice none 0 0)).setCell ⟨w.heap.size + 1, 2, none⟩ (.slice none 0 0)).setCell ⟨w.heap.size + 1, 3, none⟩ (.slice none 0 0)).setCell ⟨w.heap.size + 1, 4, none⟩ (.slice none 0 0)) := ⟨_, rfl⟩
        rw [← hF] at HF BF NF zF
        rw [← hF]
        clear kF bF nF hF
        have c0 := HF.out.cell 0
        have c1 := HF.out.cell 1
        have c2 := HF.out.cell 2
        have c3 := HF.out.cell 3
        have c4 := HF.out.cell 4
        simp only [List.getElem?_toArray, List.getElem?_cons_zero, List.getElem?_cons_succ] at c0 c1 c2 c3 c4
        refine bodyPost_ret (v := .tuple #[.agg #[.slice none 0 0, .slice none 0 0, .slice none 0 0, .slice none 0 0, .slice none 0 0], .bool false]) (by simp [results, Try.results26, c0, c1, c2, c3, c4, go_sem]) rfl ?_
        exact ⟨StaN, rfl, BF.out, by omega, StaI.none_ _ _ _ _⟩
      | true =>
        obtain ⟨t, rfl, ht, hc⟩ := goB_parts HG.out
        rw [if_pos rfl, Int.toNat_natCast] at HES
        subst HES
        have HC := Lib.hid hc
        have Hn : Hid (runF L (stepF L f t) (xs.drop (n + 1)) = q) := Lib.hid (by
          have := hrest.out
          rw [Hd.out] at this
          unfold runF at this
          rw [HG.out, if_pos rfl] at this
          exact this)
        clear hc
        have cn0 : y.cell? ⟨bb, 0, none⟩ = some (.slice hn'.A0 (staF L (stepF L f t)).f0.length hn'.c0) := KY.out.cell 0
        have cn1 : y.cell? ⟨bb, 1, none⟩ = some (.slice hn'.A1 (staF L (stepF L f t)).f1.length hn'.c1) := KY.out.cell 1
        have cn2 : y.cell? ⟨bb, 2, none⟩ = some (.slice hn'.A2 (staF L (stepF L f t)).f2.length hn'.c2) := KY.out.cell 2
        have cn3 : y.cell? ⟨bb, 3, none⟩ = some (.slice hn'.A3 (staF L (stepF L f t)).f3.length hn'.c3) := KY.out.cell 3
        have cn4 : y.cell? ⟨bb, 4, none⟩ = some (.slice hn'.A4 (staF L (stepF L f t)).f4.length hn'.c4) := KY.out.cell 4
        have cs0 : y.cell? ⟨w2.heap.size, 0, none⟩ = some (.slice hk.A0 (staF L f).f0.length hk.c0) := KSY.out.cell 0
        have fs0 : y.frozen? ⟨w2.heap.size, 0, none⟩ = false := KSY.out.free 0
        have cs1 : y.cell? ⟨w2.heap.size, 1, none⟩ = some (.slice hk.A1 (staF L f).f1.length hk.c1) := KSY.out.cell 1
        have fs1 : y.frozen? ⟨w2.heap.size, 1, none⟩ = false := KSY.out.free 1
        have cs2 : y.cell? ⟨w2.heap.size, 2, none⟩ = some (.slice hk.A2 (staF L f).f2.length hk.c2) := KSY.out.cell 2
        have fs2 : y.frozen? ⟨w2.heap.size, 2, none⟩ = false := KSY.out.free 2
        have cs3 : y.cell? ⟨w2.heap.size, 3, none⟩ = some (.slice hk.A3 (staF L f).f3.length hk.c3) := KSY.out.cell 3
        have fs3 : y.frozen? ⟨w2.heap.size, 3, none⟩ = false := KSY.out.free 3
        have cs4 : y.cell? ⟨w2.heap.size, 4, none⟩ = some (.slice hk.A4 (staF L f).f4.length hk.c4) := KSY.out.cell 4
        have fs4 : y.frozen? ⟨w2.heap.size, 4, none⟩ = false := KSY.out.free 4
        go_wp2
        clear cn0 cs0 fs0 cn1 cs1 fs1 cn2 cs2 fs2 cn3 cs3 fs3 cn4 cs4 fs4
        have kF : Bk (((((y.setCell ⟨w2.heap.size, 0, none⟩ (.slice hn'.A0 (staF L (stepF L f t)).f0.length hn'.c0)).setCell ⟨w2.heap.size, 1, none⟩ (.slice hn'.A1 (staF L (stepF L f t)).f1.length hn'.c1)).setCell ⟨w2.heap.size, 2, none⟩ (.slice hn'.A2 (staF L (stepF L f t)).f2.length hn'.c2)).setCell ⟨w2.heap.size, 3, none⟩ (.slice hn'.A3 (staF L (stepF L f t)).f3.length hn'.c3)).setCell ⟨w2.heap.size, 4, none⟩ (.slice hn'.A4 (staF L (stepF L f t)).f4.length hn'.c4)) (w2.heap.size) 30 #[.slice hn'.A0 (staF L (stepF L f t)).f0.length hn'.c0, .slice hn'.A1 (staF L (stepF L f t)).f1.length hn'.c1, .slice hn'.A2 (staF L (stepF L f t)).f2.length hn'.c2, .slice hn'.A3 (staF L (stepF L f t)).f3.length hn'.c3, .slice hn'.A4 (staF L (stepF L f t)).f4.length hn'.c4] := by
          have a0 := KSY.out
          have a1 := a0.set 0 (.slice hn'.A0 (staF L (stepF L f t)).f0.length hn'.c0)
          have a2 := a1.set 1 (.slice hn'.A1 (staF L (stepF L f t)).f1.length hn'.c1)
          have a3 := a2.set 2 (.slice hn'.A2 (staF L (stepF L f t)).f2.length hn'.c2)
          have a4 := a3.set 3 (.slice hn'.A3 (staF L (stepF L f t)).f3.length hn'.c3)
          have a5 := a4.set 4 (.slice hn'.A4 (staF L (stepF L f t)).f4.length hn'.c4)
          simpa using a5
        have bF : Below w2.heap.size w2 (((((y.setCell ⟨w2.heap.size, 0, none⟩ (.slice hn'.A0 (staF L (stepF L f t)).f0.length hn'.c0)).setCell ⟨w2.heap.size, 1, none⟩ (.slice hn'.A1 (staF L (stepF L f t)).f1.length hn'.c1)).setCell ⟨w2.heap.size, 2, none⟩ (.slice hn'.A2 (staF L (stepF L f t)).f2.length hn'.c2)).setCell ⟨w2.heap.size, 3, none⟩ (.slice hn'.A3 (staF L (stepF L f t)).f3.length hn'.c3)).setCell ⟨w2.heap.size, 4, none⟩ (.slice hn'.A4 (staF L (stepF L f t)).f4.length hn'.c4)) := (((((HBY.out.setCell (p := ⟨w2.heap.size, 0, none⟩) (show w2.heap.size ≤ w2.heap.size by omega) _).setCell (p := ⟨w2.heap.size, 1, none⟩) (show w2.heap.size ≤ w2.heap.size by omega) _).setCell (p := ⟨w2.heap.size, 2, none⟩) (show w2.heap.size ≤ w2.heap.size by omega) _).setCell (p := ⟨w2.heap.size, 3, none⟩) (show w2.heap.size ≤ w2.heap.size by omega) _).setCell (p := ⟨w2.heap.size, 4, none⟩) (show w2.heap.size ≤ w2.heap.size by omega) _)
        have nF : ∀ q, w2.heap.size < q → (((((y.setCell ⟨w2.heap.size, 0, none⟩ (.slice hn'.A0 (staF L (stepF L f t)).f0.length hn'.c0)).setCell ⟨w2.heap.size, 1, none⟩ (.slice hn'.A1 (staF L (stepF L f t)).f1.length hn'.c1)).setCell ⟨w2.heap.size, 2, none⟩ (.slice hn'.A2 (staF L (stepF L f t)).f2.length hn'.c2)).setCell ⟨w2.heap.size, 3, none⟩ (.slice hn'.A3 (staF L (stepF L f t)).f3.length hn'.c3)).setCell ⟨w2.heap.size, 4, none⟩ (.slice hn'.A4 (staF L (stepF L f t)).f4.length hn'.c4)).heap[q]? = y.heap[q]? := fun q hq => (Below.heap_setCell _ _ _ q (by show q ≠ w2.heap.size; omega)).trans ((Below.heap_setCell _ _ _ q (by show q ≠ w2.heap.size; omega)).trans ((Below.heap_setCell _ _ _ q (by show q ≠ w2.heap.size; omega)).trans ((Below.heap_setCell _ _ _ q (by show q ≠ w2.heap.size; omega)).trans (Below.heap_setCell _ _ _ q (by show q ≠ w2.heap.size; omega)))))
        have zF : y.heap.size ≤ (((((y.setCell ⟨w2.heap.size, 0, none⟩ (.slice hn'.A0 (staF L (stepF L f t)).f0.length hn'.c0)).setCell ⟨w2.heap.size, 1, none⟩ (.slice hn'.A1 (staF L (stepF L f t)).f1.length hn'.c1)).setCell ⟨w2.heap.size, 2, none⟩ (.slice hn'.A2 (staF L (stepF L f t)).f2.length hn'.c2)).setCell ⟨w2.heap.size, 3, none⟩ (.slice hn'.A3 (staF L (stepF L f t)).f3.length hn'.c3)).setCell ⟨w2.heap.size, 4, none⟩ (.slice hn'.A4 (staF L (stepF L f t)).f4.length hn'.c4)).heap.size := by simp
        have HF := Lib.hid kF
        have BF := Lib.hid bF
        have NF := Lib.hid nF
        obtain ⟨F, hF⟩ : ∃ F, F = (((((y.setCell ⟨w2.heap.size, 0, none⟩ (.slice hn'.A0 (staF L (stepF L f t)).f0.length hn'.c0)).setCell ⟨w2.heap.size, 1, none⟩ (.slice hn'.A1 (staF L (stepF L f t)).f1.length hn'.c1)).setCell ⟨w2.heap.size, 2, none⟩ (.slice hn'.A2 (staF L (stepF L f t)).f2.length hn'.c2)).setCell ⟨w2.heap.size, 3, none⟩ (.slice hn'.A3 (staF L (stepF L f t)).f3.length hn'.c3)).setCell ⟨w2.heap.size, 4, none⟩ (.slice hn'.A4 (staF L (stepF L f t)).f4.length hn'.c4)) := ⟨_, rfl⟩
        rw [← hF] at HF BF NF zF
        rw [← hF]
        clear kF bF nF hF
        have c0 := HF.out.cell 0
        have c1 := HF.out.cell 1
        have c2 := HF.out.cell 2
        have c3 := HF.out.cell 3
        have c4 := HF.out.cell 4
        simp only [List.getElem?_toArray, List.getElem?_cons_zero, List.getElem?_cons_succ] at c0 c1 c2 c3 c4
        clear c0 c1 c2 c3 c4
        go_roundw
        case rel => exact ⟨n + 1, stepF L f t, hn', lo', hi', by omega, by go_num, BF.out, HF.out, OY.out.keep (Nat.le_refl _) (Nat.le_refl _) (fun q0 h1 h2 => NF.out q0 (by omega)), by omega, i2, by omega, Or.inr (by omega), Lib.hid (inv_step HP.out hI.out ht HC.out), Hn⟩
        case measure => simp [intOf]; omega
    · have hq0 : q = some f := by
        have := hrest.out
        rw [List.drop_eq_nil_of_le (by omega)] at this
        unfold runF at this
        exact this.symm
      subst hq0

      have cs0 : wr.cell? ⟨w2.heap.size, 0, none⟩ = some (.slice hk.A0 (staF L f).f0.length hk.c0) := KS.out.cell 0
      have cs1 : wr.cell? ⟨w2.heap.size, 1, none⟩ = some (.slice hk.A1 (staF L f).f1.length hk.c1) := KS.out.cell 1
      have cs2 : wr.cell? ⟨w2.heap.size, 2, none⟩ = some (.slice hk.A2 (staF L f).f2.length hk.c2) := KS.out.cell 2
      have cs3 : wr.cell? ⟨w2.heap.size, 3, none⟩ = some (.slice hk.A3 (staF L f).f3.length hk.c3) := KS.out.cell 3
      have cs4 : wr.cell? ⟨w2.heap.size, 4, none⟩ = some (.slice hk.A4 (staF L f).f4.length hk.c4) := KS.out.cell 4
      have cr0 : wr.cell? ⟨w.heap.size + 1, 0, none⟩ = some (.slice none 0 0) := K1R.out.cell 0
      have fr0 : wr.frozen? ⟨w.heap.size + 1, 0, none⟩ = false := K1R.out.free 0
      have cr1 : wr.cell? ⟨w.heap.size + 1, 1, none⟩ = some (.slice none 0 0) := K1R.out.cell 1
      have fr1 : wr.frozen? ⟨w.heap.size + 1, 1, none⟩ = false := K1R.out.free 1
      have cr2 : wr.cell? ⟨w.heap.size + 1, 2, none⟩ = some (.slice none 0 0) := K1R.out.cell 2
      have fr2 : wr.frozen? ⟨w.heap.size + 1, 2, none⟩ = false := K1R.out.free 2
      have cr3 : wr.cell? ⟨w.heap.size + 1, 3, none⟩ = some (.slice none 0 0) := K1R.out.cell 3
      have fr3 : wr.frozen? ⟨w.heap.size + 1, 3, none⟩ = false := K1R.out.free 3
      have cr4 : wr.cell? ⟨w.heap.size + 1, 4, none⟩ = some (.slice none 0 0) := K1R.out.cell 4
      have fr4 : wr.frozen? ⟨w.heap.size + 1, 4, none⟩ = false := K1R.out.free 4
      go_wp2
      clear cs0 cs1 cs2 cs3 cs4
      clear cr0 fr0 cr1 fr1 cr2 fr2 cr3 fr3 cr4 fr4
      have kF : Bk (((((wr.setCell ⟨w.heap.size + 1, 0, none⟩ (.slice hk.A0 (staF L f).f0.length hk.c0)).setCell ⟨w.heap.size + 1, 1, none⟩ (.slice hk.A1 (staF L f).f1.length hk.c1)).setCell ⟨w.heap.size + 1, 2, none⟩ (.slice hk.A2 (staF L f).f2.length hk.c2)).setCell ⟨w.heap.size + 1, 3, none⟩ (.slice hk.A3 (staF L f).f3.length hk.c3)).setCell ⟨w.heap.size + 1, 4, none⟩ (.slice hk.A4 (staF L f).f4.length hk.c4)) (w.heap.size + 1) 30 #[.slice hk.A0 (staF L f).f0.length hk.c0, .slice hk.A1 (staF L f).f1.length hk.c1, .slice hk.A2 (staF L f).f2.length hk.c2, .slice hk.A3 (staF L f).f3.length hk.c3, .slice hk.A4 (staF L f).f4.length hk.c4] := by
        have a0 := K1R.out
        have a1 := a0.set 0 (.slice hk.A0 (staF L f).f0.length hk.c0)
        have a2 := a1.set 1 (.slice hk.A1 (staF L f).f1.length hk.c1)
        have a3 := a2.set 2 (.slice hk.A2 (staF L f).f2.length hk.c2)
        have a4 := a3.set 3 (.slice hk.A3 (staF L f).f3.length hk.c3)
        have a5 := a4.set 4 (.slice hk.A4 (staF L f).f4.length hk.c4)
        simpa using a5
      have bF : Below w.heap.size w (((((wr.setCell ⟨w.heap.size + 1, 0, none⟩ (.slice hk.A0 (staF L f).f0.length hk.c0)).setCell ⟨w.heap.size + 1, 1, none⟩ (.slice hk.A1 (staF L f).f1.length hk.c1)).setCell ⟨w.heap.size + 1, 2, none⟩ (.slice hk.A2 (staF L f).f2.length hk.c2)).setCell ⟨w.heap.size + 1, 3, none⟩ (.slice hk.A3 (staF L f).f3.length hk.c3)).setCell ⟨w.heap.size + 1, 4, none⟩ (.slice hk.A4 (staF L f).f4.length hk.c4)) := (((((BR.out.setCell (p := ⟨w.heap.size + 1, 0, none⟩) (show w.heap.size ≤ w.heap.size + 1 by omega) _).setCell (p := ⟨w.heap.size + 1, 1, none⟩) (show w.heap.size ≤ w.heap.size + 1 by omega) _).setCell (p := ⟨w.heap.size + 1, 2, none⟩) (show w.heap.size ≤ w.heap.size + 1 by omega) _).setCell (p := ⟨w.heap.size + 1, 3, none⟩) (show w.heap.size ≤ w.heap.size + 1 by omega) _).setCell (p := ⟨w.heap.size + 1, 4, none⟩) (show w.heap.size ≤ w.heap.size + 1 by omega) _)
      have nF : ∀ q, w.heap.size + 1 < q → (((((wr.setCell ⟨w.heap.size + 1, 0, none⟩ (.slice hk.A0 (staF L f).f0.length hk.c0)).setCell ⟨w.heap.size + 1, 1, none⟩ (.slice hk.A1 (staF L f).f1.length hk.c1)).setCell ⟨w.heap.size + 1, 2, none⟩ (.slice hk.A2 (staF L f).f2.length hk.c2)).setCell ⟨w.heap.size + 1, 3, none⟩ (.slice hk.A3 (staF L f).f3.length hk.c3)).setCell ⟨w.heap.size + 1, 4, none⟩ (.slice hk.A4 (staF L f).f4.length hk.c4)).heap[q]? = wr.heap[q]? := fun q hq => (Below.heap_setCell _ _ _ q (by show q ≠ w.heap.size + 1; omega)).trans ((Below.heap_setCell _ _ _ q (by show q ≠ w.heap.size + 1; omega)).trans ((Below.heap_setCell _ _ _ q (by show q ≠ w.heap.size + 1; omega)).trans ((Below.heap_setCell _ _ _ q (by show q ≠ w.heap.size + 1; omega)).trans (Below.heap_setCell _ _ _ q (by show q ≠ w.heap.size + 1; omega)))))
      have zF : wr.heap.size ≤ (((((wr.setCell ⟨w.heap.size + 1, 0, none⟩ (.slice hk.A0 (staF L f).f0.length hk.c0)).setCell ⟨w.heap.size + 1, 1, none⟩ (.slice hk.A1 (staF L f).f1.length hk.c1)).setCell ⟨w.heap.size + 1, 2, none⟩ (.slice hk.A2 (staF L f).f2.length hk.c2)).setCell ⟨w.heap.size + 1, 3, none⟩ (.slice hk.A3 (staF L f).f3.length hk.c3)).setCell ⟨w.heap.size + 1, 4, none⟩ (.slice hk.A4 (staF L f).f4.length hk.c4)).heap.size := by simp
      have HF := Lib.hid kF
      have BF := Lib.hid bF
      have NF := Lib.hid nF
      obtain ⟨F, hF⟩ : ∃ F, F = (((((wr.setCell ⟨w.heap.size + 1, 0, none⟩ (.slice hk.A0 (staF L f).f0.length hk.c0)).setCell ⟨w.heap.size + 1, 1, none⟩ (.slice hk.A1 (staF L f).f1.length hk.c1)).setCell ⟨w.heap.size + 1, 2, none⟩ (.slice hk.A2 (staF L f).f2.length hk.c2)).setCell ⟨w.heap.size + 1, 3, none⟩ (.slice hk.A3 (staF L f).f3.length hk.c3)).setCell ⟨w.heap.size + 1, 4, none⟩ (.slice hk.A4 (staF L f).f4.length hk.c4)) := ⟨_, rfl⟩
      rw [← hF] at HF BF NF zF
      rw [← hF]
      clear kF bF nF hF
      have c0 := HF.out.cell 0
      have c1 := HF.out.cell 1
      have c2 := HF.out.cell 2
      have c3 := HF.out.cell 3
      have c4 := HF.out.cell 4
      simp only [List.getElem?_toArray, List.getElem?_cons_zero, List.getElem?_cons_succ] at c0 c1 c2 c3 c4
      refine bodyPost_ret (v := .tuple #[.agg #[.slice hk.A0 (staF L f).f0.length hk.c0, .slice hk.A1 (staF L f).f1.length hk.c1, .slice hk.A2 (staF L f).f2.length hk.c2, .slice hk.A3 (staF L f).f3.length hk.c3, .slice hk.A4 (staF L f).f4.length hk.c4], .bool true]) (by simp [results, Try.results26, c0, c1, c2, c3, c4, go_sem]) rfl ?_
      exact ⟨hk, rfl, BF.out, by omega, OS.out.keep (by omega) (by omega) fun q0 h1 h2 => NF.out q0 (by omega)⟩
end Go.Proofs.Ytmnpndmjheippaa
