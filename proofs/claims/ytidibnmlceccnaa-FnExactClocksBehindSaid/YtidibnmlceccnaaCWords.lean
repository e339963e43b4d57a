/-
  What the program's clockWords comes to.
-/
import Derived.Test.YtidibnmlceccnaaIBef
import Derived.Test.YtidibnmlceccnaaWordF
import Derived.Test.YtidibnmlceccnaaSEvs
import Derived.Deep.RegionHeld3
namespace Go.Proofs.Ytidibnmlceccnaa
open Go.RowKit Pl
set_option maxHeartbeats 2000000
set_option maxRecDepth 100000
set_option linter.unusedVariables false

abbrev Ck := Nat → Nat
def joinC (a b : Ck) : Ck := fun p => max (a p) (b p)
def incC (c : Ck) (t : Nat) : Ck := upd c t (c t + 1)
def loE (e : Evt) : Int := lockZ e.x.k e.x.a e.x.b e.x.c e.x.s
def chE (e : Evt) : Int := chanZ e.x.k e.x.a e.x.b e.x.c e.x.s
/-- With what an event shares its clock, by the program: its lock or channel, or its own thread. -/
def metN (e : Evt) : Nat := if loE e ≠ -1 then 6 + (loE e).toNat else if chE e ≠ -1 then 8 + (chE e).toNat else e.t.toNat
def nowC (S : Nat → Ck) (e : Evt) : Ck := incC (joinC (S e.t.toNat) (S (metN e))) e.t.toNat
def updC (S : Nat → Ck) (p : Nat) (c : Ck) : Nat → Ck := fun q => if q = p then c else S q
def nextC (S : Nat → Ck) (e : Evt) : Nat → Ck :=
  if e.x.k = 6 then updC S e.t.toNat (nowC S e) else updC (updC S e.t.toNat (nowC S e)) (metN e) (nowC S e)
/-- .. and by the reference model. -/
def midS (S : Nat → Ck) (e : Evt) : Ck := if e.x.k = 6 then joinC (S e.t.toNat) (S (6 + e.x.a.toNat)) else S e.t.toNat
def nowS (S : Nat → Ck) (e : Evt) : Ck := incC (if 0 ≤ chE e then joinC (midS S e) (S (8 + (chE e).toNat)) else midS S e) e.t.toNat
def unlS (S : Nat → Ck) (e : Evt) (c : Ck) : Nat → Ck := if e.x.k = 7 then updC (updC S e.t.toNat c) (6 + e.x.a.toNat) c else updC S e.t.toNat c
def nextS (S : Nat → Ck) (e : Evt) : Nat → Ck := if 0 ≤ chE e then updC (unlS S e (nowS S e)) (8 + (chE e).toNat) (nowS S e) else unlS S e (nowS S e)

theorem join_self (a : Ck) : joinC a a = a := by funext p; simp [joinC]
theorem join_of {a b : Ck} (h : ∀ p, b p ≤ a p) : joinC a b = a := by funext p; have := h p; simp only [joinC]; omega
theorem updC_twice (S : Nat → Ck) (p : Nat) (c : Ck) : updC (updC S p c) p c = updC S p c := by
  funext q; unfold updC; split <;> rfl
theorem lo_ok {e : Evt} (h : e.x.okb = true) : loE e = if e.x.k = 6 ∨ e.x.k = 7 then e.x.a else -1 := by
  have h' : okB e.x.k e.x.a e.x.b e.x.c e.x.s = true := h
  unfold loE lockZ
  rw [h', Bool.true_and]
  by_cases h6 : e.x.k = 6
  · simp [h6]
  · by_cases h7 : e.x.k = 7
    · simp [h7]
    · simp [h6, h7]
theorem ch_ok {e : Evt} (h : e.x.okb = true) : chE e = if e.x.k = 8 then e.x.a else if e.x.k = 9 then e.x.b else -1 := chan_ok h
theorem ab2 {x : Sm} (h : x.okb = true) (hk : x.k = 6 ∨ x.k = 7 ∨ x.k = 8) : ∃ n : Nat, n < 2 ∧ x.a = (n : Int) := ok_ab2 (k := x.k) (b := x.b) (c := x.c) (s := x.s) h hk
theorem bb2 {x : Sm} (h : x.okb = true) (hk : x.k = 9) : ∃ n : Nat, n < 2 ∧ x.b = (n : Int) := ok_b2 (k := x.k) (a := x.a) (c := x.c) (s := x.s) h hk
/-- With what a statement meets, by its kind. -/
theorem met_cases {e : Evt} (h : e.x.okb = true) :
    ((e.x.k = 6 ∨ e.x.k = 7) ∧ e.x.a.toNat < 2 ∧ metN e = 6 + e.x.a.toNat ∧ chE e = -1 ∧ loE e = e.x.a ∧ 0 ≤ e.x.a) ∨
    ((e.x.k = 8 ∨ e.x.k = 9) ∧ (chE e).toNat < 2 ∧ 0 ≤ chE e ∧ metN e = 8 + (chE e).toNat ∧ loE e = -1) ∨
    (e.x.k ≠ 6 ∧ e.x.k ≠ 7 ∧ e.x.k ≠ 8 ∧ e.x.k ≠ 9 ∧ chE e = -1 ∧ loE e = -1 ∧ metN e = e.t.toNat) := by
  have hl := lo_ok h
  have hc := ch_ok h
  by_cases h67 : e.x.k = 6 ∨ e.x.k = 7
  · obtain ⟨n, hn, ha⟩ := ab2 h (by omega)
    rw [if_pos h67] at hl
    rw [if_neg (by omega), if_neg (by omega)] at hc
    left
    refine ⟨h67, by omega, ?_, hc, hl, by omega⟩
    unfold metN; rw [if_pos (by omega), hl]
  · rw [if_neg h67] at hl
    by_cases h8 : e.x.k = 8
    · obtain ⟨n, hn, ha⟩ := ab2 h (by omega)
      rw [if_pos h8] at hc
      right; left
      refine ⟨Or.inl h8, by omega, by omega, ?_, hl⟩
      unfold metN; rw [if_neg (by omega), if_pos (by omega)]
    · rw [if_neg h8] at hc
      by_cases h9 : e.x.k = 9
      · obtain ⟨n, hn, ha⟩ := bb2 h h9
        rw [if_pos h9] at hc
        right; left
        refine ⟨Or.inr h9, by omega, by omega, ?_, hl⟩
        unfold metN; rw [if_neg (by omega), if_pos (by omega)]
      · rw [if_neg h9] at hc
        right; right
        refine ⟨by omega, by omega, h8, h9, hc, hl, ?_⟩
        unfold metN; rw [if_neg (by omega), if_neg (by omega)]
/-- Both ways come to the same, if whoever lets a lock free knows what the lock's clock knows. -/
theorem step_same {S : Nat → Ck} {e : Evt} (h : e.x.okb = true) (h7 : e.x.k = 7 → ∀ p, S (6 + e.x.a.toNat) p ≤ S e.t.toNat p) : nowS S e = nowC S e ∧ nextS S e = nextC S e := by
  rcases met_cases h with ⟨hk, hn, hm, hc, hl, ha⟩ | ⟨hk, hn, hc, hm, hl⟩ | ⟨h6, h7', h8, h9, hc, hl, hm⟩
  · have e1 : nowS S e = nowC S e := by
      unfold nowS nowC midS
      rw [hm, if_neg (show ¬ 0 ≤ chE e by omega)]
      rcases hk with hk | hk
      · rw [if_pos hk]
      · rw [if_neg (by omega), join_of (h7 hk)]
    refine ⟨e1, ?_⟩
    unfold nextS nextC unlS
    rw [e1, hm, if_neg (show ¬ 0 ≤ chE e by omega)]
    rcases hk with hk | hk
    · rw [if_neg (by omega), if_pos hk]
    · rw [if_pos hk, if_neg (by omega)]
  · have e1 : nowS S e = nowC S e := by
      unfold nowS nowC midS
      rw [hm, if_pos hc, if_neg (by omega)]
    refine ⟨e1, ?_⟩
    unfold nextS nextC unlS
    rw [e1, hm, if_pos hc, if_neg (show ¬ e.x.k = 7 by omega), if_neg (show ¬ e.x.k = 6 by omega)]
  · have e1 : nowS S e = nowC S e := by
      unfold nowS nowC midS
      rw [hm, if_neg (show ¬ 0 ≤ chE e by omega), if_neg h6, join_self]
    refine ⟨e1, ?_⟩
    unfold nextS nextC unlS
    rw [e1, hm, if_neg (show ¬ 0 ≤ chE e by omega), if_neg h7', if_neg h6, updC_twice]
theorem now_t (S : Nat → Ck) (e : Evt) (p : Nat) : S e.t.toNat p ≤ nowC S e p := by
  unfold nowC incC upd joinC
  split
  · rename_i hp; subst hp; omega
  · omega
theorem now_m (S : Nat → Ck) (e : Evt) (p : Nat) : S (metN e) p ≤ nowC S e p := by
  unfold nowC incC upd joinC
  split
  · rename_i hp; subst hp; omega
  · omega
theorem next_at (S : Nat → Ck) (e : Evt) (q : Nat) : nextC S e q = if q = e.t.toNat ∨ (q = metN e ∧ e.x.k ≠ 6) then nowC S e else S q := by
  unfold nextC updC
  by_cases h6 : e.x.k = 6
  · rw [if_pos h6]
    by_cases hq : q = e.t.toNat
    · rw [if_pos hq, if_pos (Or.inl hq)]
    · rw [if_neg hq, if_neg (by omega)]
  · rw [if_neg h6]
    by_cases hm : q = metN e
    · rw [if_pos hm, if_pos (Or.inr ⟨hm, h6⟩)]
    · rw [if_neg hm]
      by_cases hq : q = e.t.toNat
      · rw [if_pos hq, if_pos (Or.inl hq)]
      · rw [if_neg hq, if_neg (by omega)]
theorem next_le {S : Nat → Ck} {m : Nat} (h : ∀ p q, S p q ≤ m) (e : Evt) : (∀ q, nowC S e q ≤ m + 1) ∧ ∀ p q, nextC S e p q ≤ m + 1 := by
  have h1 : ∀ q, nowC S e q ≤ m + 1 := fun q => by
    have a := h e.t.toNat
    have b := h (metN e)
    unfold nowC incC upd joinC
    split
    · rename_i hp; subst hp; have := a e.t.toNat; have := b e.t.toNat; omega
    · have := a q; have := b q; omega
  refine ⟨h1, fun p q => ?_⟩
  rw [next_at]
  split
  · exact h1 q
  · have := h p q; omega
theorem fold_le (l : Evts) : ∀ {S : Nat → Ck} {m : Nat}, (∀ p q, S p q ≤ m) → ∀ p q, l.foldl nextC S p q ≤ m + l.length := by
  induction l with
  | nil => intro S m h p q; exact h p q
  | cons e r ih =>
    intro S m h p q
    have := ih (next_le h e).2 p q
    rw [List.foldl_cons, List.length_cons]
    omega
/-- The clocks ahead of the event k, and its own one. -/
def zeroS : Nat → Ck := fun _ _ => 0
def stK (l : Evts) (k : Nat) : Nat → Ck := (l.take k).foldl nextC zeroS
def ckK (l : Evts) (k : Nat) : Ck := nowC (stK l k) (gE l k)
theorem gE_at {l : Evts} {k : Nat} {x : Evt} (h : l[k]? = some x) : gE l k = x := by simp [gE, List.getD, h]
theorem stK_next {l : Evts} {k : Nat} {x : Evt} (h : l[k]? = some x) : stK l (k + 1) = nextC (stK l k) x := by
  unfold stK
  rw [List.take_add_one, h, List.foldl_append]
  rfl
theorem stK_le (l : Evts) (k : Nat) : ∀ p q, stK l k p q ≤ k := fun p q => by
  have := fold_le (l.take k) (S := zeroS) (m := 0) (fun _ _ => Nat.le_refl _) p q
  rw [List.length_take] at this
  unfold stK
  omega
theorem ckK_le (l : Evts) (k : Nat) : ∀ q, ckK l k q ≤ k + 1 := (next_le (stK_le l k) _).1
/-- Whoever has a lock knows what its clock knows. -/
def LockI (S : Nat → Ck) (f : Nat → Nat) : Prop := ∀ a u, a < 2 → u < 3 → f (18 + a) = u + 1 → ∀ p, S (6 + a) p ≤ S u p
theorem step_18 {L : Pg} {f : Nat → Nat} {t a : Nat} {x : Sm} (h3 : L.length ≤ 3) (ht : t < 3) (ha : a < 2) (hx : smAt L t (f (3 + t)) = x) (hok : x.okb = true) :
    stepF L f t (18 + a) = if x.k = 6 ∧ a = x.a.toNat then t + 1 else if x.k = 7 ∧ a = x.a.toNat then 0 else f (18 + a) := by
  unfold stepF
  rw [hx, keptF_hi h3 (by omega)]
  obtain ⟨q, xa, xb, xc, xs⟩ := x
  have hx' : okB q xa xb xc xs = true := hok
  have ga : ¬ (q = 0 ∨ q = 1 ∨ q = 2 ∨ q = 3 ∨ q = 4 ∨ q = 9) ∨ xa.toNat < 3 := by
    by_cases e : q = 0 ∨ q = 1 ∨ q = 2 ∨ q = 3 ∨ q = 4 ∨ q = 9
    · obtain ⟨m, hm, rfl⟩ := ok_a3 hx' (by omega); right; simpa using hm
    · exact Or.inl e
  have gb : ¬ (q = 3 ∨ q = 4) ∨ xb.toNat < 3 := by
    by_cases e : q = 3 ∨ q = 4
    · obtain ⟨m, hm, rfl⟩ := ok_b3 hx' (by omega); right; simpa using hm
    · exact Or.inl e
  generalize nextF L f t ⟨q, xa, xb, xc, xs⟩ = nx
  unfold affF
  simp only
  by_cases h6 : q = 6
  · subst h6; simp; unfold upd; (repeat' split) <;> omega
  · by_cases h7 : q = 7
    · subst h7; simp; unfold upd; (repeat' split) <;> omega
    · rw [if_neg (show ¬ (q = 6 ∧ a = xa.toNat) by omega), if_neg (show ¬ (q = 7 ∧ a = xa.toNat) by omega), if_neg h6, if_neg h7]
      repeat' split
      all_goals (try simp only [upd])
      all_goals (repeat' split)
      all_goals omega
theorem ev_okb {L : Pg} {f : Nat → Nat} {t : Nat} (hL : progB L = true) (I : Inv L f) (ht : t < L.length) (hc : canF L f t = true) : (smAt L t (f (3 + t))).okb = true := by
  have hm := can_more I.good ht hc
  obtain ⟨xs, hxs⟩ : ∃ xs, L[t]? = some xs := ⟨L[t], List.getElem?_eq_getElem ht⟩
  rw [getD_some hxs] at hm
  have hsx : smAt L t (f (3 + t)) = xs[f (3 + t)] := by unfold smAt; rw [getD_some hxs]; simp [List.getD, hm]
  rw [hsx]; exact (prog_thr hL hxs).2 _ _ (List.getElem?_eq_getElem hm)
theorem can_unl {L : Pg} {f : Nat → Nat} {t : Nat} (hc : canF L f t = true) (hk : (smAt L t (f (3 + t))).k = 7) : f (18 + (smAt L t (f (3 + t))).a.toNat) = t + 1 := by
  unfold canF waitF at hc
  rw [if_neg (by omega), if_pos hk] at hc
  simp at hc
  exact hc.2
theorem lock_step {L : Pg} {f : Nat → Nat} {t : Nat} {S : Nat → Ck} (hL : progB L = true) (I : Inv L f) (ht : t < L.length) (hc : canF L f t = true) (H : LockI S f) : LockI (nextC S (evZ L f t)) (stepF L f t) := by
  obtain ⟨h31, h32⟩ := prog_len hL
  have hok := ev_okb hL I ht hc
  have ht' : (evZ L f t).t.toNat = t := Int.toNat_natCast t
  have hx' : (evZ L f t).x = smAt L t (f (3 + t)) := rfl
  have hmc := met_cases (e := evZ L f t) hok
  intro a u ha hu h p
  rw [step_18 h32 (by omega) ha rfl hok] at h
  have hge := now_t S (evZ L f t) p
  have hgm := now_m S (evZ L f t) p
  rw [next_at, next_at]
  rw [ht'] at *
  rw [← hx'] at h
  generalize evZ L f t = e at *
  clear hx' hok hc I
  by_cases hA : 6 + a = t ∨ (6 + a = metN e ∧ e.x.k ≠ 6)
  · exfalso
    have h7 : e.x.k = 7 ∧ a = e.x.a.toNat := by omega
    rw [if_neg (by omega), if_pos h7] at h
    omega
  · rw [if_neg hA]
    by_cases hU : u = t ∨ (u = metN e ∧ e.x.k ≠ 6)
    · rw [if_pos hU]
      have hut : u = t := by omega
      subst hut
      by_cases h6 : e.x.k = 6 ∧ a = e.x.a.toNat
      · have hm : metN e = 6 + a := by omega
        rw [hm] at hgm
        exact hgm
      · rw [if_neg h6] at h
        by_cases h7 : e.x.k = 7 ∧ a = e.x.a.toNat
        · rw [if_pos h7] at h; omega
        · rw [if_neg h7] at h
          exact Nat.le_trans (H a u ha hu h p) hge
    · rw [if_neg hU]
      by_cases h6 : e.x.k = 6 ∧ a = e.x.a.toNat
      · rw [if_pos h6] at h; omega
      · rw [if_neg h6] at h
        by_cases h7 : e.x.k = 7 ∧ a = e.x.a.toNat
        · rw [if_pos h7] at h; omega
        · rw [if_neg h7] at h
          exact H a u ha hu h p
theorem run_lock {L : Pg} (hL : progB L = true) : ∀ {xs : List Int} {f : Nat → Nat} {l : Evts} {S : Nat → Ck}, Inv L f → LockI S f → runE L f xs = some l →
    ∀ k e, l[k]? = some e → e.x.k = 7 → ∀ p, (l.take k).foldl nextC S (6 + e.x.a.toNat) p ≤ (l.take k).foldl nextC S e.t.toNat p := by
  obtain ⟨h31, h32⟩ := prog_len hL
  intro xs
  induction xs with
  | nil =>
    intro f l S I H h
    unfold runE at h
    injection h with h
    subst h
    intro k e he; simp at he
  | cons th r ih =>
    intro f l S I H h
    unfold runE at h
    split at h
    · rename_i hg
      obtain ⟨t, rfl, ht, hc⟩ := goB_parts hg
      rw [Int.toNat_natCast] at h
      cases hq : runE L (stepF L f t) r with
      | none => rw [hq] at h; simp at h
      | some l' =>
        rw [hq] at h
        simp only [Option.map_some, Option.some.injEq] at h
        subst h
        intro k e he hk p
        cases k with
        | zero =>
          simp only [List.getElem?_cons_zero, Option.some.injEq] at he
          subst he
          have ht' : (evZ L f t).t.toNat = t := Int.toNat_natCast t
          rw [ht']
          have hok := ev_okb hL I ht hc
          obtain ⟨n, hn, ha⟩ := ab2 hok (Or.inr (Or.inl hk))
          exact H _ t (by show (smAt L t (f (3 + t))).a.toNat < 2; omega) (by omega) (can_unl hc hk) p
        | succ k =>
          simp only [List.getElem?_cons_succ] at he
          rw [List.take_succ_cons, List.foldl_cons]
          exact ih (inv_step hL I ht hc) (lock_step hL I ht hc H) hq k e he hk p
    · cases h
theorem lock_zero {L : Pg} {f : Nat → Nat} : LockI zeroS f := fun _ _ _ _ _ _ => Nat.le_refl _
/-- The clocks of all events of an order, and those behind it: rows of n numbers. -/
def rowC (n : Nat) (c : Ck) : List Int := (List.range n).map fun p => (c p : Int)
def clkL (n : Nat) (l : Evts) : List (List Int) := (List.range l.length).map fun k => rowC n (ckK l k)
end Go.Proofs.Ytidibnmlceccnaa
namespace Go.Proofs.Ytidibnmlceccnaa
open Go.RowKit Pl Go.BigFrame
set_option maxHeartbeats 2000000
set_option maxRecDepth 100000
set_option linter.unusedVariables false

def w3 (a b c : Nat) : Nat := 256 * (256 * a + b) + c
theorem enc_w3 (c : Ck) : enc WC c = w3 (c 0) (c 1) (c 2) := by
  have h : enc WC c = 2 ^ 16 * c 0 + (2 ^ 8 * c 1 + (2 ^ 0 * c 2 + 0)) := rfl
  rw [h]; unfold w3; omega
theorem bit_b (x : Nat) {y : Nat} (hy : y < 256) (j : Nat) : (256 * x + y).testBit j = if j < 8 then y.testBit j else x.testBit (j - 8) :=
  Nat.testBit_two_pow_mul_add x (i := 8) hy j
theorem and_b {p q r s : Nat} (hq : q < 256) (hs : s < 256) : (256 * p + q) &&& (256 * r + s) = 256 * (p &&& r) + (q &&& s) := by
  apply Nat.eq_of_testBit_eq; intro j
  have h : q &&& s < 256 := Nat.lt_of_le_of_lt Nat.and_le_left hq
  rw [Nat.testBit_and, bit_b p hq, bit_b r hs, bit_b _ h]
  split <;> rw [Nat.testBit_and]
theorem or_b {p q r s : Nat} (hq : q < 256) (hs : s < 256) : (256 * p + q) ||| (256 * r + s) = 256 * (p ||| r) + (q ||| s) := by
  apply Nat.eq_of_testBit_eq; intro j
  have h : q ||| s < 256 := Nat.or_lt_two_pow (n := 8) hq hs
  rw [Nat.testBit_or, bit_b p hq, bit_b r hs, bit_b _ h]
  split <;> rw [Nat.testBit_or]
theorem xor_b {p q r s : Nat} (hq : q < 256) (hs : s < 256) : (256 * p + q) ^^^ (256 * r + s) = 256 * (p ^^^ r) + (q ^^^ s) := by
  apply Nat.eq_of_testBit_eq; intro j
  have h : q ^^^ s < 256 := Nat.xor_lt_two_pow (n := 8) hq hs
  rw [Nat.testBit_xor, bit_b p hq, bit_b r hs, bit_b _ h]
  split <;> rw [Nat.testBit_xor]
theorem and_w3 {a b c x y z : Nat} (hb : b < 256) (hc : c < 256) (hy : y < 256) (hz : z < 256) : w3 a b c &&& w3 x y z = w3 (a &&& x) (b &&& y) (c &&& z) := by
  unfold w3; rw [and_b hc hz, and_b hb hy]
theorem or_w3 {a b c x y z : Nat} (hb : b < 256) (hc : c < 256) (hy : y < 256) (hz : z < 256) : w3 a b c ||| w3 x y z = w3 (a ||| x) (b ||| y) (c ||| z) := by
  unfold w3; rw [or_b hc hz, or_b hb hy]
theorem xor_w3 {a b c x y z : Nat} (hb : b < 256) (hc : c < 256) (hy : y < 256) (hz : z < 256) : w3 a b c ^^^ w3 x y z = w3 (a ^^^ x) (b ^^^ y) (c ^^^ z) := by
  unfold w3; rw [xor_b hc hz, xor_b hb hy]
theorem w3_lt {a b c : Nat} (ha : a < 256) (hb : b < 256) (hc : c < 256) : w3 a b c < 18446744073709551616 := by unfold w3; omega
theorem b_or {x : Nat} (h : x < 128) : x ||| 128 = x + 128 := (show ∀ x : Fin 128, x.val ||| 128 = x.val + 128 by decide +kernel) ⟨x, h⟩
theorem b_128 {x : Nat} (h : x < 256) : x &&& 128 = if 128 ≤ x then 128 else 0 := (show ∀ x : Fin 256, x.val &&& 128 = if 128 ≤ x.val then 128 else 0 by decide +kernel) ⟨x, h⟩
theorem b_127 {x : Nat} (h : x < 128) : x &&& 127 = x := (show ∀ x : Fin 128, x.val &&& 127 = x.val by decide +kernel) ⟨x, h⟩
def tp (a b : Nat) : Nat := if b ≤ a then 128 else 0
def fm (a b : Nat) : Nat := if b ≤ a then 127 else 0
theorem tp_lt (a b : Nat) : tp a b < 256 := by unfold tp; split <;> omega
theorem fm_lt (a b : Nat) : fm a b < 256 := by unfold fm; split <;> omega
theorem tp_byte {a b : Nat} (ha : a < 128) (hb : b < 128) : (a + 128 - b) &&& 128 = tp a b := by
  rw [b_128 (by omega)]
  unfold tp
  by_cases h : b ≤ a
  · rw [if_pos h, if_pos (by omega)]
  · rw [if_neg h, if_neg (by omega)]
def topsN (a b : Ck) : Nat := w3 (tp (a 0) (b 0)) (tp (a 1) (b 1)) (tp (a 2) (b 2))
def fromN (a b : Ck) : Nat := w3 (fm (a 0) (b 0)) (fm (a 1) (b 1)) (fm (a 2) (b 2))
abbrev Low (a : Ck) : Prop := ∀ p, a p < 128
theorem low_lt {a : Ck} (h : Low a) : enc WC a < 18446744073709551616 := by
  have h0 := h 0; have h1 := h 1; have h2 := h 2
  rw [enc_w3]; exact w3_lt (by omega) (by omega) (by omega)
theorem tops_lt (a b : Ck) : topsN a b < 18446744073709551616 := w3_lt (tp_lt _ _) (tp_lt _ _) (tp_lt _ _)
theorem from_lt (a b : Ck) : fromN a b < 18446744073709551616 := w3_lt (fm_lt _ _) (fm_lt _ _) (fm_lt _ _)
theorem notless_num {a b : Ck} (ha : Low a) (hb : Low b) : bits .and .u64 (IntKind.u64.wrap (bits .or .u64 (enc WC a : Nat) 8421504 - (enc WC b : Nat))) 8421504 = ((topsN a b : Nat) : Int) := by
  have e8 : (8421504 : Int) = ((w3 128 128 128 : Nat) : Int) := rfl
  have a0 := ha 0; have a1 := ha 1; have a2 := ha 2
  have b0 := hb 0; have b1 := hb 1; have b2 := hb 2
  have l8 : w3 128 128 128 < 18446744073709551616 := by decide
  rw [e8, or_u64 (low_lt ha) l8, enc_w3, enc_w3, or_w3 (by omega) (by omega) (by omega) (by omega), b_or a0, b_or a1, b_or a2]
  have e : ((w3 (a 0 + 128) (a 1 + 128) (a 2 + 128) : Nat) : Int) - ((w3 (b 0) (b 1) (b 2) : Nat) : Int) = ((w3 (a 0 + 128 - b 0) (a 1 + 128 - b 1) (a 2 + 128 - b 2) : Nat) : Int) := by
    unfold w3; omega
  have l3 : w3 (a 0 + 128 - b 0) (a 1 + 128 - b 1) (a 2 + 128 - b 2) < 18446744073709551616 := w3_lt (by omega) (by omega) (by omega)
  rw [e, wrapu_small (by omega) (by omega), and_u64 l3 l8, and_w3 (by omega) (by omega) (by omega) (by omega), tp_byte a0 b0, tp_byte a1 b1, tp_byte a2 b2]
  rfl
theorem tops_from (a b : Ck) : topsN a b - topsN a b / 128 = fromN a b ∧ topsN a b / 128 ≤ topsN a b := by
  unfold topsN fromN tp fm
  generalize a 0 = a0; generalize a 1 = a1; generalize a 2 = a2; generalize b 0 = b0; generalize b 1 = b1; generalize b 2 = b2
  by_cases h0 : b0 ≤ a0 <;> by_cases h1 : b1 ≤ a1 <;> by_cases h2 : b2 ≤ a2 <;> simp only [h0, h1, h2, if_true, if_false] <;> decide
theorem from_num (a b : Ck) : IntKind.u64.wrap (((topsN a b : Nat) : Int) - ((topsN a b : Nat) : Int) / 128) = ((fromN a b : Nat) : Int) := by
  obtain ⟨h1, h2⟩ := tops_from a b
  have h3 := from_lt a b
  have e : ((topsN a b : Nat) : Int) - ((topsN a b : Nat) : Int) / 128 = ((fromN a b : Nat) : Int) := by omega
  rw [e, wrapu_small (by omega) (by omega)]
theorem join_byte {a b : Nat} (ha : a < 128) (hb : b < 128) : (a &&& fm a b) ||| (b ^^^ (b &&& fm a b)) = max a b := by
  unfold fm
  by_cases h : b ≤ a
  · rw [if_pos h, b_127 ha, b_127 hb, Nat.xor_self, Nat.or_zero]; omega
  · rw [if_neg h, Nat.and_zero, Nat.and_zero, Nat.xor_zero, Nat.zero_or]; omega
theorem join_num {a b : Ck} (ha : Low a) (hb : Low b) : bits .or .u64 (bits .and .u64 (enc WC a : Nat) (fromN a b : Nat)) (bits .andNot .u64 (enc WC b : Nat) (fromN a b : Nat)) = ((enc WC (joinC a b) : Nat) : Int) := by
  have a0 := ha 0; have a1 := ha 1; have a2 := ha 2
  have b0 := hb 0; have b1 := hb 1; have b2 := hb 2
  have lb := low_lt hb
  rw [and_u64 (low_lt ha) (from_lt a b), andNot_u64 lb (from_lt a b)]
  have l1 : enc WC a &&& fromN a b < 18446744073709551616 := Nat.lt_of_le_of_lt Nat.and_le_left (low_lt ha)
  have l2 : enc WC b &&& fromN a b < 2 ^ 64 := Nat.lt_of_le_of_lt Nat.and_le_left lb
  have l3 : enc WC b ^^^ (enc WC b &&& fromN a b) < 18446744073709551616 := Nat.xor_lt_two_pow (n := 64) (by omega) l2
  rw [or_u64 l1 l3]
  have f0 := fm_lt (a 0) (b 0); have f1 := fm_lt (a 1) (b 1); have f2 := fm_lt (a 2) (b 2)
  have g1 : b 1 &&& fm (a 1) (b 1) < 256 := Nat.lt_of_le_of_lt Nat.and_le_left (by omega)
  have g2 : b 2 &&& fm (a 2) (b 2) < 256 := Nat.lt_of_le_of_lt Nat.and_le_left (by omega)
  have k1 : a 1 &&& fm (a 1) (b 1) < 256 := Nat.lt_of_le_of_lt Nat.and_le_left (by omega)
  have k2 : a 2 &&& fm (a 2) (b 2) < 256 := Nat.lt_of_le_of_lt Nat.and_le_left (by omega)
  have x1 : b 1 ^^^ (b 1 &&& fm (a 1) (b 1)) < 256 := Nat.xor_lt_two_pow (n := 8) (by omega) g1
  have x2 : b 2 ^^^ (b 2 &&& fm (a 2) (b 2)) < 256 := Nat.xor_lt_two_pow (n := 8) (by omega) g2
  congr 1
  rw [enc_w3, enc_w3, enc_w3]
  unfold fromN
  rw [and_w3 (by omega) (by omega) f1 f2, and_w3 (by omega) (by omega) f1 f2, xor_w3 (by omega) (by omega) g1 g2, or_w3 k1 k2 x1 x2, join_byte a0 b0, join_byte a1 b1, join_byte a2 b2]
  rfl
theorem tops_all (a b : Ck) : (topsN a b = 8421504) ↔ (b 0 ≤ a 0 ∧ b 1 ≤ a 1 ∧ b 2 ≤ a 2) := by
  unfold topsN tp
  generalize a 0 = a0; generalize a 1 = a1; generalize a 2 = a2; generalize b 0 = b0; generalize b 1 = b1; generalize b 2 = b2
  by_cases h0 : b0 ≤ a0 <;> by_cases h1 : b1 ≤ a1 <;> by_cases h2 : b2 ≤ a2 <;> simp only [h0, h1, h2, if_true, if_false] <;> decide
def leC (a b : Ck) : Bool := decide (a 0 ≤ b 0) && (decide (a 1 ≤ b 1) && decide (a 2 ≤ b 2))
theorem join_low {a b : Ck} (ha : Low a) (hb : Low b) : Low (joinC a b) := fun p => by have := ha p; have := hb p; simp only [joinC]; omega

theorem notless_any (a b : Ck) (w : World) (ha : Low a) (hb : Low b) : Calls Try.prog 180 #[.int .u64 (enc WC a : Nat), .int .u64 (enc WC b : Nat)] w fun e w' => e = .returned (.int .u64 (topsN a b : Nat)) ∧ Below w.heap.size w w' := by
  have hn := Lib.hid (notless_num ha hb)
  have la := low_lt ha
  have lb := low_lt hb
  generalize enc WC a = A at *
  generalize enc WC b = B at *
  go_enter Try.func180, Try.ntmps180
  go_wp2
  go_ret
  refine ⟨?_, by go_grown⟩
  rw [← hn.out]
  rfl
theorem wwithin_any (a b : Ck) (w : World) (ha : Low a) (hb : Low b) (r : Bool) (hr : Hid (leC a b = r)) : Calls Try.prog 151 #[.int .u64 (enc WC a : Nat), .int .u64 (enc WC b : Nat)] w fun e w' => e = .returned (.bool r) ∧ Below w.heap.size w w' := by
  have ht := tops_all b a
  have hT := tops_lt b a
  have hc := Lib.hid (notless_any b a w hb ha)
  have hr0 := hr.out
  clear hr
  generalize topsN b a = T at *
  generalize enc WC a = A at *
  generalize enc WC b = B at *
  go_enter Try.func151, Try.ntmps151
  go_wp2_with fail
  refine hc.out.mono ?_
  rintro e w1 ⟨rfl, hb1⟩
  go_wp2
  go_ret
  refine ⟨?_, hb1⟩
  rw [← hr0]
  unfold leC
  have e : ((T : Int) == 8421504) = decide (T = 8421504) := by
    rw [Bool.eq_iff_iff]; simp; omega
  simp only [e, ht]
  rw [Bool.decide_and, Bool.decide_and]
  rfl
theorem wjoin_any (a b : Ck) (w : World) (ha : Low a) (hb : Low b) : Calls Try.prog 146 #[.int .u64 (enc WC a : Nat), .int .u64 (enc WC b : Nat)] w fun e w' => e = .returned (.int .u64 (enc WC (joinC a b) : Nat)) ∧ Below w.heap.size w w' := by
  have hn := Lib.hid (join_num ha hb)
  have hf := Lib.hid (from_num a b)
  have hc := Lib.hid (notless_any a b w ha hb)
  have la := low_lt ha
  have lb := low_lt hb
  have lT := tops_lt a b
  generalize enc WC (joinC a b) = R at *
  generalize enc WC a = A at *
  generalize enc WC b = B at *
  generalize topsN a b = T at *
  generalize fromN a b = F at *
  go_enter Try.func146, Try.ntmps146
  go_wp2_with fail
  refine hc.out.mono ?_
  rintro e w1 ⟨rfl, hb1⟩
  go_wp2
  go_ret
  refine ⟨?_, hb1⟩
  have h1 := hf.out
  have h2 := hn.out
  rw [wrapu_small (by omega) (by omega)] at h1
  simp
  rw [h1, h2]
theorem adv_any (c : Ck) (t : Nat) (w : World) (ht : t < 3) (hc : Low c) : Calls Try.prog 145 #[.int .u64 (enc WC c : Nat), .int .i64 t] w fun e w' => e = .returned (.int .u64 (enc WC (incC c t) : Nat)) ∧ Below w.heap.size w w' := by
  have hok : okF WC c := okF_of fun p hp => by
    have h1 := hc p
    have h2 : wid WC p = 8 := by
      have : p = 0 ∨ p = 1 ∨ p = 2 := by simp [WC] at hp; omega
      rcases this with rfl | rfl | rfl <;> rfl
    rw [h2]; omega
  have hct := hc t
  have h1 := Lib.hid (entF flc7 hok t (show t < 3 from ht) w ((c t : Nat) : Int) (Lib.hid (by rw [Nat.zero_add]; show ((c t : Nat) : Int) + 0 = _; omega)))
  have h2 := Lib.hid (fun w1 => wentF flc7 hok t (c t + 1) ((c t : Int) + 1) (show t < 3 from ht) (show c t + 1 < 2 ^ 8 by omega) (by show ((c t : Nat) : Int) + 1 = ((c t + 1 : Nat) : Int) + 0; omega) w1)
  have h2 := Lib.hid (fun w1 => by have := h2.out w1; rwa [Nat.zero_add] at this)
  unfold incC
  generalize enc WC (upd c t (c t + 1)) = R at *
  generalize enc WC c = A at *
  go_enter Try.func145, Try.ntmps145
  go_wp2_with fail
  refine h1.out.mono ?_
  rintro e w1 ⟨rfl, hb1⟩
  have B1 := Lib.hid hb1
  clear hb1
  go_wp2_with fail
  refine (h2.out w1).mono ?_
  rintro e w2 ⟨rfl, hb2⟩
  go_wp2
  go_ret
  exact ⟨rfl, below_on B1.out hb2⟩
end Go.Proofs.Ytidibnmlceccnaa
namespace Go.Proofs.Ytidibnmlceccnaa
open Go.RowKit Pl Go.BigFrame
set_option maxHeartbeats 4000000
set_option maxRecDepth 100000
set_option linter.unusedVariables false

theorem meet_any (t i k a b c : Int) (s : Bool) (w : World) (m : Nat) (hok : okB k a b c s = true) (h0 : 0 ≤ t) (h3 : t < 3) (hm : Hid (metN ⟨t, i, ⟨k, a, b, c, s⟩⟩ = m)) :
    Calls Try.prog 144 #[Ev t i k a b c s] w fun e w' => e = .returned (.int .i64 m) ∧ Below w.heap.size w w' := by
  have hS : Fr w [(w.heap.size, #[.int .i64 t, .int .i64 i, .int .i64 k, .int .i64 a, .int .i64 b, .int .i64 c, .bool s])] (w.alloc (.cells #[.int .i64 t, .int .i64 i, .int .i64 k, .int .i64 a, .int .i64 b, .int .i64 c, .bool s] 81)) := fr_one w _ _
  have hc1 := @Ws.cells w [(w.heap.size, #[.int .i64 t, .int .i64 i, .int .i64 k, .int .i64 a, .int .i64 b, .int .i64 c, .bool s])] w.heap.size _ (List.mem_cons_self ..)
  haveI hne := Nonempty.intro (Ws.mk _ hS)
  have HS := Lib.hid hS
  clear hS
  have hl : numZ k a b c s 5 = lockZ k a b c s := lock_eq k a b c s
  have hc : numZ k a b c s 6 = chanZ k a b c s := chan_eq k a b c s
  have hm0 := hm.out
  clear hm
  unfold metN loE chE at hm0
  simp only at hm0
  have hlr : -1 ≤ lockZ k a b c s ∧ lockZ k a b c s ≤ 1 := by
    obtain ⟨q, -, -, h, -⟩ := way k a b c s
    rw [h]; unfold qL; split <;> (try split) <;> omega
  have hcr : -1 ≤ chanZ k a b c s ∧ chanZ k a b c s ≤ 1 := by
    obtain ⟨q, -, -, -, h⟩ := way k a b c s
    rw [h]; unfold qC; split <;> (try split) <;> omega
  generalize lockZ k a b c s = lz at *
  generalize chanZ k a b c s = cz at *
  have HM := Lib.hid hm0
  clear hm0
  go_enter Try.func144, Try.ntmps144
  go_wp2_with fail
  refine region_in (by kernel_rfl) HS.out.drew ?_
  repeat (go_big_quiet_step ((go_at_call 150; first | (with_reducible exact call_in (ret_int hl (numin_any k a b c s 5 _))) | (with_reducible exact call_in (ret_int hc (numin_any k a b c s 6 _))))))
  refine wpQuiet_nil ?_
  rintro _ ⟨⟨w2, hw2⟩, rfl⟩
  have hB := hw2.below
  have hc2 := (hw2.blocks w.heap.size _ (List.mem_cons_self ..)).2 0
  have hz2 := (hw2.blocks w.heap.size _ (List.mem_cons_self ..)).1
  simp only [List.getElem?_toArray, List.getElem?_cons_zero] at hc2
  by_cases hlz : lz = -1
  · have e1 : (lz != -1) = false := by simp [hlz]
    by_cases hcz : cz = -1
    · have e2 : (cz != -1) = false := by simp [hcz]
      have hm := HM.out
      rw [if_neg (by omega), if_neg (by omega)] at hm
      go_wp2
      go_ret
      refine ⟨?_, hB⟩
      show Ending.returned (Value.int .i64 _) = Ending.returned (Value.int .i64 (m : Int))
      congr 2
      omega
    · have e2 : (cz != -1) = true := by simp [hcz]
      have hm := HM.out
      rw [if_neg (by omega), if_pos hcz] at hm
      have e3 : IntKind.i64.wrap (8 + cz) = 8 + cz := wrap64_small (by omega) (by omega)
      go_wp2
      go_ret
      refine ⟨?_, hB⟩
      show Ending.returned (Value.int .i64 _) = Ending.returned (Value.int .i64 (m : Int))
      congr 2
      omega
  · have e1 : (lz != -1) = true := by simp [hlz]
    have hm := HM.out
    rw [if_pos hlz] at hm
    have e3 : IntKind.i64.wrap (6 + lz) = 6 + lz := wrap64_small (by omega) (by omega)
    go_wp2
    go_ret
    refine ⟨?_, hB⟩
    show Ending.returned (Value.int .i64 _) = Ending.returned (Value.int .i64 (m : Int))
    congr 2
    omega

theorem met_lt {e : Evt} (h : e.x.okb = true) (h3 : e.t < 3) : metN e < 10 := by
  have hk : e.t.toNat < 3 := by omega
  rcases met_cases (e := e) h with ⟨_, h1, h2, _⟩ | ⟨_, h1, _, h2, _⟩ | ⟨_, _, _, _, _, _, h2⟩
  · omega
  · omega
  · omega
/-- The two rows of words at work. -/
def CW (w wr : World) (n : Nat) (W S : Nat → Nat) : Prop :=
  Below w.heap.size w wr ∧ (∃ cs, Bk wr w.heap.size 75 cs ∧ cs.size = n ∧ ∀ j, j < n → cs[j]? = some (.int .u64 (W j : Nat))) ∧
    ∃ cs, Bk wr (w.heap.size + 1) 75 cs ∧ cs.size = 10 ∧ ∀ p, p < 10 → cs[p]? = some (.int .u64 (S p : Nat))
theorem CW.below {w wr wv : World} {n : Nat} {W S : Nat → Nat} (h : CW w wr n W S) (hb : Below wr.heap.size wr wv) : CW w wv n W S := by
  obtain ⟨h0, ⟨cs, hbk, h1, h2⟩, cl, hbl, h3, h4⟩ := h
  exact ⟨below_on h0 hb, ⟨cs, hbk.below hb hbk.lt, h1, h2⟩, cl, hbl.below hb hbl.lt, h3, h4⟩
theorem CW.putW {w wr : World} {n : Nat} {W S : Nat → Nat} (h : CW w wr n W S) {k v : Nat} (hk : k < n) : CW w (wr.setCell ⟨w.heap.size, k, none⟩ (.int .u64 (v : Nat))) n (upd W k v) S := by
  obtain ⟨h0, ⟨cs, hbk, h1, h2⟩, cl, hbl, h3, h4⟩ := h
  refine ⟨h0.setCell (Nat.le_refl _) _, ⟨_, hbk.set k _, by simpa using h1, fun j hj => ?_⟩, cl, (Below.heap_setCell wr ⟨w.heap.size, k, none⟩ _ (w.heap.size + 1) (by show w.heap.size + 1 ≠ w.heap.size; omega)).trans hbl, h3, h4⟩
  unfold upd
  by_cases e : j = k
  · subst e; rw [Array.getElem?_setIfInBounds_self_of_lt (by omega), if_pos rfl]
  · rw [Array.getElem?_setIfInBounds_ne (by omega), if_neg e]; exact h2 j hj
theorem CW.putS {w wr : World} {n : Nat} {W S : Nat → Nat} (h : CW w wr n W S) {p v : Nat} (hp : p < 10) : CW w (wr.setCell ⟨w.heap.size + 1, p, none⟩ (.int .u64 (v : Nat))) n W (upd S p v) := by
  obtain ⟨h0, ⟨cs, hbk, h1, h2⟩, cl, hbl, h3, h4⟩ := h
  refine ⟨h0.setCell (Nat.le_succ _) _, ⟨cs, (Below.heap_setCell wr ⟨w.heap.size + 1, p, none⟩ _ w.heap.size (by show w.heap.size ≠ w.heap.size + 1; omega)).trans hbk, h1, h2⟩, _, hbl.set p _, by simpa using h3, fun j hj => ?_⟩
  unfold upd
  by_cases e : j = p
  · subst e; rw [Array.getElem?_setIfInBounds_self_of_lt (by omega), if_pos rfl]
  · rw [Array.getElem?_setIfInBounds_ne (by omega), if_neg e]; exact h4 j hj
theorem CW.cellW {w wr : World} {n : Nat} {W S : Nat → Nat} (h : CW w wr n W S) {k : Nat} (hk : k < n) : wr.cell? ⟨w.heap.size, k, none⟩ = some (.int .u64 (W k : Nat)) ∧ wr.frozen? ⟨w.heap.size, k, none⟩ = false ∧ w.heap.size < wr.heap.size := by
  obtain ⟨h0, ⟨cs, hbk, h1, h2⟩, -⟩ := h
  exact ⟨(hbk.cell k).trans (h2 k hk), hbk.free k, hbk.lt⟩
theorem CW.cellS {w wr : World} {n : Nat} {W S : Nat → Nat} (h : CW w wr n W S) {p : Nat} (hp : p < 10) : wr.cell? ⟨w.heap.size + 1, p, none⟩ = some (.int .u64 (S p : Nat)) ∧ wr.frozen? ⟨w.heap.size + 1, p, none⟩ = false ∧ w.heap.size + 1 < wr.heap.size := by
  obtain ⟨h0, -, cl, hbl, h3, h4⟩ := h
  exact ⟨(hbl.cell p).trans (h4 p hp), hbl.free p, hbl.lt⟩
def wK (l : Evts) (k : Nat) : Nat → Nat := fun j => if j < k then enc WC (ckK l j) else 0
def sK (l : Evts) (k : Nat) : Nat → Nat := fun p => enc WC (stK l k p)
theorem wK_next (l : Evts) (k : Nat) : upd (wK l k) k (enc WC (ckK l k)) = wK l (k + 1) := by
  funext j
  unfold upd wK
  by_cases e : j = k
  · subst e; rw [if_pos rfl, if_pos (by omega)]
  · rw [if_neg e]
    by_cases e2 : j < k
    · rw [if_pos e2, if_pos (by omega)]
    · rw [if_neg e2, if_neg (by omega)]
theorem sK_next {l : Evts} {k : Nat} {x : Evt} (h : l[k]? = some x) : (if x.x.k = 6 then upd (sK l k) x.t.toNat (enc WC (ckK l k)) else upd (upd (sK l k) x.t.toNat (enc WC (ckK l k))) (metN x) (enc WC (ckK l k))) = sK l (k + 1) := by
  funext p
  have e : ckK l k = nowC (stK l k) x := by unfold ckK; rw [gE_at h]
  unfold sK
  rw [stK_next h, e]
  unfold nextC
  by_cases h6 : x.x.k = 6
  · rw [if_pos h6, if_pos h6]; unfold upd updC; split <;> rfl
  · rw [if_neg h6, if_neg h6]; unfold upd updC; split <;> (try split) <;> rfl
theorem st_low {l : Evts} {k : Nat} (h : k ≤ 9) (p : Nat) : Low (stK l k p) := fun q => by have := stK_le l k p q; omega
theorem ck_low {l : Evts} {k : Nat} (h : k ≤ 9) : Low (ckK l k) := fun q => by have := ckK_le l k q; omega
end Go.Proofs.Ytidibnmlceccnaa
namespace Go.Proofs.Ytidibnmlceccnaa
open Go.RowKit Pl Go.BigFrame
set_option maxHeartbeats 4000000
set_option maxRecDepth 100000
set_option linter.unusedVariables false

theorem cwords_any (k0 : EvsH) (l : Evts) (w : World) (B : Nat) (hR : EvsR w B k0 l) (hB : B ≤ w.heap.size) (h9 : l.length ≤ 9) (hT : ∀ e ∈ l, (0 ≤ e.t ∧ e.t < 3) ∧ e.x.okb = true) :
    Calls Try.prog 101 #[EvsV k0 l] w fun e w' => e = .returned (.tuple #[.slice (some ⟨w.heap.size, 0, none⟩) l.length l.length, .slice (some ⟨w.heap.size + 1, 0, none⟩) 10 10]) ∧ CW w w' l.length (wK l l.length) (sK l l.length) := by
  obtain ⟨A, c⟩ := k0
  obtain ⟨h⟩ := hR
  have h : Vs w B A (evs l) := h
  show Calls Try.prog 101 #[.slice A l.length c] w _
  obtain ⟨i0, hi, hz0, hz1, hz2⟩ := info_parts Try.info75
  have hmk := make_any Try.underlying88 hi hz0 l.length (by rw [hz2]; omega) (by omega)
  rw [hz1, Nat.mul_one] at hmk
  have hmk2 := make_any Try.underlying88 hi hz0 10 (by rw [hz2]; omega) (by omega)
  rw [hz1, Nat.mul_one, show ((10 : Nat) : Int) = 10 from rfl] at hmk2
  have start := Lib.hid (show CW w ((w.alloc (.cells (madeCells #[.int .u64 0] l.length) 75)).alloc (.cells (madeCells #[.int .u64 0] 10) 75)) l.length (wK l 0) (sK l 0) from
    ⟨((Below.refl _ _).alloc (Nat.le_refl _) _).alloc (by simp) _, ⟨_, (Bk.new _ _ _).alloc _, by simp [size_madeCells], fun j hj => by
      have e : wK l 0 j = 0 := by unfold wK; rw [if_neg (by omega)]
      rw [e]
      simp [madeCells, hj, Nat.mod_one]⟩, _, by have := Bk.new (w.alloc (.cells (madeCells #[.int .u64 0] l.length) 75)) (madeCells #[.int .u64 0] 10) 75; rwa [World.size_alloc] at this, by simp [size_madeCells], fun p hp => by
      have e : sK l 0 p = 0 := by unfold sK stK; rw [List.take_zero]; rfl
      rw [e]
      simp [madeCells, hp, Nat.mod_one]⟩)
  clear hz0 hz1 hz2 hi
  have HT := Lib.hid hT
  clear hT
  go_enter Try.func101, Try.ntmps101
  go_wp2
  go_loopw [16] (fun i wr => ∃ k : Nat, k ≤ l.length ∧ i = .int .i64 k ∧ CW w wr l.length (wK l k) (sK l k)) (fun i _ => l.length - (intOf i).toNat)
  case atStart => exact ⟨0, Nat.zero_le _, rfl, start.out⟩
  case round =>
    obtain ⟨k, hk, rfl, hq⟩ := hrel
    clear start hmk hmk2
    by_cases hlt : k < l.length
    · obtain ⟨b, off, x, rfl, hb, hx, -, hx0, hx1, hx2, hx3, hx4, hx5, hx6⟩ := (h.below hq.1 hB).ev_ hlt
      have hz := hq.1.size
      have hbw : b < wr.heap.size := by omega
      have hi1 : (k : Int) < (l.length : Int) := by omega
      obtain ⟨⟨ht0, ht3⟩, hok⟩ := HT.out x (List.mem_of_getElem? hx)
      have hck : ckK l k = incC (joinC (stK l k x.t.toNat) (stK l k (metN x))) x.t.toNat := by unfold ckK; rw [gE_at hx]; rfl
      have hsk := sK_next hx
      have hml : metN x < 10 := met_lt hok ht3
      obtain ⟨t, ti, q, a, bb, cc, ss⟩ := x
      have ht0 : 0 ≤ t := ht0
      have ht3 : t < 3 := ht3
      obtain ⟨tn, rfl⟩ : ∃ n : Nat, t = (n : Int) := ⟨t.toNat, by omega⟩
      simp only at hx0 hx1 hx2 hx3 hx4 hx5 hx6
      have ht : tn < 3 := by omega
      have iT : (tn : Int) < 10 := by omega
      simp only [Int.toNat_natCast] at hck hsk
      obtain ⟨m, hm⟩ : ∃ m, metN ⟨(tn : Int), ti, ⟨q, a, bb, cc, ss⟩⟩ = m := ⟨_, rfl⟩
      rw [hm] at hck hsk hml
      have HM := Lib.hid hm
      have iM : (m : Int) < 10 := by omega
      have hok' : okB q a bb cc ss = true := hok
      obtain ⟨V, hV⟩ : ∃ V, V = wr.alloc (.cells #[.int .i64 tn, .int .i64 ti, .int .i64 q, .int .i64 a, .int .i64 bb, .int .i64 cc, .bool ss] 81) := ⟨_, rfl⟩
      have bV : Below wr.heap.size wr V := by rw [hV]; go_grown
      have hbo : Bk V wr.heap.size 81 #[.int .i64 tn, .int .i64 ti, .int .i64 q, .int .i64 a, .int .i64 bb, .int .i64 cc, .bool ss] := by rw [hV]; exact Bk.new _ _ _
      have hqV := hq.below bV
      have hg : w.heap.size + 1 < wr.heap.size := (hq.cellS (p := 0) (by omega)).2.2
      have LT := Lib.hid (st_low (l := l) (k := k) (by omega) tn)
      have LM := Lib.hid (st_low (l := l) (k := k) (by omega) m)
      have LJ := Lib.hid (join_low LT.out LM.out)
      have HCK := Lib.hid hck
      have HSK := Lib.hid hsk
      have HV := Lib.hid hV
      have HQ := Lib.hid hqV
      have HBo := Lib.hid hbo
      have cT := (hqV.cellS (p := tn) (by omega)).1
      have cM := (hqV.cellS (p := m) hml).1
      have hol := hbo.lt
      have hS := fr_none V
      have gx0 := Ws.same (bs := []) hol (show V.cell? ⟨wr.heap.size, 0, none⟩ = some (.int .i64 tn) from hbo.cell 0)
      have gx1 := Ws.same (bs := []) hol (show V.cell? ⟨wr.heap.size, 1, none⟩ = some (.int .i64 ti) from hbo.cell 1)
      have gx2 := Ws.same (bs := []) hol (show V.cell? ⟨wr.heap.size, 2, none⟩ = some (.int .i64 q) from hbo.cell 2)
      have gx3 := Ws.same (bs := []) hol (show V.cell? ⟨wr.heap.size, 3, none⟩ = some (.int .i64 a) from hbo.cell 3)
      have gx4 := Ws.same (bs := []) hol (show V.cell? ⟨wr.heap.size, 4, none⟩ = some (.int .i64 bb) from hbo.cell 4)
      have gx5 := Ws.same (bs := []) hol (show V.cell? ⟨wr.heap.size, 5, none⟩ = some (.int .i64 cc) from hbo.cell 5)
      have gx6 := Ws.same (bs := []) hol (show V.cell? ⟨wr.heap.size, 6, none⟩ = some (.bool ss) from hbo.cell 6)
      haveI hne := Nonempty.intro (Ws.mk _ hS)
      have HS := Lib.hid hS
      have sV : wr.heap.size < V.heap.size := hol
      clear hq hV bV hS hx hm hok hck hsk hqV hbo hol
      go_wp2_with fail
      rw [← HV.out]
      obtain ⟨wo, hwo⟩ : ∃ wo : Nat, wo = wr.heap.size := ⟨_, rfl⟩
      clear hx0 hx1 hx2 hx3 hx4 hx5 hx6
      refine region_in (by kernel_rfl) HS.out.drew ?_
      repeat (go_big_quiet_step ((go_at_call 144; exact call_in (meet_any tn ti q a bb cc ss _ m hok' ht0 ht3 HM))))
      refine wpQuiet_nil ?_
      rintro w4 ⟨⟨wq, hw3⟩, rfl⟩
      have b3 := hw3.below
      clear gx0 gx1 gx2 gx3 gx4 gx5 gx6 hw3 hne
      have HQ3 := Lib.hid (HQ.out.below b3)
      have HB3 := Lib.hid (HBo.out.below b3 HBo.out.lt)
      have z3 := b3.size
      clear b3
      have c0 : w4.cell? ⟨wr.heap.size, 0, none⟩ = some (.int .i64 tn) := HB3.out.cell 0
      have c2 : w4.cell? ⟨wr.heap.size, 2, none⟩ = some (.int .i64 q) := HB3.out.cell 2
      have cT3 := (HQ3.out.cellS (p := tn) (by omega)).1
      have cM3 := (HQ3.out.cellS (p := m) hml).1
      have hl3 := HB3.out.lt
      clear cT cM
      have AllS := Lib.hid (show ∀ w', Below w4.heap.size w4 w' → (w'.cell? ⟨wr.heap.size, 0, none⟩ = some (.int .i64 tn) ∧ w'.cell? ⟨w.heap.size + 1, tn, none⟩ = some (.int .u64 (sK l k tn : Nat)) ∧ w'.cell? ⟨w.heap.size + 1, m, none⟩ = some (.int .u64 (sK l k m : Nat))) from fun w' hb => ⟨(hb.cell (p := ⟨wr.heap.size, 0, none⟩) hl3).trans c0, (hb.cell (p := ⟨w.heap.size + 1, tn, none⟩) (show w.heap.size + 1 < w4.heap.size by omega)).trans cT3, (hb.cell (p := ⟨w.heap.size + 1, m, none⟩) (show w.heap.size + 1 < w4.heap.size by omega)).trans cM3⟩)
      have AllF := Lib.hid (show ∀ v : World, Below w4.heap.size w4 v → ∀ r : Value, ((v.setCell ⟨w.heap.size, k, none⟩ r).cell? ⟨wr.heap.size, 0, none⟩ = some (.int .i64 tn) ∧ (v.setCell ⟨w.heap.size, k, none⟩ r).cell? ⟨w.heap.size + 1, tn, none⟩ = some (.int .u64 (sK l k tn : Nat)) ∧ (v.setCell ⟨w.heap.size, k, none⟩ r).cell? ⟨w.heap.size + 1, m, none⟩ = some (.int .u64 (sK l k m : Nat))) from fun v hBv r => ⟨(World.cell?_setCell_far _ _ _ _ (show w.heap.size ≠ wr.heap.size by omega)).trans (AllS.out v hBv).1, (World.cell?_setCell_far _ _ _ _ (show w.heap.size ≠ w.heap.size + 1 by omega)).trans (AllS.out v hBv).2.1, (World.cell?_setCell_far _ _ _ _ (show w.heap.size ≠ w.heap.size + 1 by omega)).trans (AllS.out v hBv).2.2⟩)
      have HJ := Lib.hid (fun v : World => wjoin_any (stK l k tn) (stK l k m) v LT.out LM.out)
      have HA := Lib.hid (fun v : World => adv_any (joinC (stK l k tn) (stK l k m)) tn v ht LJ.out)
      rw [← HCK.out] at HA
      have e1 : enc WC (stK l k tn) = sK l k tn := rfl
      have e2 : enc WC (stK l k m) = sK l k m := rfl
      rw [e1, e2] at HJ
      generalize enc WC (joinC (stK l k tn) (stK l k m)) = J at HJ HA
      generalize hN : enc WC (ckK l k) = N at HA HSK
      have HN := Lib.hid hN
      clear hN e1 e2
      go_wp2_with fail
      go_region_held3 (fun w' => w'.cell? ⟨wr.heap.size, 0, none⟩ = some (.int .i64 tn) ∧ w'.cell? ⟨w.heap.size + 1, tn, none⟩ = some (.int .u64 (sK l k tn : Nat)) ∧ w'.cell? ⟨w.heap.size + 1, m, none⟩ = some (.int .u64 (sK l k m : Nat))) (first | (with_reducible exact Fin.out) | (go_split_ands; refine AllS.out _ ?_; go_grown; done) | (refine AllS.out _ ?_; go_grown; done)) (first | (go_at_call 146; go_split_ands; refine (HJ.out _).mono ?_; rintro e v1 ⟨rfl, hv⟩; have hBv1 : Below w4.heap.size w4 v1 := below_on (by go_grown) hv; clear hv) | (go_at_call 145; go_split_ands; refine (HA.out _).mono ?_; rintro e v ⟨rfl, hv⟩; have hBv : Below w4.heap.size w4 v := below_on (by go_grown) hv; have HBv := Lib.hid hBv; have fW := ((HQ3.out.below hBv).cellW hlt).2.1; have cW := ((HQ3.out.below hBv).cellW hlt).1; have lW := ((HQ3.out.below hBv).cellW hlt).2.2; have Fin := Lib.hid (AllF.out v hBv (.int .u64 (N : Nat))); clear hv))
      have hw7 := (HQ3.out.below HBv.out).putW (v := N) hlt
      rw [← HN.out, wK_next] at hw7
      rw [HN.out] at hw7
      have eN : wK l (k + 1) k = N := by unfold wK; rw [if_pos (by omega), HN.out]
      have hb7 : Bk (v.setCell ⟨w.heap.size, k, none⟩ (.int .u64 (N : Nat))) wr.heap.size 81 #[.int .i64 tn, .int .i64 ti, .int .i64 q, .int .i64 a, .int .i64 bb, .int .i64 cc, .bool ss] :=
        (Below.heap_setCell v ⟨w.heap.size, k, none⟩ _ wr.heap.size (by show wr.heap.size ≠ w.heap.size; omega)).trans (HB3.out.below HBv.out HB3.out.lt)
      clear c0 c2 cT3 cM3 AllS AllF HJ HA Fin hBv HBv fW cW lW HQ3 HB3 HQ HBo
      try clear hHeld
      obtain ⟨w7, hW7⟩ : ∃ W, W = v.setCell ⟨w.heap.size, k, none⟩ (.int .u64 (N : Nat)) := ⟨_, rfl⟩
      rw [← hW7] at hw7 hb7
      rw [← hW7]
      clear hW7
      have cW7 := (hw7.cellW hlt).1
      rw [eN] at cW7
      obtain ⟨cT7, fT7, lT7⟩ := hw7.cellS (p := tn) (by omega)
      have hw8 := hw7.putS (p := tn) (v := N) (by omega)
      have hb8 : Bk (w7.setCell ⟨w.heap.size + 1, tn, none⟩ (.int .u64 (N : Nat))) wr.heap.size 81 #[.int .i64 tn, .int .i64 ti, .int .i64 q, .int .i64 a, .int .i64 bb, .int .i64 cc, .bool ss] :=
        (Below.heap_setCell w7 ⟨w.heap.size + 1, tn, none⟩ _ wr.heap.size (by show wr.heap.size ≠ w.heap.size + 1; omega)).trans hb7
      have cQ8 : (w7.setCell ⟨w.heap.size + 1, tn, none⟩ (.int .u64 (N : Nat))).cell? ⟨wr.heap.size, 2, none⟩ = some (.int .i64 q) := hb8.cell 2
      have cW8 := (hw8.cellW hlt).1
      rw [eN] at cW8
      obtain ⟨cM8, fM8, lM8⟩ := hw8.cellS (p := m) hml
      have lB8 := hb8.lt
      have HW8 := Lib.hid hw8
      clear hw7 hw8 hb7 hb8
      by_cases h6 : q = 6
      · have e6 : (q != 6) = false := by simp [h6]
        have hs := HSK.out
        rw [if_pos h6] at hs
        have HW9 := Lib.hid (hs ▸ HW8.out)
        clear hs h6
        go_wp2
        go_roundw
        case rel => exact ⟨k + 1, by omega, by go_num, HW9.out⟩
        case measure => simp [intOf]; omega
      · have e6 : (q != 6) = true := by simp [h6]
        have hs := HSK.out
        rw [if_neg h6] at hs
        have HW9 := Lib.hid (hs ▸ HW8.out.putS (p := m) (v := N) hml)
        clear hs h6
        go_wp2
        go_roundw
        case rel => exact ⟨k + 1, by omega, by go_num, HW9.out⟩
        case measure => simp [intOf]; omega
    · have hkk : k = l.length := by omega
      subst hkk
      have HQ := Lib.hid hq
      clear hq
      go_wp2
      go_returns
      exact ⟨rfl, HQ.out⟩
end Go.Proofs.Ytidibnmlceccnaa
