/-
  What the program's beforeRows and Before come to.
-/
import Derived.Test.YtiljakbjbiinkaaEvts
import Derived.Test.YtiljakbjbiinkaaDep3
import Derived.Test.YtiljakbjbiinkaaStOk
import Derived.Test.YtiljakbjbiinkaaSEvs
import Derived.BigRegion
namespace Go.Proofs.Ytiljakbjbiinkaa
open Go.RowKit Pl
set_option maxHeartbeats 2000000
set_option maxRecDepth 100000
set_option linter.unusedVariables false

/-- Whether a statement tells a later one something, as the program asks it. -/
def hoB (a b : Sm) : Bool :=
  if a.k = 7 then b.k == 6 && b.a == a.a
  else if a.k = 8 then b.k == 9 && b.b == a.a
  else if a.k = 9 then b.k == 8 && b.a == a.b
  else false
/-- The same, as the reference model asks it. -/
def syB (a b : Sm) : Bool :=
  if a.k = 7 ∧ b.k = 6 then a.a == b.a
  else decide (0 ≤ chanZ a.k a.a a.b a.c a.s) && (chanZ a.k a.a a.b a.c a.s == chanZ b.k b.a b.b b.c b.s && a.k != b.k)
theorem chan_ok {x : Sm} (h : x.okb = true) : chanZ x.k x.a x.b x.c x.s = if x.k = 8 then x.a else if x.k = 9 then x.b else -1 := by
  unfold chanZ
  rw [show okB x.k x.a x.b x.c x.s = true from h]
  rfl
theorem sy_eq {x y : Sm} (hx : x.okb = true) (hy : y.okb = true) : syB x y = hoB x y := by
  have ex := chan_ok hx
  have ey := chan_ok hy
  have px8 : x.k = 8 → 0 ≤ x.a := fun e => by obtain ⟨n, _, h⟩ := ok_ab2 (show okB x.k x.a x.b x.c x.s = true from hx) (by omega); omega
  have py8 : y.k = 8 → 0 ≤ y.a := fun e => by obtain ⟨n, _, h⟩ := ok_ab2 (show okB y.k y.a y.b y.c y.s = true from hy) (by omega); omega
  have px9 : x.k = 9 → 0 ≤ x.b := fun e => by obtain ⟨n, _, h⟩ := ok_b2 (show okB x.k x.a x.b x.c x.s = true from hx) e; omega
  have py9 : y.k = 9 → 0 ≤ y.b := fun e => by obtain ⟨n, _, h⟩ := ok_b2 (show okB y.k y.a y.b y.c y.s = true from hy) e; omega
  unfold syB hoB
  rw [ex, ey]
  clear ex ey hx hy
  obtain ⟨k, a, b, c, s⟩ := x
  obtain ⟨k', a', b', c', s'⟩ := y
  simp only at *
  rw [Bool.eq_iff_iff]
  by_cases h7 : k = 7
  · subst h7
    by_cases h6 : k' = 6
    · subst h6
      simp
      omega
    · simp [h6]
  · by_cases h8 : k = 8
    · subst h8
      have p0 := px8 rfl
      by_cases g9 : k' = 9
      · subst g9; simp; omega
      · by_cases g8 : k' = 8
        · subst g8; simp
        · simp [g8, g9]; omega
    · by_cases h9 : k = 9
      · subst h9
        have p0 := px9 rfl
        by_cases g8 : k' = 8
        · subst g8; simp; omega
        · by_cases g9 : k' = 9
          · subst g9; simp
          · simp [g8, g9]; omega
      · simp [h7, h8, h9]

abbrev gE (l : Evts) (i : Nat) : Evt := l.getD i default
def dirB (l : Evts) (i k : Nat) : Bool := (gE l i).t == (gE l k).t || hoB (gE l i).x (gE l k).x
def dirS (l : Evts) (i k : Nat) : Bool := (gE l i).t == (gE l k).t || syB (gE l i).x (gE l k).x
def okE (l : Evts) : Prop := ∀ i, i < l.length → (gE l i).x.okb = true
theorem dir_eq {l : Evts} (h : okE l) {i k : Nat} (hi : i < l.length) (hk : k < l.length) : dirS l i k = dirB l i k := by
  unfold dirS dirB
  rw [sy_eq (h i hi) (h k hk)]

/-! ### rows of bits -/
def accN (l : Evts) (k : Nat) (R : List Nat) : Nat → Nat
  | 0 => 0
  | i + 1 => if dirB l i k then accN l k R i ||| (R.getD i 0 ||| 2 ^ i) else accN l k R i
def rowsN (l : Evts) : Nat → List Nat
  | 0 => []
  | n + 1 => rowsN l n ++ [accN l n (rowsN l n) n]
@[simp] theorem rowsN_length (l : Evts) (n : Nat) : (rowsN l n).length = n := by
  induction n with
  | zero => rfl
  | succ n ih => simp [rowsN, ih]
/-- The row of an event. -/
def rN (l : Evts) (k : Nat) : Nat := accN l k (rowsN l k) k
theorem rowsN_at (l : Evts) {n k : Nat} (h : k < n) : (rowsN l n)[k]? = some (rN l k) := by
  induction n with
  | zero => omega
  | succ n ih =>
    unfold rowsN
    by_cases e : k = n
    · subst e
      rw [List.getElem?_append_right (by simp), rowsN_length]
      simp [rN]
    · rw [List.getElem?_append_left (by simp; omega)]
      exact ih (by omega)
theorem rowsN_get (l : Evts) {n k : Nat} (h : k < n) : (rowsN l n).getD k 0 = rN l k := by
  simp [List.getD, rowsN_at l h]
/-- Whether an event happens before another one. -/
def cB (l : Evts) (i k : Nat) : Bool := (rN l k).testBit i
theorem acc_bit (l : Evts) (k j : Nat) : ∀ i, i ≤ k → ((accN l k (rowsN l k) i).testBit j = true ↔ ∃ a, a < i ∧ dirB l a k = true ∧ (cB l j a = true ∨ a = j)) := by
  intro i
  induction i with
  | zero => intro _; simp [accN]
  | succ i ih =>
    intro hi
    have ih := ih (by omega)
    unfold accN
    rw [rowsN_get l (show i < k by omega)]
    split
    · rename_i hd
      rw [Nat.testBit_or, Nat.testBit_or, Nat.testBit_two_pow, Bool.or_eq_true, Bool.or_eq_true, ih]
      constructor
      · rintro (⟨a, h1, h2, h3⟩ | h | h)
        · exact ⟨a, by omega, h2, h3⟩
        · exact ⟨i, by omega, hd, Or.inl h⟩
        · exact ⟨i, by omega, hd, Or.inr (of_decide_eq_true h)⟩
      · rintro ⟨a, h1, h2, h3⟩
        by_cases e : a = i
        · subst e
          rcases h3 with h3 | h3
          · exact Or.inr (Or.inl h3)
          · exact Or.inr (Or.inr (decide_eq_true h3))
        · exact Or.inl ⟨a, by omega, h2, h3⟩
    · rename_i hd
      rw [ih]
      constructor
      · rintro ⟨a, h1, h2, h3⟩
        exact ⟨a, by omega, h2, h3⟩
      · rintro ⟨a, h1, h2, h3⟩
        have : a ≠ i := fun e => by subst e; exact hd h2
        exact ⟨a, by omega, h2, h3⟩
theorem c_iff {l : Evts} {i k : Nat} : cB l i k = true ↔ ∃ a, a < k ∧ dirB l a k = true ∧ (cB l i a = true ∨ a = i) := acc_bit l k i k (Nat.le_refl _)
theorem c_lt {l : Evts} {i : Nat} : ∀ {k : Nat}, cB l i k = true → i < k := by
  intro k
  induction k using Nat.strongRecOn with
  | _ k ih =>
    intro h
    obtain ⟨a, h1, _, h3⟩ := c_iff.1 h
    rcases h3 with h3 | h3
    · have := ih a h1 h3; omega
    · omega
theorem acc_lt (l : Evts) (k i : Nat) (hi : i ≤ k) : accN l k (rowsN l k) i < 2 ^ k := by
  refine Nat.lt_pow_two_of_testBit _ fun j hj => ?_
  rw [Bool.eq_false_iff]
  intro h
  obtain ⟨a, h1, _, h3⟩ := (acc_bit l k j i hi).1 h
  rcases h3 with h3 | h3
  · have := c_lt h3; omega
  · omega
theorem rN_lt (l : Evts) (k : Nat) : rN l k < 2 ^ k := acc_lt l k k (Nat.le_refl _)
theorem c_trans {l : Evts} {i j : Nat} (hij : cB l i j = true) : ∀ {k : Nat}, cB l j k = true → cB l i k = true := by
  intro k
  induction k using Nat.strongRecOn with
  | _ k ih =>
    intro h
    obtain ⟨a, h1, h2, h3⟩ := c_iff.1 h
    rcases h3 with h3 | h3
    · exact c_iff.2 ⟨a, h1, h2, Or.inl (ih a h1 h3)⟩
    · subst h3; exact c_iff.2 ⟨a, h1, h2, Or.inl hij⟩

/-! ### a table, closed in rounds -/
def wA (d : Nat → Nat → Bool) : Nat → Nat → Nat → Bool
  | 0, i, k => d i k
  | m + 1, i, k => wA d m i k || (wA d m i m && wA d m m k)
theorem wA_col (d : Nat → Nat → Bool) (m a : Nat) : wA d (m + 1) a m = wA d m a m := by
  show (wA d m a m || (wA d m a m && wA d m m m)) = _
  cases wA d m a m <;> rfl
theorem wA_row (d : Nat → Nat → Bool) (m b : Nat) : wA d (m + 1) m b = wA d m m b := by
  show (wA d m m b || (wA d m m m && wA d m m b)) = _
  cases wA d m m b <;> cases wA d m m m <;> rfl
theorem wA_mono {d : Nat → Nat → Bool} {m m' i k : Nat} (h : m ≤ m') (hw : wA d m i k = true) : wA d m' i k = true := by
  induction m' with
  | zero => obtain rfl : m = 0 := by omega
            exact hw
  | succ n ih =>
    by_cases e : m = n + 1
    · subst e; exact hw
    · show (wA d n i k || _) = true
      rw [ih (by omega), Bool.true_or]
def dU (l : Evts) (i k : Nat) : Bool := decide (i < k) && dirB l i k
theorem wA_sound {l : Evts} : ∀ {m i k : Nat}, wA (dU l) m i k = true → cB l i k = true := by
  intro m
  induction m with
  | zero =>
    intro i k h
    have h' : (decide (i < k) && dirB l i k) = true := h
    rw [Bool.and_eq_true] at h'
    exact c_iff.2 ⟨i, of_decide_eq_true h'.1, h'.2, Or.inr rfl⟩
  | succ m ih =>
    intro i k h
    have h' : (wA (dU l) m i k || (wA (dU l) m i m && wA (dU l) m m k)) = true := h
    rw [Bool.or_eq_true, Bool.and_eq_true] at h'
    rcases h' with h' | ⟨h1, h2⟩
    · exact ih h'
    · exact c_trans (ih h1) (ih h2)
theorem wA_complete {l : Evts} {i : Nat} : ∀ {k : Nat}, cB l i k = true → wA (dU l) k i k = true := by
  intro k
  induction k using Nat.strongRecOn with
  | _ k ih =>
    intro h
    obtain ⟨a, h1, h2, h3⟩ := c_iff.1 h
    have h0 : wA (dU l) 0 a k = true := by show (decide (a < k) && dirB l a k) = true; rw [h2, decide_eq_true h1]; rfl
    rcases h3 with h3 | h3
    · have g1 := ih a h1 h3
      refine wA_mono (show a + 1 ≤ k by omega) ?_
      show (wA (dU l) a i k || (wA (dU l) a i a && wA (dU l) a a k)) = true
      rw [g1, wA_mono (Nat.zero_le _) h0]; simp
    · subst h3; exact wA_mono (Nat.zero_le _) h0
theorem wA_c {l : Evts} {n i k : Nat} (h : k ≤ n) : wA (dU l) n i k = cB l i k := by
  rw [Bool.eq_iff_iff]
  exact ⟨wA_sound, fun e => wA_mono h (wA_complete e)⟩
/-- The table in the midst of a round. -/
def midW (d : Nat → Nat → Bool) (m i k : Nat) : Nat → Nat → Bool := fun a b => if a < i ∨ (a = i ∧ b < k) then wA d (m + 1) a b else wA d m a b
theorem mid_col (d : Nat → Nat → Bool) (m i k a : Nat) : midW d m i k a m = wA d m a m := by
  unfold midW; split
  · exact wA_col d m a
  · rfl
theorem mid_row (d : Nat → Nat → Bool) (m i k b : Nat) : midW d m i k m b = wA d m m b := by
  unfold midW; split
  · exact wA_row d m b
  · rfl
/-- A table with one more true one. -/
def put2 (M : Nat → Nat → Bool) (i k : Nat) : Nat → Nat → Bool := fun a b => if a = i ∧ b = k then true else M a b
theorem mid_yes {d : Nat → Nat → Bool} {m i k : Nat} (h1 : wA d m i m = true) (h2 : wA d m m k = true) : put2 (midW d m i k) i k = midW d m i (k + 1) := by
  funext a b
  unfold put2 midW
  by_cases e : a = i ∧ b = k
  · obtain ⟨rfl, rfl⟩ := e
    rw [if_pos ⟨rfl, rfl⟩, if_pos (by omega)]
    show true = (wA d m a b || (wA d m a m && wA d m m b))
    rw [h1, h2]; simp
  · rw [if_neg e]
    by_cases h : a < i ∨ (a = i ∧ b < k)
    · rw [if_pos h, if_pos (by omega)]
    · rw [if_neg h, if_neg (by omega)]
theorem mid_no {d : Nat → Nat → Bool} {m i k : Nat} (h : (wA d m i m && wA d m m k) = false) : midW d m i k = midW d m i (k + 1) := by
  funext a b
  unfold midW
  by_cases e : a = i ∧ b = k
  · obtain ⟨rfl, rfl⟩ := e
    rw [if_neg (by omega), if_pos (by omega)]
    show _ = (wA d m a b || (wA d m a m && wA d m m b))
    rw [h]; simp
  · by_cases h : a < i ∨ (a = i ∧ b < k)
    · rw [if_pos h, if_pos (by omega)]
    · rw [if_neg h, if_neg (by omega)]

/-! ### the events of an order of a program -/
theorem step_at {L : Pg} {f : Nat → Nat} {t u : Nat} (h32 : L.length ≤ 3) (hu : u < 3) : stepF L f t (3 + u) = if u = t then nextF L f t (smAt L t (f (3 + t))) else f (3 + u) := by
  unfold stepF
  rw [keptF_hi h32 (by omega), affF_lo (by omega)]
  unfold upd
  by_cases e : u = t
  · rw [if_pos e, if_pos (by omega)]
  · rw [if_neg e, if_neg (by omega)]
theorem next_gt {L : Pg} {f : Nat → Nat} {t : Nat} {x : Sm} (h : f (3 + t) < (L.getD t []).length) : f (3 + t) + 1 ≤ nextF L f t x := by
  unfold nextF
  repeat' split
  all_goals omega
theorem at_le {L : Pg} {f : Nat → Nat} (I : Inv L f) {t : Nat} (ht : t < 3) : f (3 + t) ≤ (L.getD t []).length := by
  by_cases h : t < L.length
  · have hx : L[t]? = some L[t] := List.getElem?_eq_getElem h
    have := I.good.at_ t _ hx
    rw [getD_some hx]; exact this
  · rw [I.off (3 + t) (by unfold Off; omega)]; omega
theorem runE_few {L : Pg} (hL : progB L = true) : ∀ {xs : List Int} {f : Nat → Nat} {l : Evts}, Inv L f → runE L f xs = some l → l.length + (f (3 + 0) + f (3 + 1) + f (3 + 2)) ≤ (L.getD 0 []).length + (L.getD 1 []).length + (L.getD 2 []).length := by
  obtain ⟨h31, h32⟩ := prog_len hL
  intro xs
  induction xs with
  | nil =>
    intro f l I h
    unfold runE at h
    injection h with h
    subst h
    have := at_le I (t := 0) (by omega)
    have := at_le I (t := 1) (by omega)
    have := at_le I (t := 2) (by omega)
    simp only [List.length_nil]
    omega
  | cons th r ih =>
    intro f l I h
    unfold runE at h
    split at h
    · rename_i hg
      obtain ⟨t, rfl, ht, hc⟩ := goB_parts hg
      rw [Int.toNat_natCast] at h
      cases hq : runE L (stepF L f t) r with
      | none => rw [hq] at h; simp at h
      | some l' =>
        rw [hq] at h
        simp only [Option.map_some, Option.some.injEq] at h
        subst h
        have h1 := ih (inv_step hL I ht hc) hq
        have h2 := next_gt (x := smAt L t (f (3 + t))) (can_more I.good ht hc)
        rw [step_at h32 (by omega), step_at h32 (by omega), step_at h32 (by omega)] at h1
        have ht3 : t = 0 ∨ t = 1 ∨ t = 2 := by omega
        rw [List.length_cons]
        rcases ht3 with rfl | rfl | rfl
        · rw [if_pos rfl, if_neg (show ¬ (1 : Nat) = 0 by omega), if_neg (show ¬ (2 : Nat) = 0 by omega)] at h1; omega
        · rw [if_pos rfl, if_neg (show ¬ (0 : Nat) = 1 by omega), if_neg (show ¬ (2 : Nat) = 1 by omega)] at h1; omega
        · rw [if_pos rfl, if_neg (show ¬ (0 : Nat) = 2 by omega), if_neg (show ¬ (1 : Nat) = 2 by omega)] at h1; omega
    · cases h
theorem total3 {L : Pg} (h : L.length ≤ 3) : (L.getD 0 []).length + (L.getD 1 []).length + (L.getD 2 []).length = total L := by
  match L, h with
  | [], _ => rfl
  | [a], _ => simp [total]
  | [a, b], _ => simp [total]
  | [a, b, c], _ => simp [total]; omega
  | _ :: _ :: _ :: _ :: _, h => simp at h
theorem runE_ok {L : Pg} (hL : progB L = true) : ∀ {xs : List Int} {f : Nat → Nat} {l : Evts}, Inv L f → runE L f xs = some l → ∀ e ∈ l, e.x.okb = true := by
  obtain ⟨h31, h32⟩ := prog_len hL
  intro xs
  induction xs with
  | nil =>
    intro f l I h
    unfold runE at h
    injection h with h
    subst h
    intro e he; cases he
  | cons th r ih =>
    intro f l I h
    unfold runE at h
    split at h
    · rename_i hg
      obtain ⟨t, rfl, ht, hc⟩ := goB_parts hg
      rw [Int.toNat_natCast] at h
      cases hq : runE L (stepF L f t) r with
      | none => rw [hq] at h; simp at h
      | some l' =>
        rw [hq] at h
        simp only [Option.map_some, Option.some.injEq] at h
        subst h
        intro e he
        rcases List.mem_cons.1 he with rfl | he
        · have hm := can_more I.good ht hc
          obtain ⟨xs, hxs⟩ : ∃ xs, L[t]? = some xs := ⟨L[t], List.getElem?_eq_getElem ht⟩
          rw [getD_some hxs] at hm
          have hsx : smAt L t (f (3 + t)) = xs[f (3 + t)] := by unfold smAt; rw [getD_some hxs]; simp [List.getD, hm]
          show (smAt L t (f (3 + t))).okb = true
          rw [hsx]; exact (prog_thr hL hxs).2 _ _ (List.getElem?_eq_getElem hm)
        · exact ih (inv_step hL I ht hc) hq e he
    · cases h
theorem okE_of {l : Evts} (h : ∀ e ∈ l, e.x.okb = true) : okE l := fun i hi => by
  have : gE l i = l[i] := by simp [gE, List.getD, hi]
  rw [this]; exact h _ (List.getElem_mem hi)
/-- A table as rows. -/
def mat (n : Nat) (M : Nat → Nat → Bool) : List (List Bool) := (List.range n).map fun i => (List.range n).map (M i)
@[simp] theorem mat_length (n : Nat) (M : Nat → Nat → Bool) : (mat n M).length = n := by simp [mat]
theorem mat_at {n : Nat} {M : Nat → Nat → Bool} {i : Nat} {xs : List Bool} (h : (mat n M)[i]? = some xs) : i < n ∧ xs = (List.range n).map (M i) := by
  have hl := (List.getElem?_eq_some_iff.1 h).1
  rw [mat_length] at hl
  refine ⟨hl, ?_⟩
  simp [mat, hl] at h
  exact h.symm
theorem mat_congr {n : Nat} {M M' : Nat → Nat → Bool} (h : ∀ i k, i < n → k < n → M i k = M' i k) : mat n M = mat n M' := by
  unfold mat
  refine List.map_congr_left fun i hi => List.map_congr_left fun k hk => h i k (List.mem_range.1 hi) (List.mem_range.1 hk)
end Go.Proofs.Ytiljakbjbiinkaa
namespace Go.Proofs.Ytiljakbjbiinkaa
open Go.RowKit Pl
set_option maxHeartbeats 1000000
set_option linter.unusedVariables false

theorem Try.info62 : (Try.prog.info? 62).map (fun i => (i.zero, i.size, i.bytes)) = some (some (.slice none 0 0), 1, 24) := by kernel_rfl
def Tab (w : World) (lo hi n m : Nat) (D : Nat → Nat) (M : Nat → Nat → Bool) : Prop :=
  (∀ i, i < m → lo ≤ D i ∧ D i < hi ∧ ∃ cs, Bk w (D i) 4 cs ∧ cs.size = n ∧ ∀ j, j < n → cs[j]? = some (.bool (M i j))) ∧ ∀ i j, i < j → j < m → D i < D j
theorem Tab.keep {w w' : World} {lo hi lo' hi' n m : Nat} {D : Nat → Nat} {M : Nat → Nat → Bool} (h : Tab w lo hi n m D M) (hl : lo' ≤ lo) (hh : hi ≤ hi') (hk : ∀ i cs, lo ≤ i → i < hi → Bk w i 4 cs → w'.heap[i]? = w.heap[i]?) : Tab w' lo' hi' n m D M := by
  obtain ⟨h0, h1⟩ := h
  refine ⟨fun i hi => ?_, h1⟩
  obtain ⟨a, b, cs, hb, hs, hc⟩ := h0 i hi
  exact ⟨by omega, by omega, cs, (hk _ cs a b hb).trans hb, hs, hc⟩
theorem Tab.congr {w : World} {lo hi n m : Nat} {D : Nat → Nat} {M M' : Nat → Nat → Bool} (h : Tab w lo hi n m D M) (e : ∀ i j, i < m → j < n → M i j = M' i j) : Tab w lo hi n m D M' := by
  obtain ⟨h0, h1⟩ := h
  refine ⟨fun i hi => ?_, h1⟩
  obtain ⟨a, b, cs, hb, hs, hc⟩ := h0 i hi
  exact ⟨a, b, cs, hb, hs, fun j hj => by rw [← e i j hi hj]; exact hc j hj⟩
theorem Tab.inj {w : World} {lo hi n m : Nat} {D : Nat → Nat} {M : Nat → Nat → Bool} (h : Tab w lo hi n m D M) {i j : Nat} (hi : i < m) (hj : j < m) (e : D i = D j) : i = j := by
  rcases Nat.lt_trichotomy i j with h1 | h1 | h1
  · have := h.2 i j h1 hj; omega
  · exact h1
  · have := h.2 j i h1 hi; omega
theorem Tab.put {w : World} {lo hi n m : Nat} {D : Nat → Nat} {M : Nat → Nat → Bool} (h : Tab w lo hi n m D M) {i k : Nat} (hi' : i < m) (hk : k < n) : Tab (w.setCell ⟨D i, k, none⟩ (.bool true)) lo hi n m D (put2 M i k) := by
  have h' := h
  obtain ⟨h0, h1⟩ := h
  refine ⟨fun a ha => ?_, h1⟩
  obtain ⟨q0, q1, cs, hb, hs, hc⟩ := h0 a ha
  by_cases e : a = i
  · subst e
    refine ⟨q0, q1, _, hb.set k _, by simpa using hs, fun j hj => ?_⟩
    unfold put2
    by_cases e2 : k = j
    · subst e2; rw [Array.getElem?_setIfInBounds_self_of_lt (by omega), if_pos ⟨rfl, rfl⟩]
    · rw [Array.getElem?_setIfInBounds_ne e2, if_neg (by omega)]; exact hc j hj
  · refine ⟨q0, q1, cs, (Below.heap_setCell w ⟨D i, k, none⟩ _ (D a) (fun e3 => e (h'.inj ha hi' e3))).trans hb, hs, fun j hj => ?_⟩
    unfold put2
    rw [if_neg (by omega)]; exact hc j hj
theorem Tab.nil (w : World) (lo hi n : Nat) (D : Nat → Nat) (M : Nat → Nat → Bool) : Tab w lo hi n 0 D M := ⟨fun i h => absurd h (by omega), fun i j _ h => absurd h (by omega)⟩
theorem Tab.snoc {w : World} {lo hi hi' n m V : Nat} {D : Nat → Nat} {M : Nat → Nat → Bool} (h : Tab w lo hi n m D M) (hV : hi ≤ V) (hl : lo ≤ V) (hh : V < hi') {cs : Array Value} (hb : Bk w V 4 cs) (hs : cs.size = n) (hc : ∀ j, j < n → cs[j]? = some (.bool (M m j))) :
    Tab w lo hi' n (m + 1) (fun i => if i = m then V else D i) M := by
  obtain ⟨h0, h1⟩ := h
  refine ⟨fun a ha => ?_, fun i j hij hj => ?_⟩
  · show lo ≤ (if a = m then V else D a) ∧ (if a = m then V else D a) < hi' ∧ ∃ cs, Bk w (if a = m then V else D a) 4 cs ∧ cs.size = n ∧ ∀ j, j < n → cs[j]? = some (.bool (M a j))
    by_cases e : a = m
    · subst e; rw [if_pos rfl]; exact ⟨hl, hh, cs, hb, hs, hc⟩
    · rw [if_neg e]
      obtain ⟨q0, q1, r⟩ := h0 a (by omega)
      exact ⟨q0, by omega, r⟩
  · have hi2 : i ≠ m := by omega
    show (if i = m then V else D i) < (if j = m then V else D j)
    rw [if_neg hi2]
    by_cases e : j = m
    · rw [if_pos e]; have := (h0 i (by omega)).2.1; omega
    · rw [if_neg e]; exact h1 i j hij (by omega)
def heads (n m : Nat) (D : Nat → Nat) : List Value := (List.range m).map fun i => .slice (some ⟨D i, 0, none⟩) n n
@[simp] theorem heads_length (n m : Nat) (D : Nat → Nat) : (heads n m D).length = m := by simp [heads]
theorem heads_at {n m : Nat} {D : Nat → Nat} {i : Nat} (h : i < m) : (heads n m D)[i]? = some (.slice (some ⟨D i, 0, none⟩) n n) := by simp [heads, h]
theorem heads_snoc (n m V : Nat) (D : Nat → Nat) : heads n (m + 1) (fun i => if i = m then V else D i) = heads n m D ++ [.slice (some ⟨V, 0, none⟩) n n] := by
  unfold heads
  rw [List.range_succ, List.map_append]
  congr 1
  · refine List.map_congr_left fun i hi => ?_
    have := List.mem_range.1 hi
    show Value.slice (some ⟨(if i = m then V else D i), 0, none⟩) n n = _
    rw [if_neg (by omega)]
  · simp
/-- A table that is whole: its headers and its rows. -/
theorem tab_own {w : World} {lo hi n : Nat} {A : Option Addr} {D : Nat → Nat} {M : Nat → Nat → Bool} (hH : OwnVs w lo hi 62 A (heads n n D)) (hT : Tab w lo hi n n D M) : OwnVss w lo hi 62 4 A (vsBss (mat n M)) := fun hn => by
  rw [vsBss_length, mat_length] at hn
  obtain ⟨g, cs, hA, h0, h1, hb, hx⟩ := hH (by rw [heads_length]; exact hn)
  refine ⟨g, cs, fun i => some ⟨D i, 0, none⟩, fun _ => n, hA, h0, h1, hb, fun i vs hi' => ?_, fun i j vs us hij hi' hj _ _ e => ?_⟩
  · obtain ⟨xs, hxs, rfl⟩ := vsBss_inv hi'
    obtain ⟨hin, rfl⟩ := mat_at hxs
    rw [bools_length, List.length_map, List.length_range]
    refine ⟨hx i _ (heads_at hin), fun _ => ?_⟩
    obtain ⟨a, b, cr, hbr, hs, hc⟩ := hT.1 i hin
    refine ⟨D i, cr, rfl, a, b, hbr, fun j v hj => ?_⟩
    have hjl := (List.getElem?_eq_some_iff.1 hj).1
    rw [bools_length, List.length_map, List.length_range] at hjl
    rw [hc j hjl]
    simp [bools, hjl] at hj
    rw [hj]
  · obtain ⟨xs, hxs, rfl⟩ := vsBss_inv hi'
    obtain ⟨ys, hys, rfl⟩ := vsBss_inv hj
    have h2 := (mat_at hxs).1
    have h3 := (mat_at hys).1
    injection e with e
    injection e with e
    have := hT.inj h2 h3 e
    omega
/-- A table in memory at work: nothing below has turned, the headers and the rows stand below hi. -/
structure Ph (w wr : World) (g hi n : Nat) (D : Nat → Nat) (M : Nat → Nat → Bool) : Prop where
  bel : Below w.heap.size w wr
  top : hi ≤ wr.heap.size
  hd : OwnVs wr w.heap.size hi 62 (some ⟨g, 0, none⟩) (heads n n D)
  tab : Tab wr w.heap.size hi n n D M
theorem Ph.congr {w wr : World} {g hi n : Nat} {D : Nat → Nat} {M M' : Nat → Nat → Bool} (h : Ph w wr g hi n D M) (e : ∀ i j, i < n → j < n → M i j = M' i j) : Ph w wr g hi n D M' := ⟨h.bel, h.top, h.hd, h.tab.congr e⟩
theorem Ph.head {w wr : World} {g hi n : Nat} {D : Nat → Nat} {M : Nat → Nat → Bool} (h : Ph w wr g hi n D M) {i : Nat} (hi' : i < n) : wr.cell? ⟨g, i, none⟩ = some (.slice (some ⟨D i, 0, none⟩) n n) ∧ g < wr.heap.size := by
  obtain ⟨g', cs, hA, h0, h1, hb, hx⟩ := h.hd (by rw [heads_length]; omega)
  injection hA with hA
  injection hA with hA
  subst hA
  exact ⟨(hb.cell i).trans (hx i _ (heads_at hi')), hb.lt⟩
theorem Ph.cell {w wr : World} {g hi n : Nat} {D : Nat → Nat} {M : Nat → Nat → Bool} (h : Ph w wr g hi n D M) {i k : Nat} (hi' : i < n) (hk : k < n) : wr.cell? ⟨D i, k, none⟩ = some (.bool (M i k)) ∧ D i < wr.heap.size ∧ wr.frozen? ⟨D i, k, none⟩ = false := by
  obtain ⟨_, _, cs, hb, _, hc⟩ := h.tab.1 i hi'
  exact ⟨(hb.cell k).trans (hc k hk), hb.lt, hb.free k⟩
theorem Ph.put {w wr : World} {g hi n : Nat} {D : Nat → Nat} {M : Nat → Nat → Bool} (h : Ph w wr g hi n D M) {i k : Nat} (hi' : i < n) (hk : k < n) : Ph w (wr.setCell ⟨D i, k, none⟩ (.bool true)) g hi n D (put2 M i k) := by
  obtain ⟨a, b, cs, hb, _, _⟩ := h.tab.1 i hi'
  refine ⟨h.bel.setCell a _, by rw [World.size_setCell]; exact h.top, fun hn => ?_, h.tab.put hi' hk⟩
  obtain ⟨g', cg, hA, h0, h1, hbg, hx⟩ := h.hd hn
  refine ⟨g', cg, hA, h0, h1, (Below.heap_setCell wr ⟨D i, k, none⟩ _ g' (fun e => ?_)).trans hbg, hx⟩
  have e : g' = D i := e
  subst e
  unfold Bk at hb hbg
  rw [hb] at hbg
  injection hbg with hbg
  injection hbg with _ hbg
  cases hbg
/-- A row at work. -/
def RowB (wo wr : World) (n q : Nat) (f : Nat → Bool) : Prop :=
  Below wo.heap.size wo wr ∧ ∃ cs, Bk wr wo.heap.size 4 cs ∧ cs.size = n ∧ ∀ j, j < n → cs[j]? = some (.bool (decide (j < q) && f j))
theorem RowB.below {wo wr wv : World} {n q : Nat} {f : Nat → Bool} (h : RowB wo wr n q f) (hb : Below wr.heap.size wr wv) : RowB wo wv n q f := by
  obtain ⟨h0, cs, hbk, h1, h2⟩ := h
  exact ⟨below_on h0 hb, cs, hbk.below hb hbk.lt, h1, h2⟩
theorem RowB.put {wo wr : World} {n q : Nat} {f : Nat → Bool} (h : RowB wo wr n q f) {r : Bool} (hr : f q = r) : RowB wo (wr.setCell ⟨wo.heap.size, q, none⟩ (.bool r)) n (q + 1) f := by
  obtain ⟨h0, cs, hbk, h1, h2⟩ := h
  refine ⟨h0.setCell (Nat.le_refl _) _, _, hbk.set q _, by simpa using h1, fun j hj => ?_⟩
  by_cases e : q = j
  · subst e
    rw [Array.getElem?_setIfInBounds_self_of_lt (by omega), hr]; simp
  · rw [Array.getElem?_setIfInBounds_ne e, h2 j hj]
    have : decide (j < q) = decide (j < q + 1) := by rw [decide_eq_decide]; omega
    rw [this]
theorem RowB.start {wo : World} {n q : Nat} {f : Nat → Bool} (hf : ∀ j, j < q → f j = false) : RowB wo (wo.alloc (.cells (madeCells #[.bool false] n) 4)) n q f := by
  refine ⟨(Below.refl _ _).alloc (Nat.le_refl _) _, _, Bk.new _ _ _, by simp [size_madeCells], fun j hj => ?_⟩
  have e : (decide (j < q) && f j) = false := by
    by_cases h : j < q
    · rw [hf j h]; simp
    · simp [h]
  rw [e]
  simp [madeCells, hj, Nat.mod_one]
end Go.Proofs.Ytiljakbjbiinkaa
namespace Go.Proofs.Ytiljakbjbiinkaa
open Go.RowKit Pl Go.BigFrame
set_option maxHeartbeats 4000000
set_option maxRecDepth 100000
set_option linter.unusedVariables false

theorem bit_num {x i : Nat} (hx : x < 18446744073709551616) : (bits .and .u64 ((x : Int) / 2 ^ i) 1 == 1) = x.testBit i := by
  have e : ((x : Int) / 2 ^ i) = ((x / 2 ^ i : Nat) : Int) := by simp
  have h1 : (1 : Int) = ((1 : Nat) : Int) := rfl
  rw [e, h1, and_u64 (Nat.lt_of_le_of_lt (Nat.div_le_self _ _) hx) (by omega), Nat.and_one_is_mod, Nat.testBit_eq_decide_div_mod_eq]
  rw [Bool.eq_iff_iff]
  simp
  omega
theorem hasbit_any (x i : Nat) (w : World) (hx : x < 18446744073709551616) (hi : i < 64) (r : Bool) (hr : Hid (x.testBit i = r)) :
    Calls Try.prog 128 #[.int .u64 x, .int .i64 i] w fun e w' => e = .returned (.bool r) ∧ w = w' := by
  go_enter Try.func128, Try.ntmps128
  go_wp2
  go_ret
  refine ⟨?_, rfl⟩
  have := bit_num (i := i) hx
  rw [hr.out] at this
  simpa using this
theorem Try.info93 : (Try.prog.info? 93).map (fun i => (i.zero, i.size, i.bytes)) = some (some (.int .u64 0), 1, 8) := by kernel_rfl
/-- The rows of the first k events stand; that of the next one has come to a. -/
def RowsQ (w wr : World) (l : Evts) (k a : Nat) : Prop :=
  Below w.heap.size w wr ∧ ∃ cs, Bk wr w.heap.size 93 cs ∧ cs.size = l.length ∧ ∀ j, j < l.length → cs[j]? = some (.int .u64 ((if j < k then rN l j else if j = k then a else 0 : Nat) : Int))
theorem RowsQ.below {w wr wv : World} {l : Evts} {k a : Nat} (h : RowsQ w wr l k a) (hb : Below wr.heap.size wr wv) : RowsQ w wv l k a := by
  obtain ⟨h0, cs, hbk, h1, h2⟩ := h
  exact ⟨below_on h0 hb, cs, hbk.below hb hbk.lt, h1, h2⟩
theorem RowsQ.put {w wr : World} {l : Evts} {k a a' : Nat} (h : RowsQ w wr l k a) : RowsQ w (wr.setCell ⟨w.heap.size, k, none⟩ (.int .u64 (a' : Nat))) l k a' := by
  obtain ⟨h0, cs, hbk, h1, h2⟩ := h
  refine ⟨h0.setCell (Nat.le_refl _) _, _, hbk.set k _, by simpa using h1, fun j hj => ?_⟩
  by_cases e : k = j
  · subst e
    rw [Array.getElem?_setIfInBounds_self_of_lt (by omega), if_neg (by omega), if_pos rfl]
  · rw [Array.getElem?_setIfInBounds_ne e, h2 j hj]
    by_cases e2 : j < k
    · rw [if_pos e2, if_pos e2]
    · rw [if_neg e2, if_neg e2, if_neg (by omega), if_neg (by omega)]
theorem RowsQ.next {w wr : World} {l : Evts} {k : Nat} (h : RowsQ w wr l k (rN l k)) : RowsQ w wr l (k + 1) 0 := by
  obtain ⟨h0, cs, hbk, h1, h2⟩ := h
  refine ⟨h0, cs, hbk, h1, fun j hj => ?_⟩
  rw [h2 j hj]
  by_cases e : j < k
  · rw [if_pos e, if_pos (by omega)]
  · by_cases e2 : j = k
    · subst e2; rw [if_neg e, if_pos rfl, if_pos (by omega)]
    · rw [if_neg e, if_neg e2, if_neg (by omega)]; simp
theorem RowsQ.drew {w wr : World} {l : Evts} {k a : Nat} (h : RowsQ w wr l k a) : RowsQ w wr.drew l k a := by
  obtain ⟨h0, cs, hbk, h1, h2⟩ := h
  exact ⟨h0.trans ⟨rfl, rfl, rfl, Nat.le_refl _, fun _ _ => rfl⟩, cs, hbk, h1, h2⟩
theorem or_val {a b i : Nat} (ha : a < 18446744073709551616) (hb : b < 18446744073709551616) (hi : i < 64) : bits .or .u64 (a : Int) (bits .or .u64 (b : Int) (IntKind.u64.wrap ((2 : Int) ^ i))) = ((a ||| (b ||| 2 ^ i) : Nat) : Int) := by
  have h2 : 2 ^ i < 18446744073709551616 := by
    have : 2 ^ i < 2 ^ 64 := Nat.pow_lt_pow_right (by omega) hi
    omega
  have e : ((2 : Int) ^ i) = ((2 ^ i : Nat) : Int) := by simp
  rw [e]
  generalize 2 ^ i = m at h2
  rw [wrapu_small (by omega) (by omega), or_u64 hb h2, or_u64 ha (Nat.or_lt_two_pow (n := 64) (by omega) (by omega))]
theorem lt64 {x k : Nat} (h : x < 2 ^ k) (hk : k ≤ 63) : x < 18446744073709551616 := by
  have : 2 ^ k ≤ 2 ^ 63 := Nat.pow_le_pow_right (by omega) hk
  omega
/-- A row at work in block V. -/
def RowC (wr : World) (V n q : Nat) (f : Nat → Bool) : Prop := ∃ cs, Bk wr V 4 cs ∧ cs.size = n ∧ ∀ j, j < n → cs[j]? = some (.bool (decide (j < q) && f j))
theorem RowC.put {wr : World} {V n q : Nat} {f : Nat → Bool} (h : RowC wr V n q f) {r : Bool} (hr : f q = r) : RowC (wr.setCell ⟨V, q, none⟩ (.bool r)) V n (q + 1) f := by
  obtain ⟨cs, hbk, h1, h2⟩ := h
  refine ⟨_, hbk.set q _, by simpa using h1, fun j hj => ?_⟩
  by_cases e : q = j
  · subst e
    rw [Array.getElem?_setIfInBounds_self_of_lt (by omega), hr]; simp
  · rw [Array.getElem?_setIfInBounds_ne e, h2 j hj]
    have : decide (j < q) = decide (j < q + 1) := by rw [decide_eq_decide]; omega
    rw [this]
/-- What the loop over the rows of the answer has come to: the headers of the first i rows lie in block g. -/
def PB (w wr : World) (l : Evts) (i : Nat) (D : Nat → Nat) : Prop :=
  Below w.heap.size w wr ∧ w.heap.size < wr.heap.size ∧ (∃ cs, Bk wr w.heap.size 62 cs ∧ cs.size = l.length ∧ ∀ j, j < i → cs[j]? = some (.slice (some ⟨D j, 0, none⟩) l.length l.length)) ∧ Tab wr w.heap.size wr.heap.size l.length i D (cB l)
/-- A table, and whether there is one. -/
def AnsBs (w : World) (o : List (List Bool)) (r : Bool) (e : Ending) (w' : World) : Prop :=
  ∃ k : BssH, e = .returned (.tuple #[BssV k o, .bool r]) ∧ Below w.heap.size w w' ∧ w.heap.size ≤ w'.heap.size ∧ BssO w' w.heap.size w'.heap.size k o
def befO (l : Evts) : List (List Bool) := mat l.length (cB l)
def befE (L : Pg) (xs : List Int) : List (List Bool) := if evR L xs then befO (evE L xs) else []
theorem evE_facts {L : Pg} {xs : List Int} : okE (evE L xs) ∧ (evE L xs).length ≤ 9 := by
  unfold evE evO
  by_cases hp : progB L = true
  · rw [if_pos hp]
    obtain ⟨h31, h32⟩ := prog_len hp
    cases hq : runE L (keptF L zeroF L.length) xs with
    | none => exact ⟨fun i h => absurd h (by simp [evL]), by simp [evL]⟩
    | some l =>
      have h1 := runE_few hp (inv_beg hp) hq
      have h2 := total3 h32
      have h3 : total L ≤ 9 := by
        unfold progB at hp
        simp only [Bool.and_eq_true, decide_eq_true_eq] at hp
        exact hp.2.2
      refine ⟨okE_of (runE_ok hp (inv_beg hp) hq), ?_⟩
      show l.length ≤ 9
      omega
  · rw [if_neg hp]
    exact ⟨fun i h => absurd h (by simp [evL]), by simp [evL]⟩
theorem tot_le {α : Type} {L : List (List α)} {m : Nat} (h : ∀ x ∈ L, x.length ≤ m) : tot L ≤ L.length * m := by
  induction L with
  | nil => simp [tot]
  | cons x r ih =>
    have h1 := h x (List.mem_cons_self ..)
    have h2 := ih fun y hy => h y (List.mem_cons_of_mem _ hy)
    rw [tot_cons, List.length_cons, Nat.add_mul, Nat.one_mul]
    omega
theorem befE_small {L : Pg} {xs : List Int} (_ : PgS L) (_ : IsS xs) : BssS (befE L xs) := by
  have h9 := (evE_facts (L := L) (xs := xs)).2
  unfold befE
  split
  · unfold befO
    refine ⟨by rw [mat_length]; omega, ?_⟩
    have h1 := tot_le (L := mat (evE L xs).length (cB (evE L xs))) (m := (evE L xs).length) fun x hx => by
      unfold mat at hx
      rw [List.mem_map] at hx
      obtain ⟨i, _, rfl⟩ := hx
      simp
    rw [mat_length] at h1
    have : (evE L xs).length * (evE L xs).length ≤ 9 * 9 := Nat.mul_le_mul h9 h9
    omega
  · exact ⟨by simp, by simp [tot]⟩
end Go.Proofs.Ytiljakbjbiinkaa
