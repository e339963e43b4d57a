/-
  What LeastOrder comes to, of the program and of the reference model; lists of numbers as an answer: marked, held.
-/
import Derived.KernelRfl
import Derived.Test.YtbddmicgfhljeaaSBef
import Derived.Test.YtbddmicgfhljeaaDep3
namespace Go.Proofs.Ytbddmicgfhljeaa
set_option maxHeartbeats 1000000
set_option linter.unusedVariables false

/-! ### a heap -/
def heapB (v : List Int) : Prop := ∀ i, 0 < i → i < v.length → v.getD ((i - 1) / 2) 0 ≤ v.getD i 0
/-- A heap, but for the number at a place that rises. -/
def riseB (v : List Int) (at_ : Nat) : Prop :=
  (∀ i, 0 < i → i < v.length → i ≠ at_ → v.getD ((i - 1) / 2) 0 ≤ v.getD i 0) ∧
  ∀ c, 0 < at_ → 0 < c → c < v.length → (c - 1) / 2 = at_ → v.getD ((at_ - 1) / 2) 0 ≤ v.getD c 0
def cnt (v : List Int) (x : Int) : Nat := v.count x
theorem getD_set {v : List Int} {a i : Nat} {x : Int} (h : a < v.length) : (v.set a x).getD i 0 = if i = a then x else v.getD i 0 := by
  simp only [List.getD, List.getElem?_set]
  by_cases e : a = i
  · subst e; simp [h]
  · rw [if_neg e, if_neg (fun h => e h.symm)]
theorem cnt_set {v : List Int} {a : Nat} {n x : Int} (h : a < v.length) : cnt (v.set a n) x + (if v.getD a 0 = x then 1 else 0) = cnt v x + (if n = x then 1 else 0) := by
  unfold cnt
  have e : v.getD a 0 = v[a] := by simp [List.getD, h]
  rw [e, List.count_set h]
  have hp : v[a] = x → 0 < v.count x := fun e => List.count_pos_iff.2 (e ▸ List.getElem_mem h)
  by_cases e1 : v[a] = x
  · have := hp e1
    by_cases e2 : n = x
    · simp [e1, e2]; omega
    · simp [e1, e2]; omega
  · by_cases e2 : n = x
    · simp [e1, e2]
    · simp [e1, e2]
/-- One step of a number that rises. -/
theorem rise_step {l : List Int} {a : Nat} {n : Int} (ha : 0 < a) (hl : a < l.length) (hn : n < l.getD ((a - 1) / 2) 0) (h : riseB (l.set a n) a) :
    riseB ((l.set a (l.getD ((a - 1) / 2) 0)).set ((a - 1) / 2) n) ((a - 1) / 2) ∧ ∀ x, cnt ((l.set a (l.getD ((a - 1) / 2) 0)).set ((a - 1) / 2) n) x = cnt (l.set a n) x := by
  obtain ⟨h1, h2⟩ := h
  have hp : (a - 1) / 2 < a := by omega
  generalize hpq : (a - 1) / 2 = p at *
  have hpl : p < l.length := by omega
  have ev : ∀ i, (l.set a n).getD i 0 = if i = a then n else l.getD i 0 := fun i => getD_set hl
  have ew : ∀ i, ((l.set a (l.getD p 0)).set p n).getD i 0 = if i = p then n else if i = a then l.getD p 0 else l.getD i 0 := fun i => by
    rw [getD_set (by rw [List.length_set]; exact hpl), getD_set hl]
  refine ⟨⟨fun i hi hil hip => ?_, fun c hp0 hc hcl hcp => ?_⟩, fun x => ?_⟩
  · rw [List.length_set, List.length_set] at hil
    rw [ew, ew, if_neg hip]
    by_cases e1 : i = a
    · subst e1
      rw [hpq, if_pos rfl, if_pos rfl]; omega
    · rw [if_neg e1]
      by_cases e2 : (i - 1) / 2 = p
      · rw [if_pos e2]
        have := h1 i hi (by rw [List.length_set]; exact hil) e1
        rw [ev, ev, e2, if_neg e1, if_neg (by omega)] at this
        omega
      · rw [if_neg e2]
        by_cases e3 : (i - 1) / 2 = a
        · rw [if_pos e3]
          have := h2 i ha hi (by rw [List.length_set]; exact hil) e3
          rw [ev, ev, if_neg e1, if_neg (by omega)] at this
          exact this
        · rw [if_neg e3]
          have := h1 i hi (by rw [List.length_set]; exact hil) e1
          rw [ev, ev, if_neg e1, if_neg e3] at this
          exact this
  · rw [List.length_set, List.length_set] at hcl
    rw [ew, ew, if_neg (by omega), if_neg (by omega), if_neg (by omega)]
    have hpp := h1 p hp0 (by rw [List.length_set]; exact hpl) (by omega)
    rw [ev, ev, if_neg (by omega), if_neg (by omega)] at hpp
    by_cases e1 : c = a
    · rw [if_pos e1]; exact hpp
    · rw [if_neg e1]
      have := h1 c hc (by rw [List.length_set]; exact hcl) e1
      rw [ev, ev, hcp, if_neg e1, if_neg (by omega)] at this
      omega
  · have c1 := cnt_set (v := l.set a (l.getD p 0)) (a := p) (n := n) (x := x) (by rw [List.length_set]; exact hpl)
    have c2 := cnt_set (v := l) (a := a) (n := l.getD p 0) (x := x) hl
    have c3 := cnt_set (v := l) (a := a) (n := n) (x := x) hl
    have hpa : ¬ p = a := by omega
    rw [getD_set hl, if_neg hpa] at c1
    omega
theorem rise_done {l : List Int} {a : Nat} {n : Int} (hl : a < l.length) (hd : a = 0 ∨ l.getD ((a - 1) / 2) 0 ≤ n) (h : riseB (l.set a n) a) : heapB (l.set a n) := by
  intro i hi hil
  by_cases e : i = a
  · subst e
    rcases hd with hd | hd
    · omega
    · rw [getD_set hl, getD_set hl, if_neg (by omega), if_pos rfl]; exact hd
  · exact h.1 i hi hil e
theorem rise_start {l : List Int} (h : heapB l) (n : Int) : riseB ((l ++ [n]).set l.length n) l.length ∧ ∀ x, cnt ((l ++ [n]).set l.length n) x = cnt l x + (if n = x then 1 else 0) := by
  have e : (l ++ [n]).set l.length n = l ++ [n] := by
    apply List.ext_getElem?
    intro i
    rw [List.getElem?_set]
    by_cases h : l.length = i
    · subst h; simp
    · rw [if_neg h]
  rw [e]
  refine ⟨⟨fun i hi hil hne => ?_, fun c h0 hc hcl hcp => ?_⟩, fun x => ?_⟩
  · rw [List.length_append, List.length_singleton] at hil
    have h1 := h i hi (by omega)
    have e1 : (l ++ [n]).getD i 0 = l.getD i 0 := by simp [List.getD, List.getElem?_append_left (show i < l.length by omega)]
    have e2 : (l ++ [n]).getD ((i - 1) / 2) 0 = l.getD ((i - 1) / 2) 0 := by simp [List.getD, List.getElem?_append_left (show (i - 1) / 2 < l.length by omega)]
    rw [e1, e2]; exact h1
  · rw [List.length_append, List.length_singleton] at hcl; omega
  · unfold cnt; rw [List.count_append, List.count_singleton]; simp
theorem heap_min {v : List Int} (h : heapB v) : ∀ i, i < v.length → v.getD 0 0 ≤ v.getD i 0 := by
  intro i
  induction i using Nat.strongRecOn with
  | _ i ih =>
    intro hi
    by_cases e : i = 0
    · subst e; exact Int.le_refl _
    · have h1 := h i (by omega) hi
      have h2 := ih ((i - 1) / 2) (by omega) (by omega)
      omega
theorem cnt_pos {v : List Int} {x : Int} (h : 0 < cnt v x) : ∃ i, i < v.length ∧ v.getD i 0 = x := by
  obtain ⟨i, hi, e⟩ := List.getElem_of_mem (List.count_pos_iff.1 h)
  exact ⟨i, hi, by simp [List.getD, hi, e]⟩
theorem cnt_of {v : List Int} {i : Nat} (h : i < v.length) : 0 < cnt v (v.getD i 0) := by
  have e : v.getD i 0 = v[i] := by simp [List.getD, h]
  rw [e]; exact List.count_pos_iff.2 (List.getElem_mem h)

/-! ### always the first free event of the first thread -/
/-- thread of each event, and whether the first one is needed by the second one -/
structure Evo where
  n : Nat
  th : Nat → Int
  nd : Nat → Nat → Bool
def frB (E : Evo) (d : Nat → Bool) (i : Nat) : Bool := !d i && (List.range i).all fun k => d k || !E.nd k i
theorem frB_iff {E : Evo} {d : Nat → Bool} {i : Nat} : frB E d i = true ↔ d i = false ∧ ∀ k, k < i → E.nd k i = true → d k = true := by
  unfold frB
  simp only [Bool.and_eq_true, Bool.not_eq_true', List.all_eq_true, List.mem_range, Bool.or_eq_true]
  constructor
  · rintro ⟨h1, h2⟩
    refine ⟨h1, fun k hk hn => ?_⟩
    rcases h2 k hk with h | h
    · exact h
    · rw [hn] at h; cases h
  · rintro ⟨h1, h2⟩
    refine ⟨h1, fun k hk => ?_⟩
    cases hn : E.nd k i with
    | false => exact Or.inr rfl
    | true => exact Or.inl (h2 k hk hn)
/-- The best one of the first i, as the reference model finds it: -1 if there is none. -/
def beI (E : Evo) (d : Nat → Bool) : Nat → Int
  | 0 => -1
  | i + 1 => if frB E d i && (decide (beI E d i < 0) || decide (E.th i < E.th (beI E d i).toNat)) then (i : Int) else beI E d i
theorem beI_ge (E : Evo) (d : Nat → Bool) : ∀ i, -1 ≤ beI E d i ∧ beI E d i < i := by
  intro i
  induction i with
  | zero => exact ⟨Int.le_refl _, by show (-1 : Int) < 0; omega⟩
  | succ i ih =>
    unfold beI
    split
    · omega
    · omega
theorem beI_spec (E : Evo) (d : Nat → Bool) : ∀ i, (beI E d i < 0 → ∀ k, k < i → frB E d k = false) ∧
    (0 ≤ beI E d i → frB E d (beI E d i).toNat = true ∧ ∀ k, k < i → frB E d k = true → E.th (beI E d i).toNat < E.th k ∨ (E.th (beI E d i).toNat = E.th k ∧ (beI E d i).toNat ≤ k)) := by
  intro i
  induction i with
  | zero => exact ⟨fun _ k hk => absurd hk (by omega), fun h => absurd h (by show ¬ (0 : Int) ≤ -1; omega)⟩
  | succ i ih =>
    obtain ⟨ih1, ih2⟩ := ih
    have hb := beI_ge E d i
    unfold beI
    split
    · rename_i hc
      rw [Bool.and_eq_true, Bool.or_eq_true] at hc
      obtain ⟨hf, hc⟩ := hc
      refine ⟨fun h => by omega, fun _ => ?_⟩
      rw [Int.toNat_natCast]
      refine ⟨hf, fun k hk hfk => ?_⟩
      by_cases e : k = i
      · subst e; exact Or.inr ⟨rfl, Nat.le_refl _⟩
      · rcases hc with hc | hc
        · have := ih1 (of_decide_eq_true hc) k (by omega)
          rw [this] at hfk; cases hfk
        · have hc := of_decide_eq_true hc
          by_cases h0 : beI E d i < 0
          · have := ih1 h0 k (by omega); rw [this] at hfk; cases hfk
          · rcases (ih2 (by omega)).2 k (by omega) hfk with h | h
            · left; omega
            · left; omega
    · rename_i hc
      rw [Bool.and_eq_true, Bool.or_eq_true] at hc
      refine ⟨fun h k hk => ?_, fun h => ⟨(ih2 h).1, fun k hk hfk => ?_⟩⟩
      · by_cases e : k = i
        · subst e
          cases hf : frB E d k with
          | false => rfl
          | true => exact absurd ⟨hf, Or.inl (decide_eq_true h)⟩ hc
        · exact ih1 h k (by omega)
      · by_cases e : k = i
        · subst e
          have h1 : ¬ E.th k < E.th (beI E d k).toNat := fun hh => hc ⟨hfk, Or.inr (decide_eq_true hh)⟩
          by_cases h2 : E.th (beI E d k).toNat = E.th k
          · exact Or.inr ⟨h2, by omega⟩
          · left; omega
        · exact (ih2 h).2 k (by omega) hfk
/-- Some event is free, as long as not all are done. -/
theorem some_free (E : Evo) (d : Nat → Bool) {k : Nat} (h : d k = false) : ∃ i, i ≤ k ∧ frB E d i = true := by
  induction k using Nat.strongRecOn with
  | _ k ih =>
    by_cases hf : frB E d k = true
    · exact ⟨k, Nat.le_refl _, hf⟩
    · have : ∃ j, j < k ∧ d j = false := by
        by_cases hx : ∃ j, j < k ∧ d j = false
        · exact hx
        · exfalso
          refine hf (frB_iff.2 ⟨h, fun j hj _ => ?_⟩)
          cases hd : d j with
          | true => rfl
          | false => exact absurd ⟨j, hj, hd⟩ hx
      obtain ⟨j, hj, hd⟩ := this
      obtain ⟨i, hi, hfi⟩ := ih j hj hd
      exact ⟨i, by omega, hfi⟩
def mkD (d : Nat → Bool) (b : Nat) : Nat → Bool := fun i => if i = b then true else d i
/-- The indices in the order in which they are taken. -/
def takeL (E : Evo) : Nat → (Nat → Bool) → List Nat
  | 0, _ => []
  | m + 1, d => (beI E d E.n).toNat :: takeL E m (mkD d (beI E d E.n).toNat)
def keyI (E : Evo) (i : Nat) : Int := E.th i * 9 + i
/-- The heap tells the free events. -/
def FreeL (E : Evo) (d : Nat → Bool) (v : List Int) : Prop := ∀ x, cnt v x = if ∃ i, i < E.n ∧ frB E d i = true ∧ x = keyI E i then 1 else 0
/-- All that is done needs only what is done. -/
def Clo (E : Evo) (d : Nat → Bool) : Prop := ∀ i, d i = true → ∀ k, k < i → E.nd k i = true → d k = true
def newB (E : Evo) (d : Nat → Bool) (b i : Nat) : Bool := frB E d i && (decide (b < i) && E.nd b i)
theorem key_inj {E : Evo} (h9 : E.n ≤ 9) {i j : Nat} (hi : i < E.n) (hj : j < E.n) (h : keyI E i = keyI E j) : i = j := by
  unfold keyI at h; omega
theorem clo_next {E : Evo} {d : Nat → Bool} {b : Nat} (h : Clo E d) (hb : frB E d b = true) : Clo E (mkD d b) := by
  intro i hi k hk hn
  unfold mkD at hi ⊢
  by_cases e : k = b
  · rw [if_pos e]
  · rw [if_neg e]
    by_cases e2 : i = b
    · subst e2; exact (frB_iff.1 hb).2 k hk hn
    · rw [if_neg e2] at hi; exact h i hi k hk hn
theorem free_next {E : Evo} {d : Nat → Bool} {b i : Nat} (hc : Clo E d) (hb : frB E d b = true) : frB E (mkD d b) i = true ↔ (frB E d i = true ∧ i ≠ b) ∨ newB E (mkD d b) b i = true := by
  have hdb := (frB_iff.1 hb).1
  constructor
  · intro h
    obtain ⟨h1, h2⟩ := frB_iff.1 h
    have hib : i ≠ b := fun e => by subst e; unfold mkD at h1; rw [if_pos rfl] at h1; cases h1
    have hdi : d i = false := by unfold mkD at h1; rwa [if_neg hib] at h1
    by_cases hn : b < i ∧ E.nd b i = true
    · right
      unfold newB
      rw [h, decide_eq_true hn.1, hn.2]; rfl
    · left
      refine ⟨frB_iff.2 ⟨hdi, fun k hk hnk => ?_⟩, hib⟩
      have := h2 k hk hnk
      unfold mkD at this
      by_cases e : k = b
      · subst e; exact absurd ⟨hk, hnk⟩ hn
      · rwa [if_neg e] at this
  · rintro (⟨h, hib⟩ | h)
    · obtain ⟨h1, h2⟩ := frB_iff.1 h
      refine frB_iff.2 ⟨by unfold mkD; rw [if_neg hib]; exact h1, fun k hk hnk => ?_⟩
      unfold mkD
      split
      · rfl
      · exact h2 k hk hnk
    · unfold newB at h
      rw [Bool.and_eq_true] at h
      exact h.1
theorem new_not {E : Evo} {d : Nat → Bool} {b i : Nat} (hb : frB E d b = true) (h : newB E (mkD d b) b i = true) : frB E d i = false := by
  unfold newB at h
  simp only [Bool.and_eq_true, decide_eq_true_eq] at h
  obtain ⟨_, hbi, hn⟩ := h
  rw [Bool.eq_false_iff]
  intro hf
  have := (frB_iff.1 hf).2 b hbi hn
  rw [(frB_iff.1 hb).1] at this; cases this
/-- How many of the first n are not done. -/
def nL (d : Nat → Bool) : Nat → Nat
  | 0 => 0
  | n + 1 => nL d n + if d n then 0 else 1
theorem nL_mk {d : Nat → Bool} {b : Nat} (hb : d b = false) : ∀ n, nL (mkD d b) n + (if b < n then 1 else 0) = nL d n := by
  intro n
  induction n with
  | zero => rfl
  | succ n ih =>
    show nL (mkD d b) n + (if mkD d b n then 0 else 1) + (if b < n + 1 then 1 else 0) = nL d n + if d n then 0 else 1
    by_cases e : n = b
    · subst e
      have e1 : mkD d n n = true := by unfold mkD; rw [if_pos rfl]
      have ih' : nL (mkD d n) n = nL d n := by rw [if_neg (Nat.lt_irrefl _)] at ih; omega
      rw [e1, hb, ih', if_pos (Nat.lt_succ_self _)]
      rfl
    · have e1 : mkD d b n = d n := by unfold mkD; rw [if_neg e]
      have e2 : (if b < n + 1 then 1 else 0 : Nat) = if b < n then 1 else 0 := by
        by_cases h : b < n
        · rw [if_pos h, if_pos (Nat.lt_succ_of_lt h)]
        · rw [if_neg h, if_neg (fun h2 => by omega)]
      rw [e1, e2]
      omega
theorem nL_zero {d : Nat → Bool} : ∀ {n : Nat}, nL d n = 0 → ∀ i, i < n → d i = true := by
  intro n
  induction n with
  | zero => intro _ i h; omega
  | succ n ih =>
    intro h i hi
    have h : nL d n + (if d n then 0 else 1) = 0 := h
    by_cases e : i = n
    · subst e
      cases hd : d i with
      | true => rfl
      | false => rw [hd] at h; simp at h
    · exact ih (by omega) i (by omega)
theorem nL_pos {d : Nat → Bool} : ∀ {n : Nat}, 0 < nL d n → ∃ i, i < n ∧ d i = false := by
  intro n
  induction n with
  | zero => intro h; exact absurd h (Nat.lt_irrefl _)
  | succ n ih =>
    intro h
    have h : 0 < nL d n + (if d n then 0 else 1) := h
    cases hd : d n with
    | false => exact ⟨n, Nat.lt_succ_self _, hd⟩
    | true =>
      rw [hd] at h
      obtain ⟨i, hi, e⟩ := ih (by simpa using h)
      exact ⟨i, by omega, e⟩
theorem nL_none (n : Nat) : nL (fun _ => false) n = n := by
  induction n with
  | zero => rfl
  | succ n ih => show nL (fun _ => false) n + _ = _; rw [ih]; rfl
/-- The best one there is, if not all are done. -/
theorem be_ok {E : Evo} {d : Nat → Bool} (h : 0 < nL d E.n) : 0 ≤ beI E d E.n ∧ frB E d (beI E d E.n).toNat = true ∧ (beI E d E.n).toNat < E.n := by
  obtain ⟨k, hk, hd⟩ := nL_pos h
  obtain ⟨i, hi, hf⟩ := some_free E d hd
  have hge := beI_ge E d E.n
  have hs := beI_spec E d E.n
  have h0 : 0 ≤ beI E d E.n := by
    rcases Int.lt_or_le (beI E d E.n) 0 with h0 | h0
    · have := hs.1 h0 i (by omega); rw [this] at hf; cases hf
    · exact h0
  exact ⟨h0, (hs.2 h0).1, by omega⟩
/-- The number at the top of the heap tells the best one. -/
theorem top_best {E : Evo} {d : Nat → Bool} {v : List Int} (h9 : E.n ≤ 9) (hth : ∀ i, i < E.n → 0 ≤ E.th i) (hF : FreeL E d v) (hh : heapB v) (hv : 0 < v.length) :
    0 < nL d E.n ∧ v.getD 0 0 = keyI E (beI E d E.n).toNat := by
  have hc := hF (v.getD 0 0)
  have h1 := cnt_of hv
  rw [hc] at h1
  have hex : ∃ i, i < E.n ∧ frB E d i = true ∧ v.getD 0 0 = keyI E i := by
    split at h1
    · assumption
    · omega
  obtain ⟨j, hj, hfj, ej⟩ := hex
  have hpos : 0 < nL d E.n := by
    rcases Nat.eq_zero_or_pos (nL d E.n) with h0 | h0
    · have := nL_zero h0 j hj
      rw [(frB_iff.1 hfj).1] at this; cases this
    · exact h0
  refine ⟨hpos, ?_⟩
  obtain ⟨h0, hfb, hbn⟩ := be_ok hpos
  generalize hb : (beI E d E.n).toNat = b at hfb hbn
  have hbe : beI E d E.n = (b : Int) := by omega
  have hs := (beI_spec E d E.n).2 h0
  rw [hb] at hs
  have hcb : cnt v (keyI E b) = 1 := by rw [hF, if_pos ⟨b, hbn, hfb, rfl⟩]
  obtain ⟨i, hi, ei⟩ := cnt_pos (v := v) (x := keyI E b) (by omega)
  have hmin := heap_min hh i hi
  rw [ei, ej] at hmin
  have hlt := hs.2 j hj hfj
  rw [ej]
  unfold keyI at hmin ⊢
  rcases hlt with h | ⟨h, h'⟩
  · omega
  · omega
theorem key_mod {E : Evo} {b : Nat} (h : b < 9) (hth : 0 ≤ E.th b) : keyI E b % 9 = (b : Int) := by unfold keyI; omega
/-- What is free behind the best one. -/
theorem free_step {E : Evo} {d : Nat → Bool} {v v' : List Int} {b : Nat} (h9 : E.n ≤ 9) (hF : FreeL E d v) (hC : Clo E d) (hb : frB E d b = true) (hbn : b < E.n) (hv : 0 < v.length) (hv0 : v.getD 0 0 = keyI E b)
    (hv' : ∀ x, cnt v' x = cnt v.tail x + if ∃ i, i < E.n ∧ newB E (mkD d b) b i = true ∧ x = keyI E i then 1 else 0) : FreeL E (mkD d b) v' := by
  intro x
  rw [hv']
  have ht : cnt v x = cnt v.tail x + if keyI E b = x then 1 else 0 := by
    cases v with
    | nil => simp at hv
    | cons a r =>
      have : a = keyI E b := hv0
      unfold cnt
      rw [List.tail_cons, List.count_cons, this]
      simp
  have hx := hF x
  by_cases e : keyI E b = x
  · rw [if_pos e] at ht
    rw [if_pos ⟨b, hbn, hb, e.symm⟩] at hx
    have n1 : ¬ ∃ i, i < E.n ∧ newB E (mkD d b) b i = true ∧ x = keyI E i := by
      rintro ⟨i, hi, hn, ex⟩
      have := key_inj h9 hbn hi (e.trans ex)
      subst this
      have := new_not hb hn
      rw [hb] at this; cases this
    have n2 : ¬ ∃ i, i < E.n ∧ frB E (mkD d b) i = true ∧ x = keyI E i := by
      rintro ⟨i, hi, hn, ex⟩
      have := key_inj h9 hbn hi (e.trans ex)
      subst this
      have := (frB_iff.1 hn).1
      unfold mkD at this
      rw [if_pos rfl] at this; cases this
    rw [if_neg n1, if_neg n2]; omega
  · rw [if_neg e] at ht
    have ht : cnt v.tail x = cnt v x := by omega
    rw [ht, hx]
    by_cases h1 : ∃ i, i < E.n ∧ frB E d i = true ∧ x = keyI E i
    · obtain ⟨i, hi, hf, ex⟩ := h1
      have hib : i ≠ b := fun h => by subst h; exact e ex.symm
      have n3 : ¬ ∃ j, j < E.n ∧ newB E (mkD d b) b j = true ∧ x = keyI E j := by
        rintro ⟨j, hj, hn, ex2⟩
        have := key_inj h9 hi hj (ex.symm.trans ex2)
        subst this
        have := new_not hb hn
        rw [hf] at this; cases this
      rw [if_pos ⟨i, hi, hf, ex⟩, if_neg n3, if_pos ⟨i, hi, (free_next hC hb).2 (Or.inl ⟨hf, hib⟩), ex⟩]
    · rw [if_neg h1]
      by_cases h2 : ∃ i, i < E.n ∧ newB E (mkD d b) b i = true ∧ x = keyI E i
      · obtain ⟨i, hi, hn, ex⟩ := h2
        rw [if_pos ⟨i, hi, hn, ex⟩, if_pos ⟨i, hi, (free_next hC hb).2 (Or.inr hn), ex⟩]
      · rw [if_neg h2, if_neg]
        rintro ⟨i, hi, hf, ex⟩
        rcases (free_next hC hb).1 hf with ⟨hf, _⟩ | hn
        · exact h1 ⟨i, hi, hf, ex⟩
        · exact h2 ⟨i, hi, hn, ex⟩
theorem take_step {E : Evo} {d : Nat → Bool} {m : Nat} (h : nL d E.n = m + 1) : nL (mkD d (beI E d E.n).toNat) E.n = m := by
  obtain ⟨h0, hf, hn⟩ := be_ok (E := E) (d := d) (by omega)
  have := nL_mk (frB_iff.1 hf).1 E.n
  rw [if_pos hn] at this
  omega
end Go.Proofs.Ytbddmicgfhljeaa
namespace Go.Proofs.Ytbddmicgfhljeaa
open Go.RowKit Pl
set_option maxHeartbeats 4000000
set_option maxRecDepth 100000
set_option linter.unusedVariables false

theorem own_set {w : World} {base n cap g i : Nat} {e : TypeId} {vs : List Value} (h : w.ownsRow base e 1 (.slice (some ⟨g, 0, none⟩) n cap) n vs) (v : Value) : (w.setCell ⟨g, i, none⟩ v).ownsRow base e 1 (.slice (some ⟨g, 0, none⟩) n cap) n (vs.set i v) := by
  obtain ⟨h0, h1⟩ := h
  refine ⟨by rw [List.length_set]; exact h0, Or.inr ?_⟩
  rcases h1 with ⟨h1, h2⟩ | ⟨g', cap', cur, e1, e2, e3, h4, h5, h6, h7⟩
  · cases h1
  · injection e1 with e1 e4 e5
    injection e1 with e1
    injection e1 with e1
    subst e1 e5
    have hb : Bk w g e cur := e3
    exact ⟨g, cap, _, rfl, e2, hb.set i v, h4, h5, by simpa using h6, by rw [← h7, Array.toList_setIfInBounds, List.take_set]⟩
theorem own_at {w : World} {base n cap g : Nat} {l : List Int} (h : w.ownsRow base 3 1 (.slice (some ⟨g, 0, none⟩) n cap) n (ints l)) {i : Nat} (hi : i < l.length) : w.cell? ⟨g, i, none⟩ = some (.int .i64 (l.getD i 0)) ∧ g < w.heap.size ∧ w.frozen? ⟨g, i, none⟩ = false := by
  have hv := own_vs h rfl
  obtain ⟨g', cs, hA, _, _, hb, hx⟩ := hv (by rw [ints_length]; omega)
  injection hA with hA
  injection hA with hA
  subst hA
  have hx1 : l[i]? = some (l.getD i 0) := by simp [List.getD, hi]
  exact ⟨(hb.cell i).trans (hx i _ (ints_at hx1)), hb.lt, hb.free i⟩
theorem ints_set (l : List Int) (i : Nat) (x : Int) : ints (l.set i x) = (ints l).set i (.int .i64 x) := by simp [ints, List.map_set]
/-- A heap with more numbers, in memory of the call's own. -/
def PuS (w : World) (xs ys : List Int) (e : Ending) (w' : World) : Prop :=
  ∃ (v : List Int) (g cap : Nat), e = .returned (.slice (some ⟨g, 0, none⟩) v.length cap) ∧ Below w.heap.size w w' ∧ w.heap.size ≤ g ∧ w'.ownsRow w.heap.size 3 1 (.slice (some ⟨g, 0, none⟩) v.length cap) v.length (ints v) ∧ v.length = xs.length + ys.length ∧ heapB v ∧ ∀ x, cnt v x = cnt xs x + cnt ys x
def PuT (w wr : World) (o : Value) (v : List Int) : Prop :=
  ∃ g cap, o = .slice (some ⟨g, 0, none⟩) v.length cap ∧ w.heap.size ≤ g ∧ wr.ownsRow w.heap.size 3 1 (.slice (some ⟨g, 0, none⟩) v.length cap) v.length (ints v) ∧ Below w.heap.size w wr
theorem pushed_any (ab ao c1 : Nat) (xs : List Int) (A2 : Option Addr) (ys : List Int) (c2 : Nat) (w : World) (B : Nat) (h1 : Vs w B (some ⟨ab, ao, none⟩) (ints xs)) (h2 : Vs w B A2 (ints ys)) (hB : B ≤ w.heap.size) (hm : xs.length ≤ 100) (hm2 : ys.length ≤ 100) (hh : heapB xs) :
    Calls Try.prog 134 #[.slice (some ⟨ab, ao, none⟩) xs.length c1, .slice A2 ys.length c2] w (PuS w xs ys) := by
  obtain ⟨i0, hi, iz0, iz1, iz2⟩ := info_parts Try.info3
  have own0 := Lib.hid (World.ownsRow_made (base := w.heap.size) (e := 3) (size := 1) w #[] 0 (Nat.le_refl _) (by decide) (by simp))
  have hnews : Hid (∀ j u, (ints xs)[j]? = some u → (w.alloc (.cells #[] 3)).cell? ((⟨ab, ao, none⟩ : Addr).add j) = some u) := Lib.hid fun j u hj => by
    obtain ⟨b, off, hA, hb, hx⟩ := h1 (by have := (List.getElem?_eq_some_iff.1 hj).1; omega)
    injection hA with hA
    injection hA with hA1 hA2
    subst hA1 hA2
    rw [addr_add']
    exact (Below.cell ((Below.refl w.heap.size w).alloc (Nat.le_refl _) _) (by show ab < w.heap.size; omega)).trans (hx j u hj)
  have hone : Hid (∀ u ∈ ints xs, u.oneCell' = true) := Lib.hid fun u hu => by
    simp only [ints, List.mem_map] at hu
    obtain ⟨x, _, rfl⟩ := hu
    rfl
  have H2 := Lib.hid h2
  clear h1 h2
  go_enter Try.func134, Try.ntmps134
  go_wp2_with (at_builtin; refine wpList_append_own _ rfl (.tmp 9) (.tmp 10) 25 rfl w.heap.size 3 i0 _ 1 8 Try.underlying25 hi iz0 iz1 iz2 rfl (by decide) _ 0 [] rfl own0.out ⟨ab, ao, none⟩ xs.length c1 (ints xs) rfl (by rw [ints_length]; omega) hnews.out hone.out (by unfold maxLen; omega) (by omega) (by simp) ?_; intro v' w4 own4 grow4 hiff; have OW := Lib.hid own4; have HI := Lib.hid hiff; have B4 := Lib.hid (((Below.refl w.heap.size w).alloc (Nat.le_refl _) (.cells #[] 3)).grown grow4 (by simp) (by intro q hq; cases hq; exact Nat.le_refl _)); clear own4 grow4 hiff)
  obtain ⟨g, cap, rfl, hg⟩ : ∃ g cap, v' = .slice (some ⟨g, 0, none⟩) xs.length cap ∧ w.heap.size ≤ g := by
    rcases OW.out.2 with ⟨h, _⟩ | ⟨g, cap, cur, e1, e2, _⟩
    · have := (HI.out.1 h).1
      exact absurd (show Value.slice (some ⟨w.heap.size, 0, none⟩) 0 0 = Value.slice none 0 0 from this) (by simp)
    · rw [Nat.zero_add] at e1
      exact ⟨g, cap, e1, e2⟩
  have start : Hid (PuT w w4 (.slice (some ⟨g, 0, none⟩) xs.length cap) xs) := Lib.hid (by
    have := OW.out
    rw [Nat.zero_add, List.nil_append] at this
    exact ⟨g, cap, rfl, hg, this, B4.out⟩)
  clear OW HI B4
  go_loopw [5, 14] (fun o i wr => ∃ (j : Nat) (v : List Int), j ≤ ys.length ∧ i = .int .i64 j ∧ PuT w wr o v ∧ v.length ≤ 100 + j ∧ Hid (v.length = xs.length + j) ∧ heapB v ∧ Hid (∀ x, cnt v x = cnt xs x + cnt (ys.take j) x)) (fun _ i _ => ys.length - (intOf i).toNat)
  case atStart => exact ⟨0, xs, Nat.zero_le _, rfl, start.out, by omega, Lib.hid (by omega), hh, Lib.hid (fun x => by simp [cnt])⟩
  case round =>
    obtain ⟨j, v, hj, rfl, ⟨g, cap, rfl, hg, hown, hbel⟩, hv200, hlen, hheap, hcnt⟩ := hrel
    clear start hnews hone own0
    have hz := hbel.size
    by_cases hlt : j < ys.length
    · obtain ⟨b, off, n, rfl, hb, hn, -, hc0⟩ := (H2.out.below hbel (by omega)).int_ hlt
      have hi2 : (j : Int) < (ys.length : Int) := by omega
      have hbw : b < wr.heap.size := by omega
      have HN := Lib.hid hn
      have HO := Lib.hid hown
      have HB := Lib.hid hbel
      have Hst := Lib.hid (rise_start hheap n)
      clear hn hown hbel hheap
      go_wp2_with (at_builtin; refine wpList_append_own _ rfl (.tmp 20) (.tmp 22) 25 rfl w.heap.size 3 i0 _ 1 8 Try.underlying25 hi iz0 iz1 iz2 rfl (by decide) _ v.length _ rfl (HO.out.alloc _) ⟨_, 0, none⟩ 1 1 [.int .i64 _] rfl rfl (cell1_new _ _ _) (by intro u hu; simp at hu; subst hu; rfl) (by unfold maxLen; omega) (by omega) (by simp; omega) ?_; intro v' w3 own3 grow3 _; obtain ⟨g3, cap3, rfl, hg3, hlt3⟩ := own3.form (by omega); have Own3 := Lib.hid own3; have B3 := Lib.hid ((HB.out.alloc hz _).grown grow3 (by simp; omega) (by intro q hq; cases hq; exact hg)); clear own3 grow3)
      have OI := Lib.hid (show w3.ownsRow w.heap.size 3 1 (.slice (some ⟨g3, 0, none⟩) (v.length + 1) cap3) (v.length + 1) (ints (v ++ [n])) from by have := Own3.out; simpa [ints] using this)
      clear Own3 hc0
      obtain ⟨wo, rfl⟩ : ∃ wo : World, wo = w3 := ⟨_, rfl⟩
      go_loopw [8] (fun i wr => ∃ (l : List Int) (a : Nat), l.length = v.length + 1 ∧ a < v.length + 1 ∧ i = .int .i64 a ∧ wr.ownsRow w.heap.size 3 1 (.slice (some ⟨g3, 0, none⟩) (v.length + 1) cap3) (v.length + 1) (ints l) ∧ Below w.heap.size w wr ∧ Hid (riseB (l.set a n) a) ∧ Hid (∀ x, cnt (l.set a n) x = cnt v x + if n = x then 1 else 0)) (fun i _ => (intOf i).toNat)
      case atStart => exact ⟨v ++ [n], v.length, by simp, by omega, rfl, OI.out, B3.out, Lib.hid Hst.out.1, Lib.hid Hst.out.2⟩
      case round =>
        obtain ⟨l, a, hl, ha, rfl, hown, hbel, hrise, hcn⟩ := hrel
        clear OI B3 Hst
        by_cases h0 : a = 0
        · subst h0
          have Fin := Lib.hid (rise_done (by omega) (Or.inl rfl) hrise.out)
          have HO2 := Lib.hid (own_set (i := 0) hown (.int .i64 n))
          have HB2 := Lib.hid (hbel.setCell (p := ⟨g3, 0, none⟩) (show w.heap.size ≤ g3 from hg3) (.int .i64 n))
          obtain ⟨c2, lg, f2⟩ := own_at hown (i := 0) (by omega)
          clear hown hbel hrise
          go_wp2
          go_roundw
          case rel => exact ⟨j + 1, l.set 0 n, by omega, by go_num, ⟨g3, cap3, by rw [List.length_set, hl], hg3, by rw [List.length_set, hl, ints_set]; exact HO2.out, HB2.out⟩, by rw [List.length_set]; omega, Lib.hid (by rw [List.length_set, hl, hlen.out]; omega), Fin.out, Lib.hid (fun z => by rw [hcn.out z, hcnt.out z, List.take_add_one, HN.out]; unfold cnt; simp [List.count_append, List.count_singleton]; omega)⟩
          case measure => simp [intOf]; omega
        · obtain ⟨c1, lg, -⟩ := own_at hown (i := (a - 1) / 2) (by omega)
          obtain ⟨c2, -, f2⟩ := own_at hown (i := a) (by omega)
          obtain ⟨x, hx⟩ : ∃ x, l.getD ((a - 1) / 2) 0 = x := ⟨_, rfl⟩
          obtain ⟨y, hy⟩ : ∃ y, l.getD a 0 = y := ⟨_, rfl⟩
          have h1 : (0 : Int) < (a : Int) := by omega
          rw [hx] at c1
          rw [hy] at c2
          by_cases hp : n < x
          · have Nx := Lib.hid (rise_step (by omega) (by omega) (by rw [hx]; exact hp) hrise.out)
            rw [hx] at Nx
            have HO2 := Lib.hid (own_set (i := a) hown (.int .i64 x))
            have HB2 := Lib.hid (hbel.setCell (p := ⟨g3, a, none⟩) (show w.heap.size ≤ g3 from hg3) (.int .i64 x))
            have HCN := Lib.hid (fun z => (Nx.out.2 z).trans (hcn.out z))
            clear hown hbel hrise hcn
            go_wp2
            go_roundw
            case rel => exact ⟨l.set a x, (a - 1) / 2, by rw [List.length_set]; exact hl, by omega, by go_num, by rw [ints_set]; exact HO2.out, HB2.out, Lib.hid Nx.out.1, Lib.hid HCN.out⟩
            case measure => simp [intOf]; omega
          · have hp2 : x ≤ n := by omega
            have Fin := Lib.hid (rise_done (by omega) (Or.inr (by rw [hx]; exact hp2)) hrise.out)
            have HO2 := Lib.hid (own_set (i := a) hown (.int .i64 n))
            have HB2 := Lib.hid (hbel.setCell (p := ⟨g3, a, none⟩) (show w.heap.size ≤ g3 from hg3) (.int .i64 n))
            clear hown hbel hrise hp
            go_wp2
            go_roundw
            case rel => exact ⟨j + 1, l.set a n, by omega, by go_num, ⟨g3, cap3, by rw [List.length_set, hl], hg3, by rw [List.length_set, hl, ints_set]; exact HO2.out, HB2.out⟩, by rw [List.length_set]; omega, Lib.hid (by rw [List.length_set, hl, hlen.out]; omega), Fin.out, Lib.hid (fun z => by rw [hcn.out z, hcnt.out z, List.take_add_one, HN.out]; unfold cnt; simp [List.count_append, List.count_singleton]; omega)⟩
            case measure => simp [intOf]; omega
    · have hjl : j = ys.length := by omega
      subst hjl
      have HO := Lib.hid hown
      have HC := Lib.hid (fun x => by have := hcnt.out x; rw [List.take_length] at this; exact this)
      clear hown hcnt
      go_wp2
      go_ret
      exact ⟨v, g, cap, rfl, hbel, hg, HO.out, hlen.out, hheap, HC.out⟩
end Go.Proofs.Ytbddmicgfhljeaa
namespace Go.Proofs.Ytbddmicgfhljeaa
open Go.RowKit Pl Go.BigFrame
set_option maxHeartbeats 4000000
set_option maxRecDepth 100000
set_option linter.unusedVariables false

theorem evw_0 {k a b c : Int} {s : Bool} {q : Fin 11} (h : placeZ k a b c s = qP q ∧ writesB k a b c s = qW q ∧ lockZ k a b c s = qL q ∧ chanZ k a b c s = qC q) (i : Int) (w : World) :
    Calls Try.prog 169 #[Ev 0 i k a b c s] w fun e w' => e = .returned (.int .u64 ((1025 ||| qN q : Nat) : Int)) ∧ Below w.heap.size w w' := by
  have hS : Fr w [(w.heap.size, #[.int .i64 0, .int .i64 i, .int .i64 k, .int .i64 a, .int .i64 b, .int .i64 c, .bool s])] (w.alloc (.cells #[.int .i64 0, .int .i64 i, .int .i64 k, .int .i64 a, .int .i64 b, .int .i64 c, .bool s] 77)) := fr_one w _ _
  have hc1 := @Ws.cells w [(w.heap.size, #[.int .i64 0, .int .i64 i, .int .i64 k, .int .i64 a, .int .i64 b, .int .i64 c, .bool s])] w.heap.size _ (List.mem_cons_self ..)
  haveI hne := Nonempty.intro (Ws.mk _ hS)
  have HS := Lib.hid hS
  clear hS
  have Hor := Lib.hid (or_u64 (a := 1025) (b := qN q) (by decide) (by have := qN_lt q; omega))
  go_enter Try.func169, Try.ntmps169
  go_wp2_with fail
  refine region_in (by kernel_rfl) HS.out.drew ?_
  repeat (go_big_quiet_step (first | (go_at_call 178; exact call_in (changing_any 1 _ (by decide) 1025 (Lib.hid rfl))) | (go_at_call 179; exact call_in (sw_any h _))))
  refine wpQuiet_nil ?_
  rintro _ ⟨⟨w2, hw2⟩, rfl⟩
  have hB := hw2.below
  go_wp2
  go_ret
  refine ⟨?_, hB⟩
  rw [← Hor.out]
  rfl
theorem evw_1 {k a b c : Int} {s : Bool} {q : Fin 11} (h : placeZ k a b c s = qP q ∧ writesB k a b c s = qW q ∧ lockZ k a b c s = qL q ∧ chanZ k a b c s = qC q) (i : Int) (w : World) :
    Calls Try.prog 169 #[Ev 1 i k a b c s] w fun e w' => e = .returned (.int .u64 ((2050 ||| qN q : Nat) : Int)) ∧ Below w.heap.size w w' := by
  have hS : Fr w [(w.heap.size, #[.int .i64 1, .int .i64 i, .int .i64 k, .int .i64 a, .int .i64 b, .int .i64 c, .bool s])] (w.alloc (.cells #[.int .i64 1, .int .i64 i, .int .i64 k, .int .i64 a, .int .i64 b, .int .i64 c, .bool s] 77)) := fr_one w _ _
  have hc1 := @Ws.cells w [(w.heap.size, #[.int .i64 1, .int .i64 i, .int .i64 k, .int .i64 a, .int .i64 b, .int .i64 c, .bool s])] w.heap.size _ (List.mem_cons_self ..)
  haveI hne := Nonempty.intro (Ws.mk _ hS)
  have HS := Lib.hid hS
  clear hS
  have Hor := Lib.hid (or_u64 (a := 2050) (b := qN q) (by decide) (by have := qN_lt q; omega))
  go_enter Try.func169, Try.ntmps169
  go_wp2_with fail
  refine region_in (by kernel_rfl) HS.out.drew ?_
  repeat (go_big_quiet_step (first | (go_at_call 178; exact call_in (changing_any 2 _ (by decide) 2050 (Lib.hid rfl))) | (go_at_call 179; exact call_in (sw_any h _))))
  refine wpQuiet_nil ?_
  rintro _ ⟨⟨w2, hw2⟩, rfl⟩
  have hB := hw2.below
  go_wp2
  go_ret
  refine ⟨?_, hB⟩
  rw [← Hor.out]
  rfl
theorem evw_2 {k a b c : Int} {s : Bool} {q : Fin 11} (h : placeZ k a b c s = qP q ∧ writesB k a b c s = qW q ∧ lockZ k a b c s = qL q ∧ chanZ k a b c s = qC q) (i : Int) (w : World) :
    Calls Try.prog 169 #[Ev 2 i k a b c s] w fun e w' => e = .returned (.int .u64 ((4100 ||| qN q : Nat) : Int)) ∧ Below w.heap.size w w' := by
  have hS : Fr w [(w.heap.size, #[.int .i64 2, .int .i64 i, .int .i64 k, .int .i64 a, .int .i64 b, .int .i64 c, .bool s])] (w.alloc (.cells #[.int .i64 2, .int .i64 i, .int .i64 k, .int .i64 a, .int .i64 b, .int .i64 c, .bool s] 77)) := fr_one w _ _
  have hc1 := @Ws.cells w [(w.heap.size, #[.int .i64 2, .int .i64 i, .int .i64 k, .int .i64 a, .int .i64 b, .int .i64 c, .bool s])] w.heap.size _ (List.mem_cons_self ..)
  haveI hne := Nonempty.intro (Ws.mk _ hS)
  have HS := Lib.hid hS
  clear hS
  have Hor := Lib.hid (or_u64 (a := 4100) (b := qN q) (by decide) (by have := qN_lt q; omega))
  go_enter Try.func169, Try.ntmps169
  go_wp2_with fail
  refine region_in (by kernel_rfl) HS.out.drew ?_
  repeat (go_big_quiet_step (first | (go_at_call 178; exact call_in (changing_any 4 _ (by decide) 4100 (Lib.hid rfl))) | (go_at_call 179; exact call_in (sw_any h _))))
  refine wpQuiet_nil ?_
  rintro _ ⟨⟨w2, hw2⟩, rfl⟩
  have hB := hw2.below
  go_wp2
  go_ret
  refine ⟨?_, hB⟩
  rw [← Hor.out]
  rfl
/-- The word of an event of a thread. -/
def ewN (t : Fin 3) (q : Fin 11) : Nat := chgN (1 <<< t.val) ||| qN q
theorem ew_clash : ∀ (t u : Fin 3) (q r : Fin 11), clN (ewN t q) (ewN u r) = (decide (t = u) || qT q r) := by decide +kernel
theorem ew_lt : ∀ (t : Fin 3) (q : Fin 11), ewN t q < 2 ^ 20 := by decide +kernel
def depE (x y : Evt) : Bool := depB x.t x.i x.x.k x.x.a x.x.b x.x.c x.x.s y.t y.i y.x.k y.x.a y.x.b y.x.c y.x.s
/-- Which word an event has. -/
def EwOf (x : Evt) (W : Nat) : Prop := ∃ (t : Fin 3) (q : Fin 11), x.t = (t.val : Int) ∧ (placeZ x.x.k x.x.a x.x.b x.x.c x.x.s = qP q ∧ writesB x.x.k x.x.a x.x.b x.x.c x.x.s = qW q ∧ lockZ x.x.k x.x.a x.x.b x.x.c x.x.s = qL q ∧ chanZ x.x.k x.x.a x.x.b x.x.c x.x.s = qC q) ∧ W = ewN t q
theorem ew_some {x : Evt} (h0 : 0 ≤ x.t) (h3 : x.t < 3) : ∃ W, EwOf x W := by
  obtain ⟨q, hq⟩ := way x.x.k x.x.a x.x.b x.x.c x.x.s
  exact ⟨_, ⟨x.t.toNat, by omega⟩, q, by show x.t = ((x.t.toNat : Nat) : Int); omega, hq, rfl⟩
theorem ew_dep {x y : Evt} {V W : Nat} (hx : EwOf x V) (hy : EwOf y W) : clN V W = depE x y := by
  obtain ⟨t, q, ht, hq, rfl⟩ := hx
  obtain ⟨u, r, hu, hr, rfl⟩ := hy
  rw [ew_clash]
  unfold depE depB
  rw [tou_eq hq hr, qT_eq, ht, hu]
  congr 1
  rw [Bool.eq_iff_iff, decide_eq_true_eq, beq_iff_eq]
  constructor
  · rintro rfl; rfl
  · intro h; exact Fin.ext (by omega)
theorem evword_any {x : Evt} {W : Nat} (h : EwOf x W) (w : World) : Calls Try.prog 169 #[x.val] w fun e w' => e = .returned (.int .u64 (W : Nat)) ∧ Below w.heap.size w w' := by
  obtain ⟨t, q, ht, hq, rfl⟩ := h
  obtain ⟨xt, xi, k, a, b, c, s⟩ := x
  simp only at ht hq
  subst ht
  match t, hq with
  | ⟨0, h⟩, hq =>
    have e0 : ewN ⟨0, h⟩ q = 1025 ||| qN q := congrArg (fun z => z ||| qN q) (show chgN (1 <<< 0) = 1025 by decide)
    rw [e0]
    exact evw_0 hq xi w
  | ⟨1, h⟩, hq =>
    have e0 : ewN ⟨1, h⟩ q = 2050 ||| qN q := congrArg (fun z => z ||| qN q) (show chgN (1 <<< 1) = 2050 by decide)
    rw [e0]
    exact evw_1 hq xi w
  | ⟨2, h⟩, hq =>
    have e0 : ewN ⟨2, h⟩ q = 4100 ||| qN q := congrArg (fun z => z ||| qN q) (show chgN (1 <<< 2) = 4100 by decide)
    rw [e0]
    exact evw_2 hq xi w
end Go.Proofs.Ytbddmicgfhljeaa
namespace Go.Proofs.Ytbddmicgfhljeaa
open Go.RowKit Pl Go.BigFrame
set_option maxHeartbeats 4000000
set_option maxRecDepth 100000
set_option linter.unusedVariables false

/-- Words in a block. -/
def RowU (wr : World) (V n : Nat) (f : Nat → Nat) : Prop := ∃ cs, Bk wr V 71 cs ∧ cs.size = n ∧ ∀ j, j < n → cs[j]? = some (.int .u64 ((f j : Nat) : Int))
theorem RowU.below {w w' : World} {V n : Nat} {f : Nat → Nat} (h : RowU w V n f) (hb : Below w.heap.size w w') : RowU w' V n f := by
  obtain ⟨cs, hbk, h1, h2⟩ := h
  exact ⟨cs, hbk.below hb hbk.lt, h1, h2⟩
theorem RowU.keep {w w' : World} {V n : Nat} {f : Nat → Nat} (h : RowU w V n f) (hk : w'.heap[V]? = w.heap[V]?) : RowU w' V n f := by
  obtain ⟨cs, hbk, h1, h2⟩ := h
  exact ⟨cs, hk.trans hbk, h1, h2⟩
theorem RowU.congr {w : World} {V n : Nat} {f f' : Nat → Nat} (h : RowU w V n f) (e : ∀ j, j < n → f j = f' j) : RowU w V n f' := by
  obtain ⟨cs, hbk, h1, h2⟩ := h
  exact ⟨cs, hbk, h1, fun j hj => by rw [← e j hj]; exact h2 j hj⟩
theorem RowU.put {w : World} {V n k a : Nat} {f : Nat → Nat} (h : RowU w V n f) : RowU (w.setCell ⟨V, k, none⟩ (.int .u64 (a : Nat))) V n (fun j => if j = k then a else f j) := by
  obtain ⟨cs, hbk, h1, h2⟩ := h
  refine ⟨_, hbk.set k _, by simpa using h1, fun j hj => ?_⟩
  show _ = some (Value.int .u64 (((if j = k then a else f j : Nat) : Nat) : Int))
  by_cases e : j = k
  · subst e
    rw [Array.getElem?_setIfInBounds_self_of_lt (by omega), if_pos rfl]
  · rw [Array.getElem?_setIfInBounds_ne (fun h => e h.symm), if_neg e]
    exact h2 j hj
theorem RowU.cell {w : World} {V n : Nat} {f : Nat → Nat} (h : RowU w V n f) {j : Nat} (hj : j < n) : w.cell? ⟨V, j, none⟩ = some (.int .u64 ((f j : Nat) : Int)) ∧ V < w.heap.size ∧ w.frozen? ⟨V, j, none⟩ = false := by
  obtain ⟨cs, hbk, h1, h2⟩ := h
  exact ⟨(hbk.cell j).trans (h2 j hj), hbk.lt, hbk.free j⟩
theorem RowU.lt {w : World} {V n : Nat} {f : Nat → Nat} (h : RowU w V n f) : V < w.heap.size := by
  obtain ⟨cs, hbk, _⟩ := h; exact hbk.lt
theorem RowU.new (w : World) (n : Nat) : RowU (w.alloc (.cells (madeCells #[.int .u64 0] n) 71)) w.heap.size n (fun _ => 0) :=
  ⟨_, Bk.new _ _ _, by simp [size_madeCells], fun j hj => by simp [madeCells, hj, Nat.mod_one]⟩
/-- The earlier events on which one depends, as bits. -/
def ndA (l : Evts) (i : Nat) : Nat → Nat
  | 0 => 0
  | m + 1 => if depE (gE l m) (gE l i) then ndA l i m ||| 2 ^ m else ndA l i m
def ndN (l : Evts) (i : Nat) : Nat := ndA l i i
theorem ndA_bit (l : Evts) (i k : Nat) : ∀ m, (ndA l i m).testBit k = (decide (k < m) && depE (gE l k) (gE l i)) := by
  intro m
  induction m with
  | zero => simp [ndA]
  | succ m ih =>
    unfold ndA
    by_cases hd : depE (gE l m) (gE l i) = true
    · rw [if_pos hd, Nat.testBit_or, Nat.testBit_two_pow, ih]
      by_cases e : m = k
      · subst e
        rw [hd, decide_eq_true rfl, decide_eq_true (Nat.lt_succ_self _)]; simp
      · have e2 : decide (k < m + 1) = decide (k < m) := by rw [decide_eq_decide]; omega
        rw [decide_eq_false e, e2, Bool.or_false]
    · rw [if_neg hd, ih]
      by_cases e : m = k
      · subst e
        rw [Bool.not_eq_true] at hd
        rw [hd]; simp
      · have e2 : decide (k < m + 1) = decide (k < m) := by rw [decide_eq_decide]; omega
        rw [e2]
theorem ndA_lt (l : Evts) (i m : Nat) : ndA l i m < 2 ^ m := by
  refine Nat.lt_pow_two_of_testBit _ fun j hj => ?_
  rw [ndA_bit, decide_eq_false (by omega)]; rfl
theorem or_one {a i : Nat} (ha : a < 18446744073709551616) (hi : i < 64) : bits .or .u64 (a : Int) (IntKind.u64.wrap ((2 : Int) ^ i)) = ((a ||| 2 ^ i : Nat) : Int) := by
  have h2 : 2 ^ i < 18446744073709551616 := by
    have : 2 ^ i < 2 ^ 64 := Nat.pow_lt_pow_right (by omega) hi
    omega
  have e : ((2 : Int) ^ i) = ((2 ^ i : Nat) : Int) := by simp
  rw [e]
  generalize 2 ^ i = m at h2
  rw [wrapu_small (by omega) (by omega), or_u64 ha h2]
def thOk (l : Evts) : Prop := ∀ i, i < l.length → 0 ≤ (gE l i).t ∧ (gE l i).t < 3
theorem words_of {l : Evts} (h : thOk l) : ∃ W : Nat → Nat, ∀ i, i < l.length → EwOf (gE l i) (W i) := by
  classical
  refine ⟨fun i => if hi : i < l.length then (ew_some (h i hi).1 (h i hi).2).choose else 0, fun i hi => ?_⟩
  simp only [dif_pos hi]
  exact (ew_some (h i hi).1 (h i hi).2).choose_spec
theorem ew_small {x : Evt} {W : Nat} (h : EwOf x W) : W < 2 ^ 20 := by
  obtain ⟨t, q, _, _, rfl⟩ := h
  exact ew_lt t q
theorem needed_any (k0 : EvsH) (l : Evts) (w : World) (B : Nat) (hR : EvsR w B k0 l) (hB : B ≤ w.heap.size) (h9 : l.length ≤ 9) (hth : thOk l) :
    Calls Try.prog 133 #[EvsV k0 l] w fun e w' => e = .returned (.slice (some ⟨w.heap.size, 0, none⟩) l.length l.length) ∧ Below w.heap.size w w' ∧ RowU w' w.heap.size l.length (ndN l) := by
  obtain ⟨W, hW⟩ := words_of hth
  obtain ⟨A, c⟩ := k0
  obtain ⟨h⟩ := hR
  have h : Vs w B A (evs l) := h
  show Calls Try.prog 133 #[.slice A l.length c] w _
  obtain ⟨i0, hi, hz0, hz1, hz2⟩ := info_parts Try.info71
  have hmk := make_any Try.underlying92 hi hz0 l.length (by rw [hz2]; omega) (by omega)
  rw [hz1, Nat.mul_one] at hmk
  have start := Lib.hid (show Below w.heap.size w ((w.alloc (.cells (madeCells #[.int .u64 0] l.length) 71)).alloc (.cells (madeCells #[.int .u64 0] l.length) 71)) ∧ RowU ((w.alloc (.cells (madeCells #[.int .u64 0] l.length) 71)).alloc (.cells (madeCells #[.int .u64 0] l.length) 71)) w.heap.size l.length (fun j => if j < 0 then ndN l j else 0) ∧ RowU ((w.alloc (.cells (madeCells #[.int .u64 0] l.length) 71)).alloc (.cells (madeCells #[.int .u64 0] l.length) 71)) (w.heap.size + 1) l.length (fun j => if j < 0 then W j else 0) from by
    have s1 := RowU.new w l.length
    have s2 := RowU.new (w.alloc (.cells (madeCells #[.int .u64 0] l.length) 71)) l.length
    rw [World.size_alloc] at s2
    exact ⟨by go_grown, (s1.below ((Below.refl _ _).alloc (Nat.le_refl _) _)).congr fun j _ => by rw [if_neg (by omega)], s2.congr fun j _ => by rw [if_neg (by omega)]⟩)
  clear hz0 hz1 hz2 hi
  go_enter Try.func133, Try.ntmps133
  go_wp2
  go_loopw [16] (fun i wr => ∃ k : Nat, k ≤ l.length ∧ i = .int .i64 k ∧ Below w.heap.size w wr ∧ RowU wr w.heap.size l.length (fun j => if j < k then ndN l j else 0) ∧ RowU wr (w.heap.size + 1) l.length (fun j => if j < k then W j else 0)) (fun i _ => l.length - (intOf i).toNat)
  case atStart => exact ⟨0, Nat.zero_le _, rfl, start.out⟩
  case round =>
    obtain ⟨k, hk, rfl, hbel, hN, hU⟩ := hrel
    clear start hmk
    by_cases hlt : k < l.length
    · obtain ⟨b, off, x, rfl, hb, hx, -, hx0, hx1, hx2, hx3, hx4, hx5, hx6⟩ := (h.below hbel hB).ev_ hlt
      have hz := hbel.size
      have hbw : b < wr.heap.size := by omega
      have hi1 : (k : Int) < (l.length : Int) := by omega
      have hxe : gE l k = x := by simp [gE, List.getD, hx]
      have hwk := hW k hlt
      rw [hxe] at hwk
      obtain ⟨V, hV⟩ : ∃ V, V = wr.alloc (.cells #[.int .i64 x.t, .int .i64 x.i, .int .i64 x.x.k, .int .i64 x.x.a, .int .i64 x.x.b, .int .i64 x.x.c, .bool x.x.s] 77) := ⟨_, rfl⟩
      have bV : Below wr.heap.size wr V := by rw [hV]; go_grown
      have hbo : Bk V wr.heap.size 77 #[.int .i64 x.t, .int .i64 x.i, .int .i64 x.x.k, .int .i64 x.x.a, .int .i64 x.x.b, .int .i64 x.x.c, .bool x.x.s] := by rw [hV]; exact Bk.new _ _ _
      have o0 := hbo.cell 0
      have o1 := hbo.cell 1
      have o2 := hbo.cell 2
      have o3 := hbo.cell 3
      have o4 := hbo.cell 4
      have o5 := hbo.cell 5
      have o6 := hbo.cell 6
      have lo := hbo.lt
      have lU := hU.lt
      have lN := hN.lt
      have HN := Lib.hid (hN.below bV)
      have HU := Lib.hid (hU.below bV)
      have HB := Lib.hid (below_on hbel bV)
      have HWK := Lib.hid hwk
      have HV := Lib.hid hV
      clear hx hV bV hxe hbo hN hU hbel hwk
      go_wp2_with fail
      rw [← HV.out]
      clear hx0 hx1 hx2 hx3 hx4 hx5 hx6
      go_wp2_with fail
      refine (evword_any HWK.out _).mono ?_
      rintro e w4 ⟨rfl, hb4⟩
      obtain ⟨cU, lU4, fU⟩ := (HU.out.below hb4).cell hlt
      have HN4 := Lib.hid (show RowU (w4.setCell ⟨w.heap.size + 1, k, none⟩ (.int .u64 (W k : Nat))) w.heap.size l.length (fun j => if j < k then ndN l j else if j = k then ndA l k 0 else 0) from ((HN.out.below hb4).keep (Below.heap_setCell _ _ _ w.heap.size (show w.heap.size ≠ w.heap.size + 1 by omega))).congr fun j _ => by
        by_cases e : j < k
        · rw [if_pos e, if_pos e]
        · rw [if_neg e, if_neg e]; split <;> rfl)
      have HU4 := Lib.hid (show RowU (w4.setCell ⟨w.heap.size + 1, k, none⟩ (.int .u64 (W k : Nat))) (w.heap.size + 1) l.length (fun j => if j < k + 1 then W j else 0) from ((HU.out.below hb4).put (k := k) (a := W k)).congr fun j _ => by
        by_cases e : j = k
        · subst e; rw [if_pos rfl, if_pos (Nat.lt_succ_self _)]
        · rw [if_neg e]
          by_cases e2 : j < k
          · rw [if_pos e2, if_pos (by omega)]
          · rw [if_neg e2, if_neg (by omega)])
      have HB4 := Lib.hid ((below_on HB.out hb4).setCell (p := ⟨w.heap.size + 1, k, none⟩) (show w.heap.size ≤ w.heap.size + 1 by omega) (.int .u64 (W k : Nat)))
      clear hb4 HN HU HB o0 o1 o2 o3 o4 o5 o6
      go_wp2_with fail
      clear cU fU
      go_loopw [27] (fun j wr => ∃ i : Nat, i ≤ k ∧ j = .int .i64 i ∧ Below w.heap.size w wr ∧ RowU wr w.heap.size l.length (fun j => if j < k then ndN l j else if j = k then ndA l k i else 0) ∧ RowU wr (w.heap.size + 1) l.length (fun j => if j < k + 1 then W j else 0)) (fun j _ => k - (intOf j).toNat)
      case atStart => exact ⟨0, Nat.zero_le _, rfl, HB4.out, HN4.out, HU4.out⟩
      case round =>
        obtain ⟨i, hik, rfl, hbel, hN, hU⟩ := hrel
        clear HB4 HN4 HU4
        by_cases hli : i < k
        · have hii : (i : Int) < (k : Int) := by omega
          obtain ⟨cI, lI, -⟩ := hU.cell (show i < l.length by omega)
          obtain ⟨cK, -, -⟩ := hU.cell hlt
          rw [if_pos (by omega)] at cI cK
          have sI := ew_small (hW i (by omega))
          have sK := ew_small (hW k hlt)
          have hcl := ew_dep (hW i (by omega)) (hW k hlt)
          have hS := fr_none wr
          have gI := Ws.same (bs := []) lI cI
          have gK := Ws.same (bs := []) lI cK
          have HN := Lib.hid hN
          have HU := Lib.hid hU
          have HB := Lib.hid hbel
          haveI hne := Nonempty.intro (Ws.mk _ hS)
          have HS := Lib.hid hS
          clear hS hN hU hbel cI cK
          rcases Bool.eq_false_or_eq_true (depE (gE l i) (gE l k)) with hd | hd
          · have hnext : ndA l k (i + 1) = ndA l k i ||| 2 ^ i := by show (if depE (gE l i) (gE l k) then _ else _) = _; rw [if_pos hd]
            have HCL := Lib.hid (hcl.trans hd)
            have HNX := Lib.hid hnext
            clear hcl hd hnext
            go_wp2_with fail
            refine region_in (by kernel_rfl) HS.out.drew ?_
            repeat (go_big_quiet_step ((go_at_call 170; exact call_in (clash_any (W i) (W k) _ sI sK true HCL))))
            refine wpQuiet_nil ?_
            rintro w3 ⟨⟨_, hw3⟩, rfl⟩
            have hN3 := HN.out.below hw3.below
            obtain ⟨cN, lN3, fN⟩ := hN3.cell hlt
            rw [if_neg (Nat.lt_irrefl _), if_pos rfl] at cN
            have HN3 := Lib.hid hN3
            have HU3 := Lib.hid (HU.out.below hw3.below)
            have HB3 := Lib.hid (below_on HB.out hw3.below)
            clear gI gK hN3 hw3
            go_wp2_with fail
            go_region
            rw [or_one (lt64 (ndA_lt l k i) (by omega)) (by omega), ← HNX.out]
            have HN4 := Lib.hid (show RowU ((w3.setCell ⟨w.heap.size, k, none⟩ (.int .u64 (ndA l k (i + 1) : Nat))).drew) w.heap.size l.length (fun j => if j < k then ndN l j else if j = k then ndA l k (i + 1) else 0) from ((HN3.out.put (k := k) (a := ndA l k (i + 1))).keep rfl).congr fun j _ => by
              by_cases e : j = k
              · subst e; rw [if_pos rfl, if_neg (Nat.lt_irrefl _), if_pos rfl]
              · rw [if_neg e, if_neg e, if_neg e])
            have HU4 := Lib.hid (show RowU ((w3.setCell ⟨w.heap.size, k, none⟩ (.int .u64 (ndA l k (i + 1) : Nat))).drew) (w.heap.size + 1) l.length (fun j => if j < k + 1 then W j else 0) from HU3.out.keep (Below.heap_setCell _ _ _ (w.heap.size + 1) (show w.heap.size + 1 ≠ w.heap.size by omega)))
            have HB4 := Lib.hid (show Below w.heap.size w ((w3.setCell ⟨w.heap.size, k, none⟩ (.int .u64 (ndA l k (i + 1) : Nat))).drew) from (HB3.out.setCell (p := ⟨w.heap.size, k, none⟩) (Nat.le_refl _) _).trans ⟨rfl, rfl, rfl, Nat.le_refl _, fun _ _ => rfl⟩)
            clear HN3 HU3 HB3 cN fN
            go_wp2
            go_roundw
            case rel => exact ⟨i + 1, by omega, by go_num, HB4.out, HN4.out, HU4.out⟩
            case measure => simp [intOf]; omega
          · have hnext : ndA l k (i + 1) = ndA l k i := by show (if depE (gE l i) (gE l k) then _ else _) = _; rw [hd]; rfl
            have HCL := Lib.hid (hcl.trans hd)
            have HNX := Lib.hid hnext
            clear hcl hd hnext
            go_wp2_with fail
            refine region_in (by kernel_rfl) HS.out.drew ?_
            repeat (go_big_quiet_step ((go_at_call 170; exact call_in (clash_any (W i) (W k) _ sI sK false HCL))))
            refine wpQuiet_nil ?_
            rintro w3 ⟨⟨_, hw3⟩, rfl⟩
            have HN3 := Lib.hid (HN.out.below hw3.below)
            have HU3 := Lib.hid (HU.out.below hw3.below)
            have HB3 := Lib.hid (below_on HB.out hw3.below)
            clear gI gK hw3
            go_wp2
            go_roundw
            case rel => exact ⟨i + 1, by omega, by go_num, HB3.out, by rw [HNX.out]; exact HN3.out, HU3.out⟩
            case measure => simp [intOf]; omega
        · have hkk : i = k := by omega
          subst hkk
          have HN3 := Lib.hid (hN.congr (f' := fun j => if j < i + 1 then ndN l j else 0) fun j _ => by
            by_cases e : j < i
            · rw [if_pos e, if_pos (by omega)]
            · by_cases e2 : j = i
              · subst e2; rw [if_neg e, if_pos rfl, if_pos (Nat.lt_succ_self _)]; rfl
              · rw [if_neg e, if_neg e2, if_neg (by omega)])
          have HU3 := Lib.hid hU
          have HB3 := Lib.hid hbel
          clear hN hU hbel
          go_wp2
          go_roundw
          case rel => exact ⟨i + 1, by omega, by go_num, HB3.out, HN3.out, HU3.out⟩
          case measure => simp [intOf]; omega
    · have hkl : k = l.length := by omega
      subst hkl
      have hN2 := hN.congr (f' := ndN l) fun j hj => by rw [if_pos hj]
      go_wp2
      go_ret
      exact ⟨rfl, hbel, hN2⟩
end Go.Proofs.Ytbddmicgfhljeaa
namespace Go.Proofs.Ytbddmicgfhljeaa
open Go.RowKit Pl Go.BigFrame
set_option maxHeartbeats 4000000
set_option maxRecDepth 100000
set_option linter.unusedVariables false

def frC (F : Nat → Nat) (D b i : Nat) : Bool := ((F i ^^^ (F i &&& D)) == 0) && ((F i &&& b) == b)
def frL (l : Evts) (F : Nat → Nat) (D b : Nat) : Nat → List Int
  | 0 => []
  | i + 1 => if frC F D b i then frL l F D b i ++ [(gE l i).t * 9 + i] else frL l F D b i
theorem frL_len (l : Evts) (F : Nat → Nat) (D b : Nat) : ∀ i, (frL l F D b i).length ≤ i := by
  intro i
  induction i with
  | zero => exact Nat.le_refl _
  | succ i ih =>
    unfold frL
    split
    · rw [List.length_append]; simp; exact ih
    · omega
/-- Numbers of the call's own. -/
def AnsN (w : World) (v : List Int) (e : Ending) (w' : World) : Prop :=
  ∃ g cap, e = .returned (.slice (some ⟨g, 0, none⟩) v.length cap) ∧ Below w.heap.size w w' ∧ w.heap.size ≤ g ∧ w'.ownsRow w.heap.size 3 1 (.slice (some ⟨g, 0, none⟩) v.length cap) v.length (ints v)
theorem freed_any (k0 : EvsH) (l : Evts) (R : Nat) (F : Nat → Nat) (D b : Nat) (w : World) (B : Nat) (hR : EvsR w B k0 l) (hB : B ≤ w.heap.size) (h9 : l.length ≤ 9) (hth : thOk l) (hU : RowU w R l.length F) (hF : ∀ i, i < l.length → F i < 18446744073709551616) (hD : D < 18446744073709551616) (hb : b < 18446744073709551616) :
    Calls Try.prog 135 #[EvsV k0 l, .slice (some ⟨R, 0, none⟩) l.length l.length, .int .u64 (D : Nat), .int .u64 (b : Nat)] w (AnsN w (frL l F D b l.length)) := by
  obtain ⟨A, c⟩ := k0
  obtain ⟨h⟩ := hR
  have h : Vs w B A (evs l) := h
  show Calls Try.prog 135 #[.slice A l.length c, .slice (some ⟨R, 0, none⟩) l.length l.length, .int .u64 (D : Nat), .int .u64 (b : Nat)] w _
  obtain ⟨i0, hi, iz0, iz1, iz2⟩ := info_parts Try.info3
  have start : Hid (PuT w (w.alloc (.cells #[] 3)) (.slice (some ⟨w.heap.size, 0, none⟩) 0 0) []) := Lib.hid ⟨w.heap.size, 0, rfl, Nat.le_refl _, World.ownsRow_made w #[] 0 (Nat.le_refl _) (by decide) (by simp), (Below.refl _ _).alloc (Nat.le_refl _) _⟩
  go_enter Try.func135, Try.ntmps135
  go_wp2_with fail
  go_loopw [9, 15] (fun o i wr => ∃ k : Nat, k ≤ l.length ∧ i = .int .i64 k ∧ PuT w wr o (frL l F D b k)) (fun _ i _ => l.length - (intOf i).toNat)
  case atStart => exact ⟨0, Nat.zero_le _, rfl, start.out⟩
  case round =>
    obtain ⟨k, hk, rfl, ⟨g, cap, rfl, hg, hown, hbel⟩⟩ := hrel
    clear start
    have hz := hbel.size
    by_cases hlt : k < l.length
    · have hi1 : (k : Int) < (l.length : Int) := by omega
      obtain ⟨eb, off, x, rfl, heb, hx, -, hx0, -⟩ := (h.below hbel hB).ev_ hlt
      have hbw : eb < wr.heap.size := by omega
      have hxe : gE l k = x := by simp [gE, List.getD, hx]
      have ht := hth k hlt
      rw [hxe] at ht
      obtain ⟨ht0, ht3⟩ := ht
      obtain ⟨cU, lU, -⟩ := (hU.below hbel).cell hlt
      have hfk := hF k hlt
      have e1 := andNot_u64 hfk hD
      have e2 := and_u64 hfk hb
      obtain ⟨v, hv⟩ : ∃ v, frL l F D b k = v := ⟨_, rfl⟩
      have hvl := frL_len l F D b k
      rw [hv] at hown hvl
      have HV := Lib.hid hv
      have HO := Lib.hid hown
      have HB := Lib.hid hbel
      have hlist : Hid (frL l F D b (k + 1) = if frC F D b k then v ++ [x.t * 9 + k] else v) := Lib.hid (by show (if frC F D b k then frL l F D b k ++ [(gE l k).t * 9 + k] else frL l F D b k) = _; rw [hv, hxe])
      rw [hv]
      clear hx hxe hown hbel hv
      obtain ⟨n1, hn1⟩ : ∃ n : Nat, (F k ^^^ (F k &&& D)) = n := ⟨_, rfl⟩
      obtain ⟨n2, hn2⟩ : ∃ n : Nat, (F k &&& b) = n := ⟨_, rfl⟩
      have hfc : frC F D b k = ((n1 == 0) && (n2 == b)) := by unfold frC; rw [hn1, hn2]
      rw [hn1] at e1
      rw [hn2] at e2
      rw [hfc] at hlist
      clear hn1 hn2 hfc
      rcases Bool.eq_false_or_eq_true (n1 == 0) with c1 | c1
      · rcases Bool.eq_false_or_eq_true (n2 == b) with c2 | c2
        · rw [c1, c2] at hlist
          have q1 : ((n1 : Int) == 0) = true := by rw [beq_iff_eq] at c1 ⊢; omega
          have q2 : ((n2 : Int) == (b : Int)) = true := by rw [beq_iff_eq] at c2 ⊢; omega
          clear c1 c2
          go_wp2_with (at_builtin; refine wpList_append_own _ rfl (.tmp 31) (.tmp 40) 25 rfl w.heap.size 3 i0 _ 1 8 Try.underlying25 hi iz0 iz1 iz2 rfl (by decide) _ v.length _ rfl (HO.out.alloc _) ⟨_, 0, none⟩ 1 1 [.int .i64 _] rfl rfl (cell1_new _ _ _) (by intro u hu; simp at hu; subst hu; rfl) (by unfold maxLen; omega) (by omega) (by simp; omega) ?_; intro v' w3 own3 grow3 _; obtain ⟨g3, cap3, rfl, hg3, hlt3⟩ := own3.form (by omega); have Own3 := Lib.hid own3; have B3 := Lib.hid ((HB.out.alloc hz _).grown grow3 (by simp; omega) (by intro q hq; cases hq; exact hg)); clear own3 grow3)
          have OI := Lib.hid (show w3.ownsRow w.heap.size 3 1 (.slice (some ⟨g3, 0, none⟩) (v.length + 1) cap3) (v.length + 1) (ints (v ++ [x.t * 9 + k])) from by have := Own3.out; simpa [ints] using this)
          go_roundw
          case rel => exact ⟨k + 1, by omega, by go_num, by rw [hlist.out]; exact ⟨g3, cap3, by simp, hg3, by simpa using OI.out, B3.out⟩⟩
          case measure => simp [intOf]; omega
        · rw [c1, c2] at hlist
          have q1 : ((n1 : Int) == 0) = true := by rw [beq_iff_eq] at c1 ⊢; omega
          have q2 : ((n2 : Int) == (b : Int)) = false := by rw [beq_eq_false_iff_ne] at c2 ⊢; omega
          clear c1 c2
          go_wp2
          go_roundw
          case rel => exact ⟨k + 1, by omega, by go_num, by rw [hlist.out]; exact ⟨g, cap, rfl, hg, HO.out, HB.out⟩⟩
          case measure => simp [intOf]; omega
      · rw [c1] at hlist
        have q1 : ((n1 : Int) == 0) = false := by rw [beq_eq_false_iff_ne] at c1 ⊢; omega
        clear c1
        go_wp2
        go_roundw
        case rel => exact ⟨k + 1, by omega, by go_num, by rw [hlist.out]; exact ⟨g, cap, rfl, hg, HO.out, HB.out⟩⟩
        case measure => simp [intOf]; omega
    · have hkl : k = l.length := by omega
      subst hkl
      have HO := Lib.hid hown
      clear hown
      go_wp2
      go_ret
      exact ⟨g, cap, rfl, hbel, hg, HO.out⟩
end Go.Proofs.Ytbddmicgfhljeaa
namespace Go.Proofs.Ytbddmicgfhljeaa
open Go.RowKit Pl Go.BigFrame
set_option maxHeartbeats 4000000
set_option maxRecDepth 100000
set_option linter.unusedVariables false

def evo (l : Evts) : Evo := ⟨l.length, fun i => (gE l i).t, fun k i => depE (gE l k) (gE l i)⟩
/-- The threads in least order. -/
def leaL (l : Evts) : List Int := (takeL (evo l) l.length (fun _ => false)).map fun i => (gE l i).t
theorem sub_bits {x D : Nat} : (x ^^^ (x &&& D)) = 0 ↔ ∀ k, x.testBit k = true → D.testBit k = true := by
  constructor
  · intro h k hk
    have := congrArg (fun z => z.testBit k) h
    simp only [Nat.testBit_xor, Nat.testBit_and, Nat.zero_testBit, hk, Bool.true_and] at this
    cases hd : D.testBit k with
    | true => rfl
    | false => rw [hd] at this; simp at this
  · intro h
    apply Nat.eq_of_testBit_eq
    intro k
    rw [Nat.testBit_xor, Nat.testBit_and, Nat.zero_testBit]
    cases hx : x.testBit k with
    | false => simp
    | true => rw [h k hx]; rfl
theorem one_bit {x b : Nat} : (x &&& 2 ^ b) = 2 ^ b ↔ x.testBit b = true := by
  constructor
  · intro h
    have := congrArg (fun z => z.testBit b) h
    simp only [Nat.testBit_and, Nat.testBit_two_pow] at this
    simpa using this
  · intro h
    apply Nat.eq_of_testBit_eq
    intro k
    rw [Nat.testBit_and, Nat.testBit_two_pow]
    by_cases e : b = k
    · subst e; rw [h]; simp
    · simp [e]
theorem nd_bit (l : Evts) (i k : Nat) : (ndN l i).testBit k = (decide (k < i) && depE (gE l k) (gE l i)) := ndA_bit l i k i
theorem frC_first {l : Evts} {i : Nat} : frC (ndN l) 0 0 i = frB (evo l) (fun _ => false) i := by
  rw [Bool.eq_iff_iff]
  unfold frC
  rw [Bool.and_eq_true, beq_iff_eq, beq_iff_eq, sub_bits, frB_iff]
  constructor
  · rintro ⟨h, _⟩
    refine ⟨rfl, fun k hk hn => ?_⟩
    have := h k (by rw [nd_bit, decide_eq_true hk, Bool.true_and]; exact hn)
    simp at this
  · rintro ⟨_, h⟩
    refine ⟨fun k hk => ?_, by simp⟩
    rw [nd_bit, Bool.and_eq_true] at hk
    have := h k (of_decide_eq_true hk.1) hk.2
    cases this
theorem frC_next {l : Evts} {d : Nat → Bool} {D b i : Nat} (hD : ∀ j, D.testBit j = mkD d b j) (hC : Clo (evo l) d) (hb : frB (evo l) d b = true) : frC (ndN l) D (2 ^ b) i = newB (evo l) (mkD d b) b i := by
  rw [Bool.eq_iff_iff]
  unfold frC newB
  rw [Bool.and_eq_true, Bool.and_eq_true, Bool.and_eq_true, beq_iff_eq, beq_iff_eq, sub_bits, one_bit, frB_iff, decide_eq_true_eq, nd_bit, Bool.and_eq_true, decide_eq_true_eq]
  constructor
  · rintro ⟨h, hbi, hn⟩
    refine ⟨⟨?_, fun k hk hnk => ?_⟩, hbi, hn⟩
    · have hib : ¬ i = b := by omega
      unfold mkD
      rw [if_neg hib]
      cases hd : d i with
      | false => rfl
      | true =>
        have := hC i hd b hbi hn
        rw [(frB_iff.1 hb).1] at this; cases this
    · rw [← hD]; exact h k (by rw [nd_bit, decide_eq_true hk, Bool.true_and]; exact hnk)
  · rintro ⟨⟨_, h⟩, hbi, hn⟩
    refine ⟨fun k hk => ?_, hbi, hn⟩
    rw [nd_bit, Bool.and_eq_true] at hk
    rw [hD]; exact h k (of_decide_eq_true hk.1) hk.2
theorem frL_cnt {l : Evts} {F : Nat → Nat} {D b : Nat} (h9 : l.length ≤ 9) (x : Int) : ∀ n, n ≤ l.length → cnt (frL l F D b n) x = if ∃ i, i < n ∧ frC F D b i = true ∧ x = keyI (evo l) i then 1 else 0 := by
  intro n
  induction n with
  | zero => intro _; rw [if_neg (by rintro ⟨i, h, _⟩; omega)]; rfl
  | succ n ih =>
    intro hn
    have ih := ih (by omega)
    unfold frL
    by_cases hc : frC F D b n = true
    · rw [if_pos hc]
      have e : cnt (frL l F D b n ++ [(gE l n).t * 9 + n]) x = cnt (frL l F D b n) x + if keyI (evo l) n = x then 1 else 0 := by
        unfold cnt
        rw [List.count_append, List.count_singleton]
        congr 1
        show (if (keyI (evo l) n == x) = true then 1 else 0) = _
        simp
      rw [e, ih]
      by_cases hx : keyI (evo l) n = x
      · have n1 : ¬ ∃ i, i < n ∧ frC F D b i = true ∧ x = keyI (evo l) i := by
          rintro ⟨i, hi, _, ex⟩
          have := key_inj (E := evo l) h9 (show i < l.length by omega) (show n < l.length by omega) (ex.symm.trans hx.symm)
          omega
        rw [if_pos hx, if_neg n1, if_pos ⟨n, Nat.lt_succ_self _, hc, hx.symm⟩]
      · rw [if_neg hx, Nat.add_zero]
        by_cases h1 : ∃ i, i < n ∧ frC F D b i = true ∧ x = keyI (evo l) i
        · obtain ⟨i, hi, hf, ex⟩ := h1
          rw [if_pos ⟨i, hi, hf, ex⟩, if_pos ⟨i, by omega, hf, ex⟩]
        · rw [if_neg h1, if_neg]
          rintro ⟨i, hi, hf, ex⟩
          by_cases e2 : i = n
          · subst e2; exact hx ex.symm
          · exact h1 ⟨i, by omega, hf, ex⟩
    · rw [if_neg hc, ih]
      by_cases h1 : ∃ i, i < n ∧ frC F D b i = true ∧ x = keyI (evo l) i
      · obtain ⟨i, hi, hf, ex⟩ := h1
        rw [if_pos ⟨i, hi, hf, ex⟩, if_pos ⟨i, by omega, hf, ex⟩]
      · rw [if_neg h1, if_neg]
        rintro ⟨i, hi, hf, ex⟩
        by_cases e2 : i = n
        · subst e2; exact hc hf
        · exact h1 ⟨i, by omega, hf, ex⟩
/-- Numbers in one block. -/
def NumsAt (w : World) (g : Nat) (v : List Int) : Prop := g < w.heap.size ∧ (0 < v.length → ∃ cs, Bk w g 3 cs ∧ ∀ (j : Nat) (u : Value), (ints v)[j]? = some u → cs[j]? = some u)
theorem NumsAt.keep {w w' : World} {g : Nat} {v : List Int} (h : NumsAt w g v) (hs : w.heap.size ≤ w'.heap.size) (hk : w'.heap[g]? = w.heap[g]?) : NumsAt w' g v := by
  refine ⟨by have := h.1; omega, fun hn => ?_⟩
  obtain ⟨cs, hb, hx⟩ := h.2 hn
  exact ⟨cs, hk.trans hb, hx⟩
theorem NumsAt.vs {w : World} {g : Nat} {v : List Int} (h : NumsAt w g v) : Vs w w.heap.size (some ⟨g, 0, none⟩) (ints v) := fun hn => by
  obtain ⟨cs, hb, hx⟩ := h.2 (by rwa [ints_length] at hn)
  exact ⟨g, 0, rfl, h.1, fun j u hj => by rw [Nat.zero_add]; exact (hb.cell j).trans (hx j u hj)⟩
theorem NumsAt.tail {w : World} {g : Nat} {v : List Int} (h : NumsAt w g v) : Vs w w.heap.size (some ⟨g, 1, none⟩) (ints v.tail) := fun hn => by
  rw [ints_length, List.length_tail] at hn
  obtain ⟨cs, hb, hx⟩ := h.2 (by omega)
  refine ⟨g, 1, rfl, h.1, fun j u hj => ?_⟩
  rw [Nat.add_comm 1 j]
  refine (hb.cell (j + 1)).trans (hx (j + 1) u ?_)
  cases v with
  | nil => simp at hn
  | cons a r => simpa [ints] using hj
theorem NumsAt.top {w : World} {g : Nat} {v : List Int} (h : NumsAt w g v) (hv : 0 < v.length) : w.cell? ⟨g, 0, none⟩ = some (.int .i64 (v.getD 0 0)) := by
  obtain ⟨cs, hb, hx⟩ := h.2 hv
  have h1 : v[0]? = some (v.getD 0 0) := by simp [List.getD, hv]
  exact (hb.cell 0).trans (hx 0 _ (ints_at h1))
theorem nums_of {w : World} {base g cap : Nat} {v : List Int} (h : w.ownsRow base 3 1 (.slice (some ⟨g, 0, none⟩) v.length cap) v.length (ints v)) : NumsAt w g v := by
  rcases h.2 with ⟨h1, _⟩ | ⟨g', cap', cur, e1, e2, e3, _⟩
  · cases h1
  · injection e1 with e1 _ _
    injection e1 with e1
    injection e1 with e1
    subst e1
    have hb : Bk w g 3 cur := e3
    refine ⟨hb.lt, fun hn => ?_⟩
    obtain ⟨g'', cs, hA, _, _, hb2, hx⟩ := own_vs h rfl (by rw [ints_length]; exact hn)
    injection hA with hA
    injection hA with hA
    subst hA
    exact ⟨cs, hb2, hx⟩
end Go.Proofs.Ytbddmicgfhljeaa
namespace Go.Proofs.Ytbddmicgfhljeaa
open Go.RowKit Pl Go.BigFrame
set_option maxHeartbeats 4000000
set_option maxRecDepth 100000
set_option linter.unusedVariables false

structure LeaF (l : Evts) (d : Nat → Bool) (D m : Nat) (v out : List Int) : Prop where
  fr : FreeL (evo l) d v
  hp : heapB v
  cl : Clo (evo l) d
  bit : ∀ j, D.testBit j = d j
  inn : ∀ j, d j = true → j < l.length
  nm : nL d l.length = m
  sum : out ++ (takeL (evo l) m d).map (fun i => (gE l i).t) = leaL l
  len : out.length + m = l.length
  few : v.length ≤ 9 * (out.length + 1)
theorem LeaF.lt {l : Evts} {d : Nat → Bool} {D m : Nat} {v out : List Int} (h : LeaF l d D m v out) : D < 2 ^ l.length := by
  refine Nat.lt_pow_two_of_testBit _ fun j hj => ?_
  rw [h.bit]
  cases hd : d j with
  | false => rfl
  | true => have := h.inn j hd; omega
theorem LeaF.next {l : Evts} {d : Nat → Bool} {D m b : Nat} {v out v' : List Int} (h9 : l.length ≤ 9) (hth : thOk l) (h : LeaF l d D (m + 1) v out) (hb : b = (beI (evo l) d l.length).toNat) (hv : 0 < v.length) (hv0 : v.getD 0 0 = keyI (evo l) b)
    (hh : heapB v') (hl : v'.length = v.tail.length + (frL l (ndN l) (D ||| 2 ^ b) (2 ^ b) l.length).length) (hc : ∀ x, cnt v' x = cnt v.tail x + cnt (frL l (ndN l) (D ||| 2 ^ b) (2 ^ b) l.length) x) : LeaF l (mkD d b) (D ||| 2 ^ b) m v' (out ++ [(gE l b).t]) := by
  obtain ⟨h0, hf, hn⟩ := be_ok (E := evo l) (d := d) (by show 0 < nL d l.length; rw [h.nm]; omega)
  have hbe : (beI (evo l) d (evo l).n).toNat = b := hb.symm
  rw [hbe] at hf hn
  have hn : b < l.length := hn
  have hbit : ∀ j, (D ||| 2 ^ b).testBit j = mkD d b j := fun j => by
    rw [Nat.testBit_or, Nat.testBit_two_pow, h.bit]
    unfold mkD
    by_cases e : j = b
    · subst e; simp
    · rw [if_neg e, decide_eq_false (fun h => e h.symm), Bool.or_false]
  refine ⟨?_, hh, clo_next h.cl hf, hbit, fun j hj => ?_, ?_, ?_, ?_, ?_⟩
  · refine free_step h9 h.fr h.cl hf hn hv hv0 fun x => ?_
    rw [hc, frL_cnt h9 x _ (Nat.le_refl _)]
    congr 1
    have e : (∃ i, i < l.length ∧ frC (ndN l) (D ||| 2 ^ b) (2 ^ b) i = true ∧ x = keyI (evo l) i) ↔ ∃ i, i < (evo l).n ∧ newB (evo l) (mkD d b) b i = true ∧ x = keyI (evo l) i := by
      constructor
      · rintro ⟨i, hi, h1, h2⟩; exact ⟨i, hi, by rw [← frC_next hbit h.cl hf]; exact h1, h2⟩
      · rintro ⟨i, hi, h1, h2⟩; exact ⟨i, hi, by rw [frC_next hbit h.cl hf]; exact h1, h2⟩
    by_cases h1 : ∃ i, i < l.length ∧ frC (ndN l) (D ||| 2 ^ b) (2 ^ b) i = true ∧ x = keyI (evo l) i
    · rw [if_pos h1, if_pos (e.1 h1)]
    · rw [if_neg h1, if_neg (fun h2 => h1 (e.2 h2))]
  · unfold mkD at hj
    by_cases e : j = b
    · subst e; exact hn
    · rw [if_neg e] at hj; exact h.inn j hj
  · have := take_step (E := evo l) (d := d) (m := m) h.nm
    rw [hbe] at this
    exact this
  · have hs := h.sum
    have e : takeL (evo l) (m + 1) d = b :: takeL (evo l) m (mkD d b) := by
      show (beI (evo l) d (evo l).n).toNat :: takeL (evo l) m (mkD d (beI (evo l) d (evo l).n).toNat) = _
      rw [hbe]
    rw [e, List.map_cons] at hs
    rw [← hs, List.append_assoc]; rfl
  · rw [List.length_append, List.length_singleton]; have := h.len; omega
  · rw [List.length_append, List.length_singleton, hl, List.length_tail]
    have := frL_len l (ndN l) (D ||| 2 ^ b) (2 ^ b) l.length
    have := h.few
    omega
theorem LeaF.first {l : Evts} {v : List Int} (h9 : l.length ≤ 9) (hh : heapB v) (hl : v.length = (frL l (ndN l) 0 0 l.length).length) (hc : ∀ x, cnt v x = cnt (frL l (ndN l) 0 0 l.length) x) : LeaF l (fun _ => false) 0 l.length v [] := by
  refine ⟨fun x => ?_, hh, (fun i hi => by cases hi), (fun j => by simp), (fun j hj => by cases hj), nL_none _, rfl, by simp, ?_⟩
  · rw [hc, frL_cnt h9 x _ (Nat.le_refl _)]
    have e : (∃ i, i < l.length ∧ frC (ndN l) 0 0 i = true ∧ x = keyI (evo l) i) ↔ ∃ i, i < (evo l).n ∧ frB (evo l) (fun _ => false) i = true ∧ x = keyI (evo l) i := by
      constructor
      · rintro ⟨i, hi, h1, h2⟩; exact ⟨i, hi, by rw [← frC_first]; exact h1, h2⟩
      · rintro ⟨i, hi, h1, h2⟩; exact ⟨i, hi, by rw [frC_first]; exact h1, h2⟩
    by_cases h1 : ∃ i, i < l.length ∧ frC (ndN l) 0 0 i = true ∧ x = keyI (evo l) i
    · rw [if_pos h1, if_pos (e.1 h1)]
    · rw [if_neg h1, if_neg (fun h2 => h1 (e.2 h2))]
  · have := frL_len l (ndN l) 0 0 l.length
    rw [hl]; simp; omega
theorem LeaF.done {l : Evts} {d : Nat → Bool} {D m : Nat} {v out : List Int} (h : LeaF l d D m v out) (hv : v.length = 0) : out = leaL l := by
  have hm : m = 0 := by
    rcases Nat.eq_zero_or_pos m with h0 | h0
    · exact h0
    · exfalso
      obtain ⟨_, hf, hn⟩ := be_ok (E := evo l) (d := d) (by show 0 < nL d l.length; rw [h.nm]; exact h0)
      have := h.fr (keyI (evo l) (beI (evo l) d (evo l).n).toNat)
      rw [if_pos ⟨_, hn, hf, rfl⟩] at this
      have e : v = [] := List.eq_nil_of_length_eq_zero hv
      rw [e] at this
      simp [cnt] at this
  have hs := h.sum
  rw [hm] at hs
  simpa [takeL] using hs
def LeaS (l : Evts) (w1 wr : World) (o dv f : Value) (m : Nat) : Prop :=
  ∃ (d : Nat → Bool) (D : Nat) (v out : List Int) (g cap gh caph : Nat), o = .slice (some ⟨g, 0, none⟩) out.length cap ∧ dv = .int .u64 (D : Nat) ∧ f = .slice (some ⟨gh, 0, none⟩) v.length caph ∧ w1.heap.size ≤ g ∧ gh ≠ g ∧ wr.ownsRow w1.heap.size 3 1 (.slice (some ⟨g, 0, none⟩) out.length cap) out.length (ints out) ∧ NumsAt wr gh v ∧ v.length ≤ caph ∧ Below w1.heap.size w1 wr ∧ LeaF l d D m v out
theorem leastof_any (k0 : EvsH) (l : Evts) (w : World) (B : Nat) (hR : EvsR w B k0 l) (hB : B ≤ w.heap.size) (h9 : l.length ≤ 9) (hth : thOk l) :
    Calls Try.prog 90 #[EvsV k0 l] w (AnsN w (leaL l)) := by
  obtain ⟨i0, hi, iz0, iz1, iz2⟩ := info_parts Try.info3
  have hnd := needed_any k0 l w B hR hB h9 hth
  obtain ⟨A, c⟩ := k0
  obtain ⟨h⟩ := hR
  have h : Vs w B A (evs l) := h
  show Calls Try.prog 90 #[.slice A l.length c] w _
  go_enter Try.func90, Try.ntmps90
  go_wp2_with fail
  refine hnd.mono ?_
  clear hnd
  rintro e w1 ⟨rfl, hb1, hN1⟩
  have HB1 := Lib.hid hb1
  have HN1 := Lib.hid hN1
  have h1 := Lib.hid (h.below hb1 hB)
  have hz1 := hb1.size
  have hR1 := hN1.lt
  obtain ⟨W2, hW2⟩ : ∃ W, W = (w1.alloc (.cells #[] 3)).alloc (.cells #[] 3) := ⟨_, rfl⟩
  have b2 : Below w1.heap.size w1 W2 := by rw [hW2]; go_grown
  have s2 : W2.heap.size = w1.heap.size + 1 + 1 := by rw [hW2]; simp
  have o2 : W2.ownsRow w1.heap.size 3 1 (.slice (some ⟨w1.heap.size, 0, none⟩) 0 0) 0 (ints []) := by
    rw [hW2]; exact (World.ownsRow_made (base := w1.heap.size) (e := 3) (size := 1) w1 #[] 0 (Nat.le_refl _) (by decide) (by simp)).alloc _
  have HB2 := Lib.hid b2
  have HO2 := Lib.hid o2
  have s2a := Nat.le_of_eq s2
  have s2b := Nat.le_of_eq s2.symm
  have HW2 := Lib.hid hW2
  clear hb1 hN1 hW2 b2 s2 o2 h
  go_wp2_with fail
  rw [← HW2.out]
  have hfr := freed_any ⟨A, c⟩ l w.heap.size (ndN l) 0 0 W2 B ⟨h1.out.below HB2.out (by omega)⟩ (by omega) h9 hth (HN1.out.below HB2.out) (fun i hi => lt64 (ndA_lt l i i) (by omega)) (by omega) (by omega)
  refine hfr.mono ?_
  clear hfr
  rintro e w3 ⟨gf, capf, rfl, hb3, hgf, hown3⟩
  have HB3 := Lib.hid (below_on HB2.out hb3)
  have HO3 := Lib.hid (HO2.out.kept (grown_of_below hb3 none) (by simp [Value.ownBlock]))
  have hz3 := hb3.size
  have NF := Lib.hid (nums_of hown3)
  clear hb3 hown3
  go_wp2_with fail
  have hfl0 := frL_len l (ndN l) 0 0 l.length
  refine (pushed_any (w1.heap.size + 1) 0 0 [] (some ⟨gf, 0, none⟩) (frL l (ndN l) 0 0 l.length) capf w3 w3.heap.size (Vs.nil _ _ _) NF.out.vs (Nat.le_refl _) (by simp) (by omega) (fun i _ h => absurd h (by simp))).mono ?_
  rintro e w4 ⟨v0, gh0, caph0, rfl, hb4, hgh4, hown4, hlen4, hheap4, hcnt4⟩
  have HL4 := Lib.hid hlen4
  clear hlen4
  have start : Hid (LeaS l w1 w4 (.slice (some ⟨w1.heap.size, 0, none⟩) 0 0) (.int .u64 0) (.slice (some ⟨gh0, 0, none⟩) v0.length caph0) l.length) := Lib.hid
    ⟨fun _ => false, 0, v0, [], w1.heap.size, 0, gh0, caph0, rfl, rfl, rfl, Nat.le_refl _, by omega, HO3.out.kept (grown_of_below hb4 none) (by simp [Value.ownBlock]), nums_of hown4, (own_cap hown4).1, below_on HB3.out hb4, LeaF.first h9 hheap4 (by rw [HL4.out]; simp) (fun x => by rw [hcnt4]; simp [cnt])⟩
  clear hb4 hown4 hcnt4 hheap4 NF HO3 HO2 HW2
  go_wp2_with fail
  go_loopw [4, 5, 6] (fun o dv f wr => ∃ m : Nat, LeaS l w1 wr o dv f m) (fun o _ _ _ => l.length - (match o with | .slice _ n _ => n | _ => 0))
  case atStart => exact ⟨_, start.out⟩
  case round =>
    obtain ⟨m, d, D, v, out, g, cap, gh, caph, rfl, rfl, rfl, hg, hne, hown, hnum, hcap, hbel, hF⟩ := hrel
    clear start
    have hz := hbel.size
    have hfew := hF.few
    have hlen := hF.len
    by_cases hv : 0 < v.length
    · obtain ⟨hpos, htop⟩ := top_best (E := evo l) h9 (fun i hi => (hth i hi).1) hF.fr hF.hp hv
      have hnm := hF.nm
      have hpos : 0 < nL d l.length := hpos
      obtain ⟨m', rfl⟩ : ∃ m', m = m' + 1 := ⟨m - 1, by omega⟩
      obtain ⟨_, _, hbn⟩ := be_ok (E := evo l) (d := d) hpos
      obtain ⟨b, hb⟩ : ∃ b, (beI (evo l) d l.length).toNat = b := ⟨_, rfl⟩
      have hbe : (beI (evo l) d (evo l).n).toNat = b := hb
      rw [hbe] at hbn htop
      have hbn : b < l.length := hbn
      have hkm := key_mod (E := evo l) (show b < 9 by omega) (hth b hbn).1
      have hk0 : 0 ≤ keyI (evo l) b := by have := (hth b hbn).1; unfold keyI; show 0 ≤ (gE l b).t * 9 + _; omega
      have HTOP := Lib.hid htop
      have cT := hnum.top hv
      rw [htop] at cT
      obtain ⟨K, hK⟩ : ∃ K, keyI (evo l) b = K := ⟨_, rfl⟩
      rw [hK] at cT hkm hk0
      have hmod : Int.tmod K 9 = (b : Int) := by rw [Int.tmod_eq_emod_of_nonneg hk0]; exact hkm
      obtain ⟨eb, off, x, rfl, heb, hx, -, hx0, -⟩ := (h1.out.below hbel (by omega)).ev_ hbn
      have hxe : gE l b = x := by simp [gE, List.getD, hx]
      have lgh := hnum.1
      have hbw : eb < wr.heap.size := by omega
      have hi1 : (b : Int) < (l.length : Int) := by omega
      have hvi : (0 : Int) < (v.length : Int) := by omega
      have hDl := lt64 hF.lt (by omega)
      obtain ⟨p, hp⟩ : ∃ p : Nat, 2 ^ b = p := ⟨_, rfl⟩
      obtain ⟨q, hq⟩ : ∃ q : Nat, D ||| p = q := ⟨_, rfl⟩
      have hp64 : p < 18446744073709551616 := by
        rw [← hp]
        have : 2 ^ b ≤ 2 ^ 9 := Nat.pow_le_pow_right (by omega) (by omega)
        omega
      have hq64 : q < 18446744073709551616 := by rw [← hq]; exact Nat.or_lt_two_pow (n := 64) (by omega) (by omega)
      have hwrap : IntKind.u64.wrap ((2 : Int) ^ b) = (p : Int) := by
        have e : ((2 : Int) ^ b) = ((2 ^ b : Nat) : Int) := by simp
        rw [e, hp]
        exact wrapu_small (by omega) (by omega)
      have hor : bits .or .u64 (D : Int) (p : Int) = (q : Int) := by rw [or_u64 hDl hp64, hq]
      have HP := Lib.hid hp
      have HQ := Lib.hid (show D ||| 2 ^ b = q by rw [hp]; exact hq)
      clear hp hq
      have HF := Lib.hid hF
      have HO := Lib.hid hown
      have HN := Lib.hid hnum
      have HB := Lib.hid hbel
      have HXE := Lib.hid hxe
      have HBE := Lib.hid hb
      clear hF hown hnum hbel hx hxe htop hb hbe hK hkm
      by_cases hc1 : caph = 1
      · have HT := Lib.hid (show v.tail = [] from List.eq_nil_of_length_eq_zero (by rw [List.length_tail]; omega))
        go_wp2_with (at_builtin; refine wpList_append_own _ rfl (.tmp 25) (.tmp 31) 25 rfl w1.heap.size 3 i0 _ 1 8 Try.underlying25 hi iz0 iz1 iz2 rfl (by decide) _ out.length _ rfl (HO.out.alloc _) ⟨_, 0, none⟩ 1 1 [.int .i64 _] rfl rfl (cell1_new _ _ _) (by intro u hu; simp at hu; subst hu; rfl) (by unfold maxLen; omega) (by omega) (by simp; omega) ?_; intro v' w5 own5 grow5 _; obtain ⟨g5, cap5, rfl, hg5, hlt5⟩ := own5.form (by omega); have Own5 := Lib.hid own5; have B5 := Lib.hid ((HB.out.alloc hz _).grown grow5 (by simp; omega) (by intro q hq; cases hq; exact hg)); have N5 := Lib.hid (HN.out.keep (w' := w5) (by have := grow5.size; simp at this; omega) ((grow5.block gh (by simp; omega) (fun e => hne (by injection e))).trans (Below.heap_alloc _ _ gh lgh))); clear own5 grow5)
        have hs5 := B5.out.size
        have lN5 := N5.out.1
        have b6 : Below w5.heap.size w5 (w5.alloc (.cells #[] 3)) := by go_grown
        have htl : v.tail.length = v.length - 1 := List.length_tail
        have hps := pushed_any w5.heap.size 0 0 [] (some ⟨gh, 0, none⟩) v.tail 0 (w5.alloc (.cells #[] 3)) (w5.alloc (.cells #[] 3)).heap.size (Vs.nil _ _ _) (by rw [HT.out]; exact Vs.nil _ _ _) (Nat.le_refl _) (by simp) (by rw [htl]; omega) (fun i _ h => absurd h (by simp))
        rw [htl] at hps
        refine hps.mono ?_
        clear hps htl
        rintro e w6 ⟨v6, gh6, caph6, rfl, hb6, hgh6, hown6, hlen6, hheap6, hcnt6⟩
        have B6 := Lib.hid (below_on B5.out (below_on b6 hb6))
        have O6 := Lib.hid ((Own5.out.alloc (.cells #[] 3)).kept (grown_of_below hb6 none) (by simp [Value.ownBlock]))
        have N6 := Lib.hid (nums_of hown6)
        have HL6 := Lib.hid hlen6
        have HC6 := Lib.hid hcnt6
        have hv6 : v6.length ≤ 90 := by rw [hlen6, List.length_tail]; simp; omega
        have hs6 := hb6.size
        have hs6' : w5.heap.size + 1 ≤ w6.heap.size := by simpa using hs6
        clear hb6 hown6 hlen6 hcnt6 hs6 b6
        go_wp2_with fail
        have hfr := freed_any ⟨some ⟨eb, off, none⟩, c⟩ l w.heap.size (ndN l) q p w6 B ⟨h1.out.below B6.out (by omega)⟩ (by omega) h9 hth (HN1.out.below B6.out) (fun i hi => lt64 (ndA_lt l i i) (by omega)) hq64 hp64
        refine hfr.mono ?_
        clear hfr
        rintro e w7 ⟨gf7, capf7, rfl, hb7, hgf7, hown7⟩
        have B7 := Lib.hid (below_on B6.out hb7)
        have O7 := Lib.hid (O6.out.kept (grown_of_below hb7 none) (by simp [Value.ownBlock]))
        have N6' := Lib.hid (N6.out.keep hb7.size (hb7.block gh6 N6.out.1))
        have NF7 := Lib.hid (nums_of hown7)
        have hs7 := hb7.size
        have hfl7 := frL_len l (ndN l) q p l.length
        clear hb7 hown7
        go_wp2_with fail
        refine (pushed_any gh6 0 caph6 v6 (some ⟨gf7, 0, none⟩) (frL l (ndN l) q p l.length) capf7 w7 w7.heap.size N6'.out.vs NF7.out.vs (Nat.le_refl _) (by omega) (by omega) hheap6).mono ?_
        rintro e w8 ⟨v8, gh8, caph8, rfl, hb8, hgh8, hown8, hlen8, hheap8, hcnt8⟩
        have Fin : Hid (LeaS l w1 w8 (.slice (some ⟨g5, 0, none⟩) (out.length + 1) cap5) (.int .u64 (q : Nat)) (.slice (some ⟨gh8, 0, none⟩) v8.length caph8) m') := Lib.hid (by
          have hFn := HF.out.next h9 hth HBE.out.symm hv HTOP.out hheap8 (by rw [hlen8, HL6.out, ← HP.out, ← HQ.out]; simp) (fun z => by rw [hcnt8, HC6.out, ← HP.out, ← HQ.out]; simp [cnt])
          rw [HXE.out] at hFn
          refine ⟨mkD d b, q, v8, out ++ [x.t], g5, cap5, gh8, caph8, by rw [List.length_append]; rfl, rfl, rfl, hg5, by omega, ?_, nums_of hown8, (own_cap hown8).1, below_on B7.out hb8, by rw [← HQ.out]; exact hFn⟩
          have := O7.out.kept (grown_of_below hb8 none) (by simp [Value.ownBlock])
          rw [List.length_append]
          simpa [ints] using this)
        clear hb8 hown8 hlen8 hcnt8 hheap8
        go_wp2
        go_roundw
        case rel => exact ⟨m', Fin.out⟩
        case measure => simp; omega
      · skip
        go_wp2_with (at_builtin; refine wpList_append_own _ rfl (.tmp 25) (.tmp 31) 25 rfl w1.heap.size 3 i0 _ 1 8 Try.underlying25 hi iz0 iz1 iz2 rfl (by decide) _ out.length _ rfl (HO.out.alloc _) ⟨_, 0, none⟩ 1 1 [.int .i64 _] rfl rfl (cell1_new _ _ _) (by intro u hu; simp at hu; subst hu; rfl) (by unfold maxLen; omega) (by omega) (by simp; omega) ?_; intro v' w5 own5 grow5 _; obtain ⟨g5, cap5, rfl, hg5, hlt5⟩ := own5.form (by omega); have Own5 := Lib.hid own5; have B5 := Lib.hid ((HB.out.alloc hz _).grown grow5 (by simp; omega) (by intro q hq; cases hq; exact hg)); have N5 := Lib.hid (HN.out.keep (w' := w5) (by have := grow5.size; simp at this; omega) ((grow5.block gh (by simp; omega) (fun e => hne (by injection e))).trans (Below.heap_alloc _ _ gh lgh))); clear own5 grow5)
        have hs5 := B5.out.size
        have lN5 := N5.out.1
        have b6 : Below w5.heap.size w5 (w5.alloc (.cells #[] 3)) := by go_grown
        have htl : v.tail.length = v.length - 1 := List.length_tail
        have hps := pushed_any w5.heap.size 0 0 [] (some ⟨gh, 1, none⟩) v.tail (caph - 1) (w5.alloc (.cells #[] 3)) (w5.alloc (.cells #[] 3)).heap.size (Vs.nil _ _ _) (by have := N5.out.tail; exact this.up (by go_grown) (Nat.le_refl _) (by simp)) (Nat.le_refl _) (by simp) (by rw [htl]; omega) (fun i _ h => absurd h (by simp))
        rw [htl] at hps
        refine hps.mono ?_
        clear hps htl
        rintro e w6 ⟨v6, gh6, caph6, rfl, hb6, hgh6, hown6, hlen6, hheap6, hcnt6⟩
        have B6 := Lib.hid (below_on B5.out (below_on b6 hb6))
        have O6 := Lib.hid ((Own5.out.alloc (.cells #[] 3)).kept (grown_of_below hb6 none) (by simp [Value.ownBlock]))
        have N6 := Lib.hid (nums_of hown6)
        have HL6 := Lib.hid hlen6
        have HC6 := Lib.hid hcnt6
        have hv6 : v6.length ≤ 90 := by rw [hlen6, List.length_tail]; simp; omega
        have hs6 := hb6.size
        have hs6' : w5.heap.size + 1 ≤ w6.heap.size := by simpa using hs6
        clear hb6 hown6 hlen6 hcnt6 hs6 b6
        go_wp2_with fail
        have hfr := freed_any ⟨some ⟨eb, off, none⟩, c⟩ l w.heap.size (ndN l) q p w6 B ⟨h1.out.below B6.out (by omega)⟩ (by omega) h9 hth (HN1.out.below B6.out) (fun i hi => lt64 (ndA_lt l i i) (by omega)) hq64 hp64
        refine hfr.mono ?_
        clear hfr
        rintro e w7 ⟨gf7, capf7, rfl, hb7, hgf7, hown7⟩
        have B7 := Lib.hid (below_on B6.out hb7)
        have O7 := Lib.hid (O6.out.kept (grown_of_below hb7 none) (by simp [Value.ownBlock]))
        have N6' := Lib.hid (N6.out.keep hb7.size (hb7.block gh6 N6.out.1))
        have NF7 := Lib.hid (nums_of hown7)
        have hs7 := hb7.size
        have hfl7 := frL_len l (ndN l) q p l.length
        clear hb7 hown7
        go_wp2_with fail
        refine (pushed_any gh6 0 caph6 v6 (some ⟨gf7, 0, none⟩) (frL l (ndN l) q p l.length) capf7 w7 w7.heap.size N6'.out.vs NF7.out.vs (Nat.le_refl _) (by omega) (by omega) hheap6).mono ?_
        rintro e w8 ⟨v8, gh8, caph8, rfl, hb8, hgh8, hown8, hlen8, hheap8, hcnt8⟩
        have Fin : Hid (LeaS l w1 w8 (.slice (some ⟨g5, 0, none⟩) (out.length + 1) cap5) (.int .u64 (q : Nat)) (.slice (some ⟨gh8, 0, none⟩) v8.length caph8) m') := Lib.hid (by
          have hFn := HF.out.next h9 hth HBE.out.symm hv HTOP.out hheap8 (by rw [hlen8, HL6.out, ← HP.out, ← HQ.out]; simp) (fun z => by rw [hcnt8, HC6.out, ← HP.out, ← HQ.out]; simp [cnt])
          rw [HXE.out] at hFn
          refine ⟨mkD d b, q, v8, out ++ [x.t], g5, cap5, gh8, caph8, by rw [List.length_append]; rfl, rfl, rfl, hg5, by omega, ?_, nums_of hown8, (own_cap hown8).1, below_on B7.out hb8, by rw [← HQ.out]; exact hFn⟩
          have := O7.out.kept (grown_of_below hb8 none) (by simp [Value.ownBlock])
          rw [List.length_append]
          simpa [ints] using this)
        clear hb8 hown8 hlen8 hcnt8 hheap8
        go_wp2
        go_roundw
        case rel => exact ⟨m', Fin.out⟩
        case measure => simp; omega
    · have HE := Lib.hid (hF.done (by omega))
      have e0 : out = leaL l := HE.out
      subst e0
      have HO := Lib.hid hown
      have HB := Lib.hid (below_on HB1.out hbel)
      have hvi : ¬ (0 : Int) < (v.length : Int) := by omega
      clear hF hown hnum hbel
      go_wp2
      go_ret
      exact ⟨g, cap, rfl, HB.out, by omega, own_down HO.out (by omega)⟩
end Go.Proofs.Ytbddmicgfhljeaa
namespace Go.Proofs.Ytbddmicgfhljeaa
open Go.RowKit Pl Go.BigFrame
set_option maxHeartbeats 8000000
set_option maxRecDepth 100000
set_option linter.unusedVariables false

/-- Truths in a block. -/
def RowT (wr : World) (V n : Nat) (f : Nat → Bool) : Prop := ∃ cs, Bk wr V 4 cs ∧ cs.size = n ∧ ∀ j, j < n → cs[j]? = some (.bool (f j))
theorem RowT.keep {w w' : World} {V n : Nat} {f : Nat → Bool} (h : RowT w V n f) (hk : w'.heap[V]? = w.heap[V]?) : RowT w' V n f := by
  obtain ⟨cs, hbk, h1, h2⟩ := h
  exact ⟨cs, hk.trans hbk, h1, h2⟩
theorem RowT.lt {w : World} {V n : Nat} {f : Nat → Bool} (h : RowT w V n f) : V < w.heap.size := by
  obtain ⟨cs, hbk, _⟩ := h; exact hbk.lt
theorem RowT.below {w w' : World} {V n : Nat} {f : Nat → Bool} (h : RowT w V n f) (hb : Below w.heap.size w w') : RowT w' V n f := h.keep (hb.block V h.lt)
theorem RowT.cell {w : World} {V n : Nat} {f : Nat → Bool} (h : RowT w V n f) {j : Nat} (hj : j < n) : w.cell? ⟨V, j, none⟩ = some (.bool (f j)) ∧ w.frozen? ⟨V, j, none⟩ = false := by
  obtain ⟨cs, hbk, h1, h2⟩ := h
  exact ⟨(hbk.cell j).trans (h2 j hj), hbk.free j⟩
theorem RowT.mk {w : World} {V n b : Nat} {d : Nat → Bool} (h : RowT w V n d) : RowT (w.setCell ⟨V, b, none⟩ (.bool true)) V n (mkD d b) := by
  obtain ⟨cs, hbk, h1, h2⟩ := h
  refine ⟨_, hbk.set b _, by simpa using h1, fun j hj => ?_⟩
  unfold mkD
  by_cases e : j = b
  · subst e
    rw [Array.getElem?_setIfInBounds_self_of_lt (by omega), if_pos rfl]
  · rw [Array.getElem?_setIfInBounds_ne (fun h => e h.symm), if_neg e]
    exact h2 j hj
/-- Whether an event is free, as far as the first k ahead of it are asked. -/
def frK (E : Evo) (d : Nat → Bool) (i k : Nat) : Bool := !d i && (List.range k).all fun q => d q || !E.nd q i
theorem frK_succ (E : Evo) (d : Nat → Bool) (i k : Nat) : frK E d i (k + 1) = (frK E d i k && (d k || !E.nd k i)) := by
  unfold frK
  rw [List.range_succ, List.all_append]
  simp [Bool.and_assoc]
theorem frK_no {E : Evo} {d : Nat → Bool} {i k : Nat} (h : k ≤ i) (hf : frK E d i k = false) : frB E d i = false := by
  rw [Bool.eq_false_iff] at hf ⊢
  intro hb
  apply hf
  have := hb
  unfold frB at this
  unfold frK
  simp only [Bool.and_eq_true, List.all_eq_true, List.mem_range] at this ⊢
  exact ⟨this.1, fun q hq => this.2 q (by omega)⟩
theorem cell_sz (w : World) (a : Addr) (u v : Value) : ∀ j x, [v][j]? = some x → ((w.setCell a u).alloc (.cells #[v] 3)).cell? ((⟨w.heap.size, 0, none⟩ : Addr).add j) = some x := by
  have := cell1_new (w.setCell a u) v 3
  rwa [World.size_setCell] at this
structure SLeF (l : Evts) (d : Nat → Bool) (m : Nat) (out : List Int) : Prop where
  nm : nL d l.length = m
  sum : out ++ (takeL (evo l) m d).map (fun i => (gE l i).t) = leaL l
  len : out.length + m = l.length
theorem SLeF.next {l : Evts} {d : Nat → Bool} {m b : Nat} {out : List Int} (h : SLeF l d (m + 1) out) (hb : beI (evo l) d l.length = (b : Int)) : SLeF l (mkD d b) m (out ++ [(gE l b).t]) := by
  have hbe : (beI (evo l) d (evo l).n).toNat = b := by show (beI (evo l) d l.length).toNat = b; omega
  refine ⟨?_, ?_, ?_⟩
  · have := take_step (E := evo l) (d := d) (m := m) h.nm
    rw [hbe] at this
    exact this
  · have hs := h.sum
    have e : takeL (evo l) (m + 1) d = b :: takeL (evo l) m (mkD d b) := by
      show (beI (evo l) d (evo l).n).toNat :: takeL (evo l) m (mkD d (beI (evo l) d (evo l).n).toNat) = _
      rw [hbe]
    rw [e, List.map_cons] at hs
    rw [← hs, List.append_assoc]; rfl
  · rw [List.length_append, List.length_singleton]; have := h.len; omega
def SLS (l : Evts) (w wr : World) (o : Value) (m : Nat) : Prop :=
  ∃ (d : Nat → Bool) (out : List Int) (g cap : Nat), o = .slice (some ⟨g, 0, none⟩) out.length cap ∧ w.heap.size + 1 ≤ g ∧ wr.ownsRow (w.heap.size + 1) 3 1 (.slice (some ⟨g, 0, none⟩) out.length cap) out.length (ints out) ∧ RowT wr w.heap.size l.length d ∧ Below w.heap.size w wr ∧ SLeF l d m out
theorem sleast_any (k0 : EvsH) (l : Evts) (w : World) (B : Nat) (hR : EvsR w B k0 l) (hB : B ≤ w.heap.size) (h9 : l.length ≤ 9) :
    Calls Try.prog 89 #[EvsV k0 l] w (AnsN w (leaL l)) := by
  obtain ⟨i0, hi, iz0, iz1, iz2⟩ := info_parts Try.info3
  obtain ⟨j0, hj, jz0, jz1, jz2⟩ := info_parts Try.info4
  have hmk := make_any Try.underlying88 hj jz0 l.length (by rw [jz2]; omega) (by omega)
  rw [jz1, Nat.mul_one] at hmk
  obtain ⟨A, c⟩ := k0
  obtain ⟨h⟩ := hR
  have h : Vs w B A (evs l) := h
  show Calls Try.prog 89 #[.slice A l.length c] w _
  have start : Hid (SLS l w ((w.alloc (.cells (madeCells #[.bool false] l.length) 4)).alloc (.cells #[] 3)) (.slice (some ⟨w.heap.size + 1, 0, none⟩) 0 0) l.length) := Lib.hid (by
    refine ⟨fun _ => false, [], w.heap.size + 1, 0, rfl, Nat.le_refl _, ?_, ⟨_, (Bk.new w _ _).alloc _, by simp [size_madeCells], fun j hj => by simp [madeCells, hj, Nat.mod_one]⟩, by go_grown, ⟨nL_none _, rfl, by simp⟩⟩
    have := World.ownsRow_made (base := w.heap.size + 1) (e := 3) (size := 1) (w.alloc (.cells (madeCells #[.bool false] l.length) 4)) #[] 0 (by simp) (by decide) (by simp)
    rw [World.size_alloc] at this
    exact this)
  go_enter Try.func89, Try.ntmps89
  go_wp2_with fail
  go_loopw [4] (fun o wr => ∃ m : Nat, SLS l w wr o m) (fun o _ => l.length - (match o with | .slice _ n _ => n | _ => 0))
  case atStart => exact ⟨_, start.out⟩
  case round =>
    obtain ⟨m, d, out, g, cap, rfl, hg, hown, hT, hbel, hF⟩ := hrel
    clear start hmk
    have hz := hbel.size
    have hlen := hF.len
    by_cases hlt : out.length < l.length
    · obtain ⟨m', rfl⟩ : ∃ m', m = m' + 1 := ⟨m - 1, by omega⟩
      have hi1 : (out.length : Int) < (l.length : Int) := by omega
      have hpos : 0 < nL d l.length := by rw [hF.nm]; omega
      obtain ⟨hb0, _, hbn⟩ := be_ok (E := evo l) (d := d) hpos
      obtain ⟨b, hb⟩ : ∃ b : Nat, beI (evo l) d l.length = (b : Int) := ⟨(beI (evo l) d l.length).toNat, by have : 0 ≤ beI (evo l) d l.length := hb0; omega⟩
      have hbn : b < l.length := by have : (beI (evo l) d l.length).toNat < l.length := hbn; omega
      have HF := Lib.hid hF
      have HO := Lib.hid hown
      have HT := Lib.hid hT
      have HB0 := Lib.hid hbel
      have HBE := Lib.hid hb
      have h0 := Lib.hid (h.below hbel hB)
      have lT := hT.lt
      clear hF hown hT hbel hb hb0 hpos
      obtain ⟨wo, rfl⟩ : ∃ wo : World, wo = wr := ⟨_, rfl⟩
      go_wp2_with fail
      go_loopw [5, 6] (fun bv iv wr => ∃ i : Nat, i ≤ l.length ∧ iv = .int .i64 i ∧ bv = .int .i64 (beI (evo l) d i) ∧ Below wo.heap.size wo wr) (fun _ iv _ => l.length - (intOf iv).toNat)
      case atStart => exact ⟨0, Nat.zero_le _, rfl, rfl, Below.refl _ _⟩
      case round =>
        obtain ⟨i, hil, rfl, rfl, hbel⟩ := hrel
        have HB1 := Lib.hid hbel
        have hz1 := hbel.size
        clear hbel
        by_cases hli : i < l.length
        · have hi2 : (i : Int) < (l.length : Int) := by omega
          obtain ⟨cD, -⟩ := (HT.out.below HB1.out).cell hli
          have lD : w.heap.size < wr.heap.size := by omega
          have hstart : Hid ((!d i) = frK (evo l) d i 0) := Lib.hid (by unfold frK; simp)
          obtain ⟨wp, rfl⟩ : ∃ wp : World, wp = wr := ⟨_, rfl⟩
          go_wp2_with fail
          clear cD
          go_loopw [7, 8] (fun fv kv wr => ∃ k : Nat, k ≤ i ∧ kv = .int .i64 k ∧ fv = .bool (frK (evo l) d i k) ∧ Below wp.heap.size wp wr) (fun _ kv _ => i - (intOf kv).toNat)
          case atStart => exact ⟨0, Nat.zero_le _, rfl, by rw [hstart.out], Below.refl _ _⟩
          case round =>
            obtain ⟨k, hki, rfl, rfl, hbel⟩ := hrel
            have HB := Lib.hid hbel
            have hz2 := hbel.size
            have HBW := Lib.hid (below_on HB1.out hbel)
            clear hbel
            obtain ⟨fk, hfk⟩ : ∃ v, frK (evo l) d i k = v := ⟨_, rfl⟩
            rw [hfk]
            by_cases hgo : k < i ∧ fk = true
            · obtain ⟨hlk, rfl⟩ := hgo
              have hi3 : (k : Int) < (i : Int) := by omega
              have hi4 : (k : Int) < (l.length : Int) := by omega
              have hsucc := frK_succ (evo l) d i k
              rw [hfk, Bool.true_and] at hsucc
              obtain ⟨cK, -⟩ := (HT.out.below HBW.out).cell (show k < l.length by omega)
              have lK : w.heap.size < wr.heap.size := by omega
              obtain ⟨eb, off, rfl, heb, ⟨hx0, hx1, hx2, hx3, hx4, hx5, hx6⟩, ⟨hy0, hy1, hy2, hy3, hy4, hy5, hy6⟩⟩ := (h0.out.below HBW.out (by omega)).ev2 (show k < l.length by omega) hli
              have hbw : eb < wr.heap.size := by omega
              have hnd : (evo l).nd k i = depE (gE l k) (gE l i) := rfl
              obtain ⟨x, hx⟩ : ∃ x, gE l k = x := ⟨_, rfl⟩
              obtain ⟨y, hy⟩ : ∃ y, gE l i = y := ⟨_, rfl⟩
              rw [hx] at hx0 hx1 hx2 hx3 hx4 hx5 hx6 hnd
              rw [hy] at hy0 hy1 hy2 hy3 hy4 hy5 hy6 hnd
              rw [hnd] at hsucc
              obtain ⟨dk, hdk⟩ : ∃ v, d k = v := ⟨_, rfl⟩
              rw [hdk] at cK
              have hS := fr_none wr
              have gx0 := Ws.same (bs := []) hbw hx0
              have gx1 := Ws.same (bs := []) hbw hx1
              have gx2 := Ws.same (bs := []) hbw hx2
              have gx3 := Ws.same (bs := []) hbw hx3
              have gx4 := Ws.same (bs := []) hbw hx4
              have gx5 := Ws.same (bs := []) hbw hx5
              have gx6 := Ws.same (bs := []) hbw hx6
              have gy0 := Ws.same (bs := []) hbw hy0
              have gy1 := Ws.same (bs := []) hbw hy1
              have gy2 := Ws.same (bs := []) hbw hy2
              have gy3 := Ws.same (bs := []) hbw hy3
              have gy4 := Ws.same (bs := []) hbw hy4
              have gy5 := Ws.same (bs := []) hbw hy5
              have gy6 := Ws.same (bs := []) hbw hy6
              have gd := Ws.same (bs := []) lK cK
              haveI hne := Nonempty.intro (Ws.mk _ hS)
              have HS := Lib.hid hS
              clear hS hx0 hx1 hx2 hx3 hx4 hx5 hx6 hy0 hy1 hy2 hy3 hy4 hy5 hy6 cK hx hy hnd hfk
              cases dk with
              | true =>
                have HNX := Lib.hid (show frK (evo l) d i (k + 1) = true by rw [hsucc, hdk]; rfl)
                clear hsucc hdk
                go_wp2_with fail
                refine region_in (by kernel_rfl) HS.out.drew ?_
                repeat (go_big_quiet_step (fail))
                refine wpQuiet_nil ?_
                rintro w3 ⟨⟨_, hw3⟩, rfl⟩
                have HB3 := Lib.hid (below_on HB.out hw3.below)
                clear hw3 gd gx0 gx1 gx2 gx3 gx4 gx5 gx6 gy0 gy1 gy2 gy3 gy4 gy5 gy6
                go_wp2
                go_roundw
                case rel => exact ⟨k + 1, by omega, by go_num, by rw [HNX.out], HB3.out⟩
                case measure => simp [intOf]; omega
              | false =>
                rcases Bool.eq_false_or_eq_true (depE x y) with hd | hd
                · have HD := Lib.hid (show depB x.t x.i x.x.k x.x.a x.x.b x.x.c x.x.s y.t y.i y.x.k y.x.a y.x.b y.x.c y.x.s = true from hd)
                  have HDV := Lib.hid hd
                  clear hd
                  have HNX := Lib.hid (show frK (evo l) d i (k + 1) = false by rw [hsucc, hdk]; rw [HDV.out]; rfl)
                  clear hsucc hdk
                  go_wp2_with fail
                  refine region_in (by kernel_rfl) HS.out.drew ?_
                  repeat (go_big_quiet_step ((go_at_call 132; exact call_in (ret_bool HD.out (sdep_any x.t x.i x.x.k x.x.a x.x.b x.x.c x.x.s y.t y.i y.x.k y.x.a y.x.b y.x.c y.x.s _)))))
                  refine wpQuiet_nil ?_
                  rintro w3 ⟨⟨_, hw3⟩, rfl⟩
                  have HB3 := Lib.hid (below_on HB.out hw3.below)
                  clear hw3 gd gx0 gx1 gx2 gx3 gx4 gx5 gx6 gy0 gy1 gy2 gy3 gy4 gy5 gy6
                  go_wp2
                  go_roundw
                  case rel => exact ⟨k + 1, by omega, by go_num, by rw [HNX.out], HB3.out⟩
                  case measure => simp [intOf]; omega
                · have HD := Lib.hid (show depB x.t x.i x.x.k x.x.a x.x.b x.x.c x.x.s y.t y.i y.x.k y.x.a y.x.b y.x.c y.x.s = false from hd)
                  have HDV := Lib.hid hd
                  clear hd
                  have HNX := Lib.hid (show frK (evo l) d i (k + 1) = true by rw [hsucc, hdk]; rw [HDV.out]; rfl)
                  clear hsucc hdk
                  go_wp2_with fail
                  refine region_in (by kernel_rfl) HS.out.drew ?_
                  repeat (go_big_quiet_step ((go_at_call 132; exact call_in (ret_bool HD.out (sdep_any x.t x.i x.x.k x.x.a x.x.b x.x.c x.x.s y.t y.i y.x.k y.x.a y.x.b y.x.c y.x.s _)))))
                  refine wpQuiet_nil ?_
                  rintro w3 ⟨⟨_, hw3⟩, rfl⟩
                  have HB3 := Lib.hid (below_on HB.out hw3.below)
                  clear hw3 gd gx0 gx1 gx2 gx3 gx4 gx5 gx6 gy0 gy1 gy2 gy3 gy4 gy5 gy6
                  go_wp2
                  go_roundw
                  case rel => exact ⟨k + 1, by omega, by go_num, by rw [HNX.out], HB3.out⟩
                  case measure => simp [intOf]; omega
            · have hfree : Hid (frB (evo l) d i = fk) := Lib.hid (by
                cases fk with
                | false => exact frK_no hki hfk
                | true =>
                  have hkk : k = i := by
                    rcases Nat.lt_or_ge k i with h1 | h1
                    · exact absurd ⟨h1, rfl⟩ hgo
                    · omega
                  subst hkk; exact hfk)
              have hgo2 : (decide ((k : Int) < (i : Int)) && fk) = false := by
                rw [Bool.eq_false_iff]
                intro hh
                rw [Bool.and_eq_true, decide_eq_true_eq] at hh
                exact hgo ⟨by omega, hh.2⟩
              have hbs : beI (evo l) d (i + 1) = if (frB (evo l) d i && (decide (beI (evo l) d i < 0) || decide ((gE l i).t < (gE l (beI (evo l) d i).toNat).t))) = true then (i : Int) else beI (evo l) d i := rfl
              have hbg := beI_ge (evo l) d i
              rw [hfree.out] at hbs
              obtain ⟨z, hz⟩ : ∃ z, beI (evo l) d i = z := ⟨_, rfl⟩
              rw [hz] at hbs hbg ⊢
              obtain ⟨nb, hnb⟩ : ∃ nb, beI (evo l) d (i + 1) = nb := ⟨_, rfl⟩
              rw [hnb] at hbs
              have HNB := Lib.hid hnb
              have HZ := Lib.hid hz
              clear hfk hfree hz hnb
              cases fk with
              | false =>
                have e0 : nb = z := by rw [hbs]; simp
                subst e0
                clear hbs
                have hS := fr_none wr
                haveI hne := Nonempty.intro (Ws.mk _ hS)
                have HS := Lib.hid hS
                clear hS
                rcases Nat.lt_or_ge k i with hlk | hlk
                · have hkl2 : (k : Int) < (i : Int) := by omega
                  go_wp2_with fail
                  refine region_in (by kernel_rfl) HS.out.drew ?_
                  repeat (go_big_quiet_step (fail))
                  refine wpQuiet_nil ?_
                  rintro w3 ⟨⟨_, hw3⟩, rfl⟩
                  have HB3 := Lib.hid (below_on HB1.out (below_on HB.out hw3.below))
                  clear hw3 
                  go_wp2
                  go_roundw
                  case rel => exact ⟨i + 1, by omega, by go_num, by rw [HNB.out], HB3.out⟩
                  case measure => simp [intOf]; omega
                · have hkl2 : ¬ (k : Int) < (i : Int) := by omega
                  go_wp2_with fail
                  refine region_in (by kernel_rfl) HS.out.drew ?_
                  repeat (go_big_quiet_step (fail))
                  refine wpQuiet_nil ?_
                  rintro w3 ⟨⟨_, hw3⟩, rfl⟩
                  have HB3 := Lib.hid (below_on HB1.out (below_on HB.out hw3.below))
                  clear hw3 
                  go_wp2
                  go_roundw
                  case rel => exact ⟨i + 1, by omega, by go_num, by rw [HNB.out], HB3.out⟩
                  case measure => simp [intOf]; omega
              | true =>
                have hlk : i ≤ k := by
                  rcases Nat.lt_or_ge k i with h1 | h1
                  · exact absurd ⟨h1, rfl⟩ hgo
                  · exact h1
                have hki2 : ¬ (k : Int) < (i : Int) := by omega
                rcases Int.lt_or_le z 0 with hz0 | hz0
                · have e0 : nb = (i : Int) := by rw [hbs, decide_eq_true hz0]; rfl
                  subst e0
                  clear hbs
                  have hS := fr_none wr
                  haveI hne := Nonempty.intro (Ws.mk _ hS)
                  have HS := Lib.hid hS
                  clear hS
                  go_wp2_with fail
                  refine region_in (by kernel_rfl) HS.out.drew ?_
                  repeat (go_big_quiet_step (fail))
                  refine wpQuiet_nil ?_
                  rintro w3 ⟨⟨_, hw3⟩, rfl⟩
                  have HB3 := Lib.hid (below_on HB1.out (below_on HB.out hw3.below))
                  clear hw3 
                  go_wp2
                  go_roundw
                  case rel => exact ⟨i + 1, by omega, by go_num, by rw [HNB.out], HB3.out⟩
                  case measure => simp [intOf]; omega
                · obtain ⟨bb, rfl⟩ : ∃ bb : Nat, z = (bb : Int) := ⟨z.toNat, by omega⟩
                  have hbl : bb < l.length := by omega
                  have hbl2 : (bb : Int) < (l.length : Int) := by omega
                  have hnz : ¬ ((bb : Int) < 0) := by omega
                  have hdz : decide ((bb : Int) < 0) = false := decide_eq_false hnz
                  rw [decide_eq_false hnz, Bool.false_or, Bool.true_and, Int.toNat_natCast] at hbs
                  obtain ⟨eb, off, rfl, heb, ⟨hx0, -, -, -, -, -, -⟩, ⟨hy0, -, -, -, -, -, -⟩⟩ := (h0.out.below HBW.out (by omega)).ev2 hbl hli
                  have hbw : eb < wr.heap.size := by omega
                  obtain ⟨x, hx⟩ : ∃ x, gE l bb = x := ⟨_, rfl⟩
                  obtain ⟨y, hy⟩ : ∃ y, gE l i = y := ⟨_, rfl⟩
                  rw [hx] at hx0 hbs
                  rw [hy] at hy0 hbs
                  have hS := fr_none wr
                  have gx0 := Ws.same (bs := []) hbw hx0
                  have gy0 := Ws.same (bs := []) hbw hy0
                  haveI hne := Nonempty.intro (Ws.mk _ hS)
                  have HS := Lib.hid hS
                  clear hS hx0 hy0 hx hy
                  rcases Int.lt_or_le y.t x.t with hlt2 | hlt2
                  · have e0 : nb = (i : Int) := by rw [hbs, decide_eq_true hlt2]; rfl
                    subst e0
                    clear hbs
                    go_wp2_with fail
                    refine region_in (by kernel_rfl) HS.out.drew ?_
                    repeat (go_big_quiet_step (fail))
                    refine wpQuiet_nil ?_
                    rintro w3 ⟨⟨_, hw3⟩, rfl⟩
                    have HB3 := Lib.hid (below_on HB1.out (below_on HB.out hw3.below))
                    clear hw3 gx0 gy0
                    go_wp2
                    go_roundw
                    case rel => exact ⟨i + 1, by omega, by go_num, by rw [HNB.out], HB3.out⟩
                    case measure => simp [intOf]; omega
                  · have hnl : ¬ y.t < x.t := by omega
                    have e0 : nb = (bb : Int) := by rw [hbs, decide_eq_false hnl]; rfl
                    subst e0
                    clear hbs
                    go_wp2_with fail
                    refine region_in (by kernel_rfl) HS.out.drew ?_
                    repeat (go_big_quiet_step (fail))
                    refine wpQuiet_nil ?_
                    rintro w3 ⟨⟨_, hw3⟩, rfl⟩
                    have HB3 := Lib.hid (below_on HB1.out (below_on HB.out hw3.below))
                    clear hw3 gx0 gy0
                    go_wp2
                    go_roundw
                    case rel => exact ⟨i + 1, by omega, by go_num, by rw [HNB.out], HB3.out⟩
                    case measure => simp [intOf]; omega
        · have hil2 : i = l.length := by omega
          subst hil2
          rw [HBE.out]
          have hi2 : (b : Int) < (l.length : Int) := by omega
          obtain ⟨cD, fD⟩ := (HT.out.below HB1.out).cell hbn
          have lD : w.heap.size < wr.heap.size := by omega
          obtain ⟨eb, off, x, rfl, heb, hx, -, hx0, -⟩ := (h0.out.below HB1.out (by omega)).ev_ hbn
          have hxe : gE l b = x := by simp [gE, List.getD, hx]
          have hbw : eb < wr.heap.size := by omega
          have hne : w.heap.size ≠ eb := by omega
          have hx0' : (wr.setCell ⟨w.heap.size, b, none⟩ (.bool true)).cell? ⟨eb, off + b * 7, none⟩ = some (.int .i64 x.t) := (World.cell?_setCell_far _ _ _ _ (by show w.heap.size ≠ eb; omega)).trans hx0
          have HTn := Lib.hid (((HT.out.below HB1.out).mk (b := b)))
          have HOn := Lib.hid (ownsRow_setCell_below (HO.out.kept (grown_of_below HB1.out none) (by simp [Value.ownBlock])) (a := ⟨w.heap.size, b, none⟩) (by show w.heap.size < w.heap.size + 1; omega) (.bool true))
          have HBn := Lib.hid ((below_on HB0.out HB1.out).setCell (p := ⟨w.heap.size, b, none⟩) (Nat.le_refl _) (.bool true))
          have sn : (wr.setCell ⟨w.heap.size, b, none⟩ (.bool true)).heap.size = wr.heap.size := World.size_setCell ..
          have HXE := Lib.hid hxe
          have sn1 := Nat.le_of_eq sn
          have sn2 := Nat.le_of_eq sn.symm
          clear hx hxe sn
          go_wp2_with (at_builtin; refine wpList_append_own _ rfl (.tmp 75) (.tmp 81) 25 rfl (w.heap.size + 1) 3 i0 _ 1 8 Try.underlying25 hi iz0 iz1 iz2 rfl (by decide) _ out.length _ rfl (HOn.out.alloc _) ⟨_, 0, none⟩ 1 1 [.int .i64 _] rfl rfl (cell_sz _ _ _ _) (by intro u hu; simp at hu; subst hu; rfl) (by unfold maxLen; omega) (by omega) (by simp; omega) ?_; intro v' w5 own5 grow5 _; obtain ⟨g5, cap5, rfl, hg5, hlt5⟩ := own5.form (by omega); have Own5 := Lib.hid own5; have G5 := Lib.hid grow5; clear own5 grow5)
          have B5 := Lib.hid ((HBn.out.alloc (by omega) _).grown G5.out (by simp; omega) (by intro q hq; cases hq; exact Nat.le_of_succ_le hg))
          have T5 := Lib.hid (HTn.out.keep (w' := w5) ((G5.out.block w.heap.size (by simp; omega) (fun e => absurd (show w.heap.size = g by injection e) (by omega))).trans (Below.heap_alloc _ _ w.heap.size (by omega))))
          have Fin : Hid (SLS l w w5 (.slice (some ⟨g5, 0, none⟩) (out.length + 1) cap5) m') := Lib.hid (by
            have hFn := HF.out.next HBE.out
            rw [HXE.out] at hFn
            refine ⟨mkD d b, out ++ [x.t], g5, cap5, by rw [List.length_append]; rfl, hg5, ?_, T5.out, B5.out, hFn⟩
            have := Own5.out
            rw [List.length_append]
            simpa [ints] using this)
          go_roundw
          case rel => exact ⟨m', Fin.out⟩
          case measure => simp; omega
    · have hm0 : m = 0 := by omega
      subst hm0
      have HE := Lib.hid (show out = leaL l by have := hF.sum; simpa [takeL] using this)
      have e0 : out = leaL l := HE.out
      subst e0
      have HO := Lib.hid hown
      have HB := Lib.hid hbel
      have hi1 : ¬ ((leaL l).length : Int) < (l.length : Int) := by omega
      clear hF hown hT hbel
      go_wp2
      go_ret
      exact ⟨g, cap, rfl, HB.out, by omega, own_down HO.out (by omega)⟩
end Go.Proofs.Ytbddmicgfhljeaa
namespace Go.Proofs.Ytbddmicgfhljeaa
open Go.RowKit Pl
set_option maxHeartbeats 4000000
set_option maxRecDepth 100000
set_option linter.unusedVariables false

abbrev IlH := IsH
abbrev IlV (h : IlH) (o : List Int) : Value := .slice h.A o.length h.c
abbrev IlR (w : World) (B : Nat) (h : IlH) (o : List Int) : Prop := IsR w B h o
abbrev IlL (o : List Int) (m : Nat) : Prop := IsL o m
abbrev IlS (o : List Int) : Prop := IsL o 1048576
theorem IlS_L {o : List Int} (s : IlS o) : IlL o maxLen := IsS_L s
structure IlO (w : World) (lo hi : Nat) (h : IlH) (o : List Int) : Prop where
  o0 : OwnVs w lo hi 3 h.A (ints o)
theorem IlO.rd {w : World} {lo hi : Nat} {h : IlH} {o : List Int} (r : IlO w lo hi h o) : IlR w hi h o := ⟨r.o0.vs⟩
theorem IlO.below {w w' : World} {lo hi B : Nat} {h : IlH} {o : List Int} (r : IlO w lo hi h o) (hb : Below B w w') (hB : hi ≤ B) : IlO w' lo hi h o := ⟨r.o0.below hb hB⟩
theorem IlO.keep {w w' : World} {lo hi lo' hi' : Nat} {h : IlH} {o : List Int} (r : IlO w lo hi h o) (hl : lo' ≤ lo) (hh : hi ≤ hi') (hk : ∀ i, lo ≤ i → i < hi → w'.heap[i]? = w.heap[i]?) : IlO w' lo' hi' h o := ⟨r.o0.keep hl hh hk⟩
theorem eqIl_any (h1 h2 : IlH) (o1 o2 : List Int) (w : World) (B : Nat) (r1 : IlR w B h1 o1) (r2 : IlR w B h2 o2) (hB : B ≤ w.heap.size) (L1 : IlL o1 maxLen) (L2 : IlL o2 maxLen) (r : Bool) (hr : Hid (decide (o1 = o2) = r)) :
    Calls Try.prog 22 #[IlV h1 o1, IlV h2 o2] w fun e w' => e = .returned (.bool r) ∧ Below w.heap.size w w' := eqIs_any h1 h2 o1 o2 w B r1 r2 hB L1 L2 r hr
def allIl (o : List Int) : Int := (o.length : Int)
theorem markIl_any (h : IlH) (o : List Int) (K : Int) (w : World) (lo hi : Nat) (hO : IlO w lo hi h o) (hhi : hi ≤ w.heap.size) (hL : IlL o 1048576) (hK : 0 ≤ K) (hK2 : K ≤ 100000000) :
    Calls Try.prog 24 #[IlV h o, .int .i64 K] w fun e w' => e = .returned (.int .i64 (K + allIl o)) ∧ Only lo hi w w' ∧ IlO w' lo hi h (upI K o.length) := by
  by_cases hn : 0 < o.length
  · obtain ⟨g, cs, hA, h0, h1, hb, hx⟩ := hO.o0 (by rw [ints_length]; exact hn)
    have hsz : o.length ≤ cs.size := by
      obtain ⟨v, hv⟩ : ∃ v, (ints o)[o.length - 1]? = some v := ⟨_, List.getElem?_eq_getElem (by rw [ints_length]; omega)⟩
      have := (Array.getElem?_eq_some_iff.1 (hx _ v hv)).1
      omega
    have hs := markInt_any o.length g h.c cs K w hb hsz hL.l0 hK (by omega)
    unfold IlV
    rw [hA]
    refine hs.mono ?_
    rintro e w' ⟨rfl, hm⟩
    exact ⟨rfl, hm.1.mono h0 h1, ⟨by rw [hA]; exact hm.done.more h0 h1⟩⟩
  · have e : o = [] := List.eq_nil_of_length_eq_zero (by omega)
    subst e
    refine (markInt_none h.A h.c K w hK (by omega)).mono ?_
    rintro e w' ⟨rfl, rfl⟩
    exact ⟨by simp [allIl], Only.refl _ _ _, ⟨OwnVs.nil _ _ _ _ _⟩⟩
theorem heldIl_any (h : IlH) (o : List Int) (K : Int) (w : World) (B : Nat) (hR : IlR w B h (upI K o.length)) (hB : B ≤ w.heap.size) (hL : IlL o 1048576) (hK : 0 ≤ K) (hK2 : K ≤ 100000000) :
    Calls Try.prog 45 #[IlV h o, .int .i64 K] w fun e w' => e = .returned (.int .i64 (K + allIl o)) ∧ Below w.heap.size w w' :=
  (heldInt_any h.A o.length h.c K w B hR.v hL.l0 hK (by omega)).mono fun _ _ h => ⟨h.1, by rw [← h.2]; exact Below.refl _ _⟩
/-- Numbers, and whether there are any to tell. -/
def AnsIl (w : World) (o : List Int) (r : Bool) (e : Ending) (w' : World) : Prop :=
  ∃ k : IlH, e = .returned (.tuple #[IlV k o, .bool r]) ∧ Below w.heap.size w w' ∧ w.heap.size ≤ w'.heap.size ∧ IlO w' w.heap.size w'.heap.size k o
theorem runE_th {L : Pg} (hL : progB L = true) : ∀ {xs : List Int} {f : Nat → Nat} {l : Evts}, Inv L f → runE L f xs = some l → ∀ e ∈ l, 0 ≤ e.t ∧ e.t < 3 := by
  obtain ⟨h31, h32⟩ := prog_len hL
  intro xs
  induction xs with
  | nil =>
    intro f l I h
    unfold runE at h
    injection h with h
    subst h
    intro e he; cases he
  | cons th r ih =>
    intro f l I h
    unfold runE at h
    split at h
    · rename_i hg
      obtain ⟨t, rfl, ht, hc⟩ := goB_parts hg
      rw [Int.toNat_natCast] at h
      cases hq : runE L (stepF L f t) r with
      | none => rw [hq] at h; simp at h
      | some l' =>
        rw [hq] at h
        simp only [Option.map_some, Option.some.injEq] at h
        subst h
        intro e he
        rcases List.mem_cons.1 he with rfl | he
        · show 0 ≤ ((t : Nat) : Int) ∧ ((t : Nat) : Int) < 3; omega
        · exact ih (inv_step hL I ht hc) hq e he
    · cases h
theorem evE_th {L : Pg} {xs : List Int} : thOk (evE L xs) := by
  unfold evE evO
  by_cases hp : progB L = true
  · rw [if_pos hp]
    cases hq : runE L (keptF L zeroF L.length) xs with
    | none => exact fun i h => absurd h (by simp [evL])
    | some l =>
      intro i hi
      have hi : i < l.length := hi
      have e : gE (evL (some l)) i = l[i] := by simp [gE, evL, List.getD, hi]
      rw [e]
      exact runE_th hp (inv_beg hp) hq _ (List.getElem_mem hi)
  · rw [if_neg hp]
    exact fun i h => absurd h (by simp [evL])
theorem takeL_length (E : Evo) : ∀ m d, (takeL E m d).length = m := by
  intro m
  induction m with
  | zero => intro d; rfl
  | succ m ih => intro d; simp [takeL, ih]
theorem leaL_length (l : Evts) : (leaL l).length = l.length := by unfold leaL; rw [List.length_map, takeL_length]
def leaE (L : Pg) (xs : List Int) : List Int := if evR L xs then leaL (evE L xs) else []
theorem leaE_small {L : Pg} {xs : List Int} (_ : PgS L) (_ : IsS xs) : IlS (leaE L xs) := by
  have h9 := (evE_facts (L := L) (xs := xs)).2
  unfold leaE
  split
  · exact ⟨by rw [leaL_length]; omega⟩
  · exact ⟨by simp⟩
theorem ileast_order (h : PgH) (L : Pg) (k : IsH) (xs : List Int) (w : World) (B : Nat) (hP : PgR w B h L) (hV : IsR w B k xs) (hB : B ≤ w.heap.size) (SP : PgS L) (LS : IsS xs) :
    Calls Try.prog 44 #[PgV h L, IsV k xs] w (AnsIl w (leaE L xs) (evR L xs)) := by
  obtain ⟨W, hW⟩ : ∃ W, W = w.alloc (.cells #[.slice h.A L.length h.c] 32) := ⟨_, rfl⟩
  have bW : Below w.heap.size w W := by rw [hW]; go_grown
  have KW := Lib.hid (show Bk W w.heap.size 32 #[.slice h.A L.length h.c] by rw [hW]; exact Bk.new _ _ _)
  have RW := Lib.hid (hP.below bW hB)
  have VW := Lib.hid (hV.below bW hB)
  have BW := Lib.hid bW
  have hBW : B ≤ W.heap.size := Nat.le_trans hB bW.size
  have HW := Lib.hid hW
  have F := Lib.hid (evE_facts (L := L) (xs := xs))
  have FT := Lib.hid (evE_th (L := L) (xs := xs))
  have hev := ievs_any h L k xs W B RW.out VW.out hBW SP LS
  unfold leaE
  generalize evE L xs = l at hev F FT
  generalize evR L xs = r at hev
  obtain ⟨E, hE⟩ : ∃ E, (if r = true then leaL l else []) = E := ⟨_, rfl⟩
  rw [hE]
  have HE := Lib.hid hE
  clear hW bW hP hV hE
  have cP := KW.out.cell 0
  have lP := KW.out.lt
  go_enter Try.func44, Try.ntmps44
  go_wp2_with fail
  rw [← HW.out]
  go_wp2_with fail
  refine hev.mono ?_
  clear hev cP lP
  rintro e w1 ⟨ke, rfl, hb1, hz1, ho1⟩
  have B1 := Lib.hid (below_on BW.out hb1)
  have O1 := Lib.hid ho1
  clear hb1 ho1
  cases r with
  | false =>
    have e0 : E = [] := HE.out.symm
    subst e0
    go_wp2
    go_returns
    exact ⟨⟨none, 0⟩, rfl, B1.out, B1.out.size, ⟨OwnVs.nil _ _ _ _ _⟩⟩
  | true =>
    have e0 : E = leaL l := HE.out.symm
    subst e0
    go_wp2_with fail
    refine (leastof_any ke l w1 w1.heap.size O1.out.rd (Nat.le_refl _) F.out.2 FT.out).mono ?_
    rintro e w2 ⟨g, cap, rfl, hb2, hg2, ho2⟩
    have B2 := Lib.hid (below_on B1.out hb2)
    have O2 := Lib.hid ((own_vs ho2 rfl).more (lo' := w.heap.size) (hi' := w2.heap.size) B1.out.size (Nat.le_refl _))
    clear hb2 ho2
    go_wp2
    go_returns
    exact ⟨⟨some ⟨g, 0, none⟩, cap⟩, rfl, B2.out, B2.out.size, ⟨O2.out⟩⟩
theorem sleast_order (h : PgH) (L : Pg) (k : IsH) (xs : List Int) (w : World) (B : Nat) (hP : PgR w B h L) (hV : IsR w B k xs) (hB : B ≤ w.heap.size) (SP : PgS L) (LS : IsS xs) :
    Calls Try.prog 43 #[PgV h L, IsV k xs] w (AnsIl w (leaE L xs) (evR L xs)) := by
  obtain ⟨W, hW⟩ : ∃ W, W = w.alloc (.cells #[.slice h.A L.length h.c] 32) := ⟨_, rfl⟩
  have bW : Below w.heap.size w W := by rw [hW]; go_grown
  have KW := Lib.hid (show Bk W w.heap.size 32 #[.slice h.A L.length h.c] by rw [hW]; exact Bk.new _ _ _)
  have RW := Lib.hid (hP.below bW hB)
  have VW := Lib.hid (hV.below bW hB)
  have BW := Lib.hid bW
  have hBW : B ≤ W.heap.size := Nat.le_trans hB bW.size
  have HW := Lib.hid hW
  have F := Lib.hid (evE_facts (L := L) (xs := xs))
  have FT := Lib.hid (evE_th (L := L) (xs := xs))
  have hev := sevs_any h L k xs W B RW.out VW.out hBW SP LS
  unfold leaE
  generalize evE L xs = l at hev F FT
  generalize evR L xs = r at hev
  obtain ⟨E, hE⟩ : ∃ E, (if r = true then leaL l else []) = E := ⟨_, rfl⟩
  rw [hE]
  have HE := Lib.hid hE
  clear hW bW hP hV hE
  have cP := KW.out.cell 0
  have lP := KW.out.lt
  go_enter Try.func43, Try.ntmps43
  go_wp2_with fail
  rw [← HW.out]
  go_wp2_with fail
  refine hev.mono ?_
  clear hev cP lP
  rintro e w1 ⟨ke, rfl, hb1, hz1, ho1⟩
  have B1 := Lib.hid (below_on BW.out hb1)
  have O1 := Lib.hid ho1
  clear hb1 ho1
  cases r with
  | false =>
    have e0 : E = [] := HE.out.symm
    subst e0
    go_wp2
    go_returns
    exact ⟨⟨none, 0⟩, rfl, B1.out, B1.out.size, ⟨OwnVs.nil _ _ _ _ _⟩⟩
  | true =>
    have e0 : E = leaL l := HE.out.symm
    subst e0
    go_wp2_with fail
    refine (sleast_any ke l w1 w1.heap.size O1.out.rd (Nat.le_refl _) F.out.2).mono ?_
    rintro e w2 ⟨g, cap, rfl, hb2, hg2, ho2⟩
    have B2 := Lib.hid (below_on B1.out hb2)
    have O2 := Lib.hid ((own_vs ho2 rfl).more (lo' := w.heap.size) (hi' := w2.heap.size) B1.out.size (Nat.le_refl _))
    clear hb2 ho2
    go_wp2
    go_returns
    exact ⟨⟨some ⟨g, 0, none⟩, cap⟩, rfl, B2.out, B2.out.size, ⟨O2.out⟩⟩
end Go.Proofs.Ytbddmicgfhljeaa
