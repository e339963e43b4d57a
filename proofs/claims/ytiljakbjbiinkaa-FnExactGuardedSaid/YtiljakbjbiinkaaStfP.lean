/-
  Whole orders against the states that a program comes to, plainly. No program is walked here.
-/
import Derived.Test.YtiljakbjbiinkaaSEvs
import Derived.Test.YtiljakbjbiinkaaEvts
import Derived.Test.YtiljakbjbiinkaaOrdP
import Derived.Test.YtiljakbjbiinkaaIl
import Derived.Test.YtiljakbjbiinkaaRchd
namespace Go.Proofs.Ytiljakbjbiinkaa
open Go.RowKit Pl
set_option maxHeartbeats 2000000
set_option maxRecDepth 100000
set_option linter.unusedVariables false

/-- The word of a state, kept all the way. -/
theorem inv_wd {L : Pg} {s : Sta} (P : StP L s) : Inv L (wdF L s) := by
  have p3 := P.n3
  refine ⟨wdF_good P, fun n hn => ?_, fun n hn => ?_, fun t ht => ?_, fun p hp => ?_⟩
  · rw [wdF_hi P (by omega), pk_own P hn]
    have := getD_lim P.v3 (i := n) (by have := P.m3; omega)
    omega
  · rw [wdF_hi P (by omega), pk_chan P hn]
    have := getD_lim P.v4 (i := n) (by have := P.m4; omega)
    omega
  · rw [wdF_can ht]
    exact congrArg bitN (canF_congr fun p hp => (wdF_hi P hp).symm)
  · by_cases h3 : p < 3
    · have hl : ¬ p < L.length := by unfold Off at hp; omega
      unfold wdF keptF
      rw [if_neg hl, pk_out P hp]
    · rw [wdF_hi P (by omega), pk_out P hp]
theorem go_can {L : Pg} {f : Nat → Nat} {t : Nat} (ht : t < L.length) : goB L f (t : Int) = canF L f t := by
  unfold goB
  rw [show inB (t : Int) 0 ((L.length : Int) - 1) = true by simp [inB]; omega, Int.toNat_natCast, Bool.true_and]
/-- Some thread is not done. -/
def openF (L : Pg) (f : Nat → Nat) : Bool := (List.range L.length).any fun t => !(f (3 + t) == (L.getD t []).length)
/-- No thread can go on, and some thread is not done. -/
def stuckF (L : Pg) (f : Nat → Nat) : Bool := openF L f && endB L f
theorem openF_none {L : Pg} {f : Nat → Nat} (h : ∀ t, t < L.length → (f (3 + t) == (L.getD t []).length) = true) : openF L f = false := by
  rw [Bool.eq_false_iff]
  intro ho
  unfold openF at ho
  rw [List.any_eq_true] at ho
  obtain ⟨t, h1, h2⟩ := ho
  rw [h t (List.mem_range.1 h1)] at h2
  cases h2
theorem openF_some {L : Pg} {f : Nat → Nat} {t : Nat} (ht : t < L.length) (h : (f (3 + t) == (L.getD t []).length) = false) : openF L f = true := by
  unfold openF
  rw [List.any_eq_true]
  exact ⟨t, List.mem_range.2 ht, by rw [h]; rfl⟩
def stuckB (L : Pg) (s : Sta) : Bool := stB L s && stuckF L (wdF L s)
/-- The first k threads: whether some one is not done, and whether none can go on. -/
def openK (L : Pg) (f : Nat → Nat) (k : Nat) : Bool := (List.range k).any fun t => !(f (3 + t) == (L.getD t []).length)
theorem openK_next (L : Pg) (f : Nat → Nat) (k : Nat) : openK L f (k + 1) = (openK L f k || !(f (3 + k) == (L.getD k []).length)) := by
  unfold openK
  rw [List.range_succ, List.any_append, List.any_cons, List.any_nil, Bool.or_false]
/-- Who has the lock that a thread takes next. -/
def wowF (L : Pg) (f : Nat → Nat) (t : Nat) : Int :=
  if f (3 + t) = (L.getD t []).length then -1 else if (smAt L t (f (3 + t))).k = 6 then (f (18 + (smAt L t (f (3 + t))).a.toNat) : Int) - 1 else -1
def waitsL (L : Pg) (f : Nat → Nat) : List Int := (List.range L.length).map (wowF L f)
def waitE (L : Pg) (s : Sta) : List Int := if stB L s then waitsL L (wdF L s) else []
theorem waitsL_length (L : Pg) (f : Nat → Nat) : (waitsL L f).length = L.length := by simp [waitsL]
theorem waitsL_at {L : Pg} {f : Nat → Nat} {t : Nat} (h : t < L.length) : (waitsL L f)[t]? = some (wowF L f t) := by simp [waitsL, h]
theorem waitsL_snoc {L : Pg} {f : Nat → Nat} {t : Nat} (h : t < L.length) : ints ((waitsL L f).take (t + 1)) = ints ((waitsL L f).take t) ++ [.int .i64 (wowF L f t)] := by
  rw [List.take_add_one, waitsL_at h]
  simp [ints]
theorem sm_next {L : Pg} {f : Nat → Nat} (hL : progB L = true) (G : Good L f) {t : Nat} (ht : t < L.length) (h : f (3 + t) ≠ (L.getD t []).length) : f (3 + t) < (L.getD t []).length ∧ (smAt L t (f (3 + t))).okb = true := by
  obtain ⟨xs, hxs⟩ : ∃ xs, L[t]? = some xs := ⟨_, List.getElem?_eq_getElem ht⟩
  have hle := G.at_ t xs hxs
  rw [getD_some hxs] at h
  have hlt : f (3 + t) < xs.length := by omega
  have hxi : xs[f (3 + t)]? = some xs[f (3 + t)] := List.getElem?_eq_getElem hlt
  have hsm : smAt L t (f (3 + t)) = xs[f (3 + t)] := by unfold smAt; rw [getD_some hxs]; exact getD_some hxi
  rw [getD_some hxs, hsm]
  exact ⟨hlt, (prog_thr hL hxs).2 _ _ hxi⟩
theorem wowF_lim {L : Pg} {f : Nat → Nat} (hL : progB L = true) (I : Inv L f) {t : Nat} (ht : t < L.length) : -1 ≤ wowF L f t ∧ wowF L f t < (L.length : Int) := by
  unfold wowF
  split
  · omega
  · rename_i hne
    split
    · rename_i h6
      obtain ⟨n, hn2, ha⟩ := ok_lock (sm_next hL I.good ht hne).2 (Or.inl h6)
      rw [ha, Int.toNat_natCast]
      have := I.own n hn2
      omega
    · omega
theorem waitE_small {L : Pg} {s : Sta} (h : PgS L) (_ : StaS s) : IlS (waitE L s) := by
  have hl := h.l
  unfold waitE
  split
  · exact ⟨by rw [waitsL_length]; omega⟩
  · exact ⟨by simp⟩
/-- Steps from a thread to the one for which it waits, as the program takes them. -/
def backP (ws : List Int) (t : Int) : Nat → Int → Bool
  | 0, _ => false
  | n + 1, at_ => if ws.getD at_.toNat 0 = -1 ∨ ws.getD at_.toNat 0 = t then ws.getD at_.toNat 0 == t else backP ws t n (ws.getD at_.toNat 0)
/-- And as the reference model takes them. -/
def backS (ws : List Int) (t : Int) : Nat → Int → Int
  | 0, at_ => at_
  | n + 1, at_ => if 0 ≤ at_ ∧ at_ ≠ t then backS ws t n (ws.getD at_.toNat 0) else at_
def cirB (ws : List Int) (t : Nat) : Bool := backP ws t ws.length t
theorem back3 : ∀ (a b c : Fin 4) (t : Fin 3), (backS [(a.val : Int) - 1, (b.val : Int) - 1, (c.val : Int) - 1] (t.val : Int) 3 ([(a.val : Int) - 1, (b.val : Int) - 1, (c.val : Int) - 1].getD t.val 0) == (t.val : Int)) = backP [(a.val : Int) - 1, (b.val : Int) - 1, (c.val : Int) - 1] (t.val : Int) 3 (t.val : Int) := by decide +kernel
theorem back2 : ∀ (a b : Fin 3) (t : Fin 2), (backS [(a.val : Int) - 1, (b.val : Int) - 1] (t.val : Int) 2 ([(a.val : Int) - 1, (b.val : Int) - 1].getD t.val 0) == (t.val : Int)) = backP [(a.val : Int) - 1, (b.val : Int) - 1] (t.val : Int) 2 (t.val : Int) := by decide +kernel
theorem back1 : ∀ (a : Fin 2) (t : Fin 1), (backS [(a.val : Int) - 1] (t.val : Int) 1 ([(a.val : Int) - 1].getD t.val 0) == (t.val : Int)) = backP [(a.val : Int) - 1] (t.val : Int) 1 (t.val : Int) := by decide +kernel
def limB (ws : List Int) : Prop := ∀ (k : Nat) (x : Int), ws[k]? = some x → -1 ≤ x ∧ x < (ws.length : Int)
theorem fin_of {x : Int} {n : Nat} (h : -1 ≤ x ∧ x < (n : Int)) : ∃ a : Fin (n + 1), x = (a.val : Int) - 1 := ⟨⟨(x + 1).toNat, by omega⟩, by show x = (((x + 1).toNat : Nat) : Int) - 1; omega⟩
theorem back_same {ws : List Int} (hl : limB ws) (h3 : ws.length ≤ 3) {t : Nat} (ht : t < ws.length) : (backS ws t ws.length (ws.getD t 0) == (t : Int)) = cirB ws t := by
  unfold cirB
  match ws, hl, h3, ht with
  | [x], hl, _, ht =>
    obtain ⟨a, rfl⟩ := fin_of (n := 1) (hl 0 x rfl)
    exact back1 a ⟨t, ht⟩
  | [x, y], hl, _, ht =>
    obtain ⟨a, rfl⟩ := fin_of (n := 2) (hl 0 x rfl)
    obtain ⟨b, rfl⟩ := fin_of (n := 2) (hl 1 y rfl)
    exact back2 a b ⟨t, ht⟩
  | [x, y, z], hl, _, ht =>
    obtain ⟨a, rfl⟩ := fin_of (n := 3) (hl 0 x rfl)
    obtain ⟨b, rfl⟩ := fin_of (n := 3) (hl 1 y rfl)
    obtain ⟨c, rfl⟩ := fin_of (n := 3) (hl 2 z rfl)
    exact back3 a b c ⟨t, ht⟩
  | x :: y :: z :: u :: v, _, h3, _ => simp at h3
  | [], _, _, ht => simp at ht
/-- The threads that come back to themselves, of the first k. -/
def cirK (ws : List Int) (k : Nat) : List Int := (List.range k).flatMap fun t => if cirB ws t then [(t : Int)] else []
theorem cirK_next (ws : List Int) (k : Nat) : cirK ws (k + 1) = cirK ws k ++ if cirB ws k then [(k : Int)] else [] := by
  unfold cirK
  rw [List.range_succ, List.flatMap_append]
  simp
theorem cirK_len (ws : List Int) : ∀ k, (cirK ws k).length ≤ k
  | 0 => by simp [cirK]
  | k + 1 => by
    have := cirK_len ws k
    rw [cirK_next, List.length_append]
    split
    · simp; omega
    · simp; omega
def cirE (L : Pg) (s : Sta) : List Int := if stB L s then cirK (waitsL L (wdF L s)) L.length else []
theorem cirE_small {L : Pg} {s : Sta} (h : PgS L) (_ : StaS s) : IlS (cirE L s) := by
  have hl := h.l
  unfold cirE
  split
  · exact ⟨by have := cirK_len (waitsL L (wdF L s)) L.length; omega⟩
  · exact ⟨by simp⟩
theorem waits_lim {L : Pg} {f : Nat → Nat} (hL : progB L = true) (I : Inv L f) : limB (waitsL L f) := fun k x h => by
  have hk : k < L.length := by have := (List.getElem?_eq_some_iff.1 h).1; rw [waitsL_length] at this; exact this
  rw [waitsL_at hk] at h
  injection h with h
  subst h
  rw [waitsL_length]
  exact wowF_lim hL I hk
end Go.Proofs.Ytiljakbjbiinkaa
namespace Go.Proofs.Ytiljakbjbiinkaa
set_option maxHeartbeats 2000000
set_option maxRecDepth 100000
set_option linter.unusedVariables false

theorem runF_snoc {L : Pg} : ∀ {r : List Int} {f g : Nat → Nat} {th : Int}, runF L f r = some g → goB L g th = true → runF L f (r ++ [th]) = some (stepF L g th.toNat)
  | [], f, g, th, h, hg => by
    simp only [runF, Option.some.injEq] at h
    subst h
    show (if goB L f th then runF L (stepF L f th.toNat) [] else none) = _
    rw [if_pos hg]; rfl
  | x :: r, f, g, th, h, hg => by
    unfold runF at h
    show (if goB L f x then runF L (stepF L f x.toNat) (r ++ [th]) else none) = _
    split at h
    · rename_i hx
      rw [if_pos hx]
      exact runF_snoc h hg
    · cases h
theorem rch_run {L : Pg} {f : Nat → Nat} (h : Rch L f) : ∃ r, runF L (keptF L zeroF L.length) r = some f := by
  induction h with
  | beg => exact ⟨[], rfl⟩
  | @step f t h ht hc ih =>
    obtain ⟨r, hr⟩ := ih
    refine ⟨r ++ [(t : Int)], ?_⟩
    have := runF_snoc hr hc
    rwa [Int.toNat_natCast] at this
theorem run_rch {L : Pg} : ∀ {r : List Int} {f g : Nat → Nat}, Rch L f → runF L f r = some g → Rch L g
  | [], f, g, hf, h => by
    simp only [runF, Option.some.injEq] at h
    rw [← h]; exact hf
  | x :: r, f, g, hf, h => by
    unfold runF at h
    split at h
    · rename_i hx
      obtain ⟨t, e, ht, hc⟩ := goB_parts hx
      rw [e] at hx h
      rw [Int.toNat_natCast] at h
      exact run_rch (.step hf ht hx) h
    · cases h
/-- The orders of ordP are just those that come to an end. -/
theorem ordP_iff {L : Pg} (hL : progB L = true) : ∀ (m : Nat) (f : Nat → Nat) (acc x : List Int), Inv L f → slack L f ≤ m →
    (x ∈ ordP L m f acc ↔ ∃ r g, x = acc ++ r ∧ runF L f r = some g ∧ endB L g = true)
  | 0, f, acc, x, I, hs => by
    have he := slack_end hL I (by omega)
    unfold ordP
    rw [List.mem_singleton]
    constructor
    · intro h; exact ⟨[], f, by rw [h, List.append_nil], rfl, he⟩
    · rintro ⟨r, g, hx, hr, -⟩
      match r, hr with
      | [], _ => rw [hx, List.append_nil]
      | th :: r, hr =>
        unfold runF at hr
        split at hr
        · rename_i hg
          obtain ⟨t, e, ht, hc⟩ := goB_parts hg
          rw [e] at hg
          rw [endB_not ht hg] at he
          cases he
        · cases hr
  | m + 1, f, acc, x, I, hs => by
    rcases Bool.eq_false_or_eq_true (endB L f) with he | he
    · unfold ordP
      rw [if_pos he, List.mem_singleton]
      constructor
      · intro h; exact ⟨[], f, by rw [h, List.append_nil], rfl, he⟩
      · rintro ⟨r, g, hx, hr, -⟩
        match r, hr with
        | [], _ => rw [hx, List.append_nil]
        | th :: r, hr =>
          unfold runF at hr
          split at hr
          · rename_i hg
            obtain ⟨t, e, ht, hc⟩ := goB_parts hg
            rw [e] at hg
            rw [endB_not ht hg] at he
            cases he
          · cases hr
    · unfold ordP
      rw [if_neg (by rw [he]; simp), List.mem_flatMap]
      constructor
      · rintro ⟨t, ht, hx⟩
        have ht := List.mem_range.1 ht
        by_cases hg : goB L f (t : Int) = true
        · rw [if_pos hg] at hx
          have hc := goB_c ht hg
          have hsl := slack_step hL I ht hc
          obtain ⟨r, g, e, hr, hend⟩ := (ordP_iff hL m (stepF L f t) (acc ++ [(t : Int)]) x (inv_step hL I ht hc) (by omega)).1 hx
          refine ⟨(t : Int) :: r, g, by rw [e, List.append_assoc]; rfl, ?_, hend⟩
          unfold runF
          rw [if_pos hg, Int.toNat_natCast]
          exact hr
        · rw [if_neg hg] at hx; exact absurd hx List.not_mem_nil
      · rintro ⟨r, g, e, hr, hend⟩
        match r, e, hr with
        | [], e, hr =>
          simp only [runF, Option.some.injEq] at hr
          rw [hr, hend] at he
          cases he
        | th :: r, e, hr =>
          unfold runF at hr
          split at hr
          · rename_i hg
            obtain ⟨t, e2, ht, hc⟩ := goB_parts hg
            rw [e2] at hg e hr
            rw [Int.toNat_natCast] at hr
            have hsl := slack_step hL I ht hc
            refine ⟨t, List.mem_range.2 ht, ?_⟩
            rw [if_pos hg]
            exact (ordP_iff hL m (stepF L f t) (acc ++ [(t : Int)]) x (inv_step hL I ht hc) (by omega)).2 ⟨r, g, by rw [e, List.append_assoc]; rfl, hr, hend⟩
          · cases hr
/-- The word behind an order is stuck. -/
def stuckR (L : Pg) (r : List Int) : Bool := match runF L (keptF L zeroF L.length) r with
  | some g => stuckF L g
  | none => false
def allO (L : Pg) : List (List Int) := ordP L 9 (keptF L zeroF L.length) []
theorem allO_iff {L : Pg} (hL : progB L = true) {x : List Int} : x ∈ allO L ↔ ∃ g, runF L (keptF L zeroF L.length) x = some g ∧ endB L g = true := by
  unfold allO
  rw [ordP_iff hL 9 _ [] x (inv_beg hL) (slack_beg hL)]
  constructor
  · rintro ⟨r, g, e, h1, h2⟩
    rw [List.nil_append] at e
    exact ⟨g, by rw [e]; exact h1, h2⟩
  · rintro ⟨g, h1, h2⟩
    exact ⟨x, g, rfl, h1, h2⟩
def stfB (L : Pg) : Bool := progB L && !(allO L).any (stuckR L)
theorem stf_none {L : Pg} (hL : progB L = true) (h : ∀ f, Rch L f → stuckF L f = false) : stfB L = true := by
  unfold stfB
  rw [hL, Bool.true_and]
  have : (allO L).any (stuckR L) = false := by
    rw [Bool.eq_false_iff]
    intro ha
    obtain ⟨x, hx, hs⟩ := List.any_eq_true.1 ha
    obtain ⟨g, hg, he⟩ := (allO_iff hL).1 hx
    unfold stuckR at hs
    rw [hg] at hs
    have := h g (run_rch .beg hg)
    simp only at hs
    rw [this] at hs
    cases hs
  rw [this]; rfl
theorem stf_some {L : Pg} (hL : progB L = true) {f : Nat → Nat} (hf : Rch L f) (h : stuckF L f = true) : stfB L = false := by
  unfold stfB
  rw [hL, Bool.true_and]
  have : (allO L).any (stuckR L) = true := by
    obtain ⟨r, hr⟩ := rch_run hf
    refine List.any_eq_true.2 ⟨r, (allO_iff hL).2 ⟨f, hr, ?_⟩, ?_⟩
    · unfold stuckF at h
      rw [Bool.and_eq_true] at h
      exact h.2
    · unfold stuckR
      rw [hr]
      exact h
  rw [this]; rfl
end Go.Proofs.Ytiljakbjbiinkaa
