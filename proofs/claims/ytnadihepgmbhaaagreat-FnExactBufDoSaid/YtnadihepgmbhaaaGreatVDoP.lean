/-
  The word and the buffers of a state that is ok, and what holds of them behind one step. No program is walked here.
-/
import Derived.Test.YtnadihepgmbhaaaGreatDoZ
import Derived.Test.YtnadihepgmbhaaaGreatVPut
import Derived.Test.YtnadihepgmbhaaaGreatVCan
import Derived.Test.YtnadihepgmbhaaaGreatVRd
namespace Go.Proofs.YtnadihepgmbhaaaGreat
open Go.RowKit Pl
set_option maxHeartbeats 2000000
set_option maxRecDepth 100000
set_option linter.unusedVariables false

/-- Places of a word that no thread of the program has. -/
def Off (L : Pg) (p : Nat) : Prop := (p < 3 ∧ L.length ≤ p) ∨ (p < 6 ∧ 3 + L.length ≤ p) ∨ (p < 15 ∧ 6 + L.length * 3 ≤ p) ∨ 22 ≤ p
structure Inv (L : Pg) (f : Nat → Nat) : Prop where
  good : Good L f
  own : ∀ n, n < 2 → f (18 + n) ≤ L.length
  chan : ∀ n, n < 2 → f (20 + n) ≤ 4
  bits : ∀ t, t < L.length → f (0 + t) = bitN (canF L f t)
  off : ∀ p, Off L p → f p = 0
theorem aff_own {L : Pg} {f : Nat → Nat} {t : Nat} {x : Sm} (hx : x.okb = true) (ht : t < L.length) (h3 : L.length ≤ 3) {n : Nat} (hn : n < 2) (h : f (18 + n) ≤ L.length) (hc : f (20 + n) ≤ 4) :
    affF f t x (18 + n) ≤ L.length ∧ affF f t x (20 + n) ≤ 4 := by
  obtain ⟨q, a, b, c, s⟩ := x
  have hx' : okB q a b c s = true := hx
  have ga : ¬ (q = 0 ∨ q = 1 ∨ q = 2 ∨ q = 3 ∨ q = 4 ∨ q = 9) ∨ a.toNat < 3 := by
    by_cases e : q = 0 ∨ q = 1 ∨ q = 2 ∨ q = 3 ∨ q = 4 ∨ q = 9
    · obtain ⟨m, hm, rfl⟩ := ok_a3 hx' (by omega); right; simpa using hm
    · exact Or.inl e
  have gb : ¬ (q = 3 ∨ q = 4) ∨ b.toNat < 3 := by
    by_cases e : q = 3 ∨ q = 4
    · obtain ⟨m, hm, rfl⟩ := ok_b3 hx' (by omega); right; simpa using hm
    · exact Or.inl e
  have ga2 : ¬ (q = 6 ∨ q = 7 ∨ q = 8) ∨ a.toNat < 2 := by
    by_cases e : q = 6 ∨ q = 7 ∨ q = 8
    · obtain ⟨m, hm, rfl⟩ := ok_ab2 hx' e; right; simpa using hm
    · exact Or.inl e
  have gs : ¬ q = 8 ∨ sumF f t b c < 4 := by
    by_cases e : q = 8
    · right; exact sumF_lt (ok_sum hx' (by omega))
    · exact Or.inl e
  unfold affF
  simp only
  repeat' split
  all_goals (try simp only [upd])
  all_goals (refine ⟨?_, ?_⟩)
  all_goals (repeat' split)
  all_goals omega
theorem aff_off {L : Pg} {f : Nat → Nat} {t : Nat} {x : Sm} (hx : x.okb = true) (ht : t < L.length) (h3 : L.length ≤ 3) {p : Nat} (hp : Off L p) : affF f t x p = f p := by
  obtain ⟨q, a, b, c, s⟩ := x
  have hx' : okB q a b c s = true := hx
  have ga : ¬ (q = 0 ∨ q = 1 ∨ q = 2 ∨ q = 3 ∨ q = 4 ∨ q = 9) ∨ a.toNat < 3 := by
    by_cases e : q = 0 ∨ q = 1 ∨ q = 2 ∨ q = 3 ∨ q = 4 ∨ q = 9
    · obtain ⟨m, hm, rfl⟩ := ok_a3 hx' (by omega); right; simpa using hm
    · exact Or.inl e
  have gb : ¬ (q = 3 ∨ q = 4) ∨ b.toNat < 3 := by
    by_cases e : q = 3 ∨ q = 4
    · obtain ⟨m, hm, rfl⟩ := ok_b3 hx' (by omega); right; simpa using hm
    · exact Or.inl e
  have gb2 : ¬ q = 9 ∨ b.toNat < 2 := by
    by_cases e : q = 9
    · obtain ⟨m, hm, rfl⟩ := ok_b2 hx' e; right; simpa using hm
    · exact Or.inl e
  have ga2 : ¬ (q = 6 ∨ q = 7 ∨ q = 8) ∨ a.toNat < 2 := by
    by_cases e : q = 6 ∨ q = 7 ∨ q = 8
    · obtain ⟨m, hm, rfl⟩ := ok_ab2 hx' e; right; simpa using hm
    · exact Or.inl e
  unfold Off at hp
  unfold affF
  simp only
  repeat' split
  all_goals (try simp only [upd])
  all_goals (repeat' split)
  all_goals first | rfl | omega
theorem inv_step {L : Pg} {f : Nat → Nat} {t : Nat} (hL : progB L = true) (I : Inv L f) (ht : t < L.length) (hc : canF L f t = true) : Inv L (stepF L f t) := by
  obtain ⟨h31, h32⟩ := prog_len hL
  have hg := stepF_good hL I.good ht hc I.chan
  have hok : (smAt L t (f (3 + t))).okb = true := by
    obtain ⟨xs, hxs⟩ : ∃ xs, L[t]? = some xs := ⟨L[t], List.getElem?_eq_getElem ht⟩
    have hd : L.getD t [] = xs := getD_some hxs
    have hle := I.good.at_ t xs hxs
    unfold canF at hc
    rw [hd] at hc
    have hml : f (3 + t) < xs.length := by
      have : f (3 + t) ≠ xs.length := by intro e; rw [e] at hc; simp at hc
      omega
    have hsx : smAt L t (f (3 + t)) = xs[f (3 + t)] := by unfold smAt; rw [hd]; simp [List.getD, hml]
    rw [hsx]; exact (prog_thr hL hxs).2 _ _ (List.getElem?_eq_getElem hml)
  have hup : ∀ p, 6 ≤ p → upd f (3 + t) (nextF L f t (smAt L t (f (3 + t)))) p = f p := fun p hp => by unfold upd; rw [if_neg (by omega)]
  have key : ∀ n, n < 2 → stepF L f t (18 + n) ≤ L.length ∧ stepF L f t (20 + n) ≤ 4 := fun n hn => by
    unfold stepF
    rw [keptF_hi h32 (by omega), keptF_hi h32 (by omega)]
    exact aff_own hok ht h32 hn (by rw [hup _ (by omega)]; exact I.own n hn) (by rw [hup _ (by omega)]; exact I.chan n hn)
  have hoff : ∀ p, Off L p → stepF L f t p = 0 := fun p hp => by
    have h0 := I.off p hp
    unfold stepF keptF
    have hp' := hp
    unfold Off at hp'
    rw [if_neg (by omega), aff_off hok ht h32 hp]
    unfold upd
    rw [if_neg (by omega)]
    exact h0
  refine ⟨hg, fun n hn => (key n hn).1, fun n hn => (key n hn).2, fun u hu => ?_, hoff⟩
  have e : ∀ g : Nat → Nat, keptF L g L.length (0 + u) = bitN (canF L (keptF L g L.length) u) := fun g => by
    have e1 : canF L (keptF L g L.length) u = canF L g u := canF_congr fun p hp => keptF_hi h32 hp
    rw [e1]; unfold keptF; rw [if_pos (by omega), Nat.zero_add]
  unfold stepF
  exact e _
theorem pk_out {L : Pg} {s : Sta} (P : StP L s) {p : Nat} (hp : Off L p) : pkF s p = 0 := by
  have := P.m0; have := P.n3; have := P.m1; have := P.m2; have := P.m3; have := P.m4
  unfold Off at hp
  unfold pkF
  rw [updL_at, if_neg (by rw [natL_length]; omega), updL_at, if_neg (by rw [natL_length]; omega), updL_at, if_neg (by rw [natL_length]; omega), updL_at, if_neg (by rw [natL_length]; omega), updL_at, if_neg (by rw [natL_length]; omega)]
  rfl
/-- Whether a thread goes on, told by the word. -/
def goB (L : Pg) (f : Nat → Nat) (th : Int) : Bool := inB th 0 ((L.length : Int) - 1) && canF L f th.toNat
theorem staF_S (L : Pg) (f : Nat → Nat) (h3 : L.length ≤ 3) : StaS (staF L f) := by
  obtain ⟨a0, a1, a2, a3, a4⟩ := sta_len L f
  exact ⟨by omega, by omega, by omega, by omega, by omega⟩
/-- The word behind an order; none, if a thread of it cannot go on. -/
def runF (L : Pg) : (Nat → Nat) → List Int → Option (Nat → Nat)
  | f, [] => some f
  | f, th :: r => if goB L f th then runF L (stepF L f th.toNat) r else none
end Go.Proofs.YtnadihepgmbhaaaGreat
namespace Go.Proofs.YtnadihepgmbhaaaGreat
open Go.RowKit Pl Go.BigFrame
set_option maxHeartbeats 1000000
set_option maxRecDepth 100000
set_option linter.unusedVariables false

theorem bufstepped_any (h : PgH) (L : Pg) (e : Nat) (f : Nat → Nat) (b : Nat → List Nat) (st : Nat) (w : World) (B : Nat) (he : Ech e) (hP : PgR w B h L) (hB : B ≤ w.heap.size) (hL : progB L = true) (hf : Good L f) (hst : st < L.length * (1 + e)) (hc : canQ e L f b st = true) (h4 : ∀ n, n < 2 → f (20 + n) ≤ 4) (hb6 : okB9 b 6) :
    Calls Tryz.prog 33 #[PgV h L, QV e f b, .int .i64 st] w fun en w' => en = .returned (QV e (stepQ e L f b st).1 (stepQ e L f b st).2) ∧ Below w.heap.size w w' := by
  obtain ⟨h31, h32⟩ := prog_len hL
  have hb7 : okB9 b 7 := fun u hu => ⟨(hb6 u hu).1, by have := (hb6 u hu).2; omega⟩
  by_cases hs : L.length ≤ st
  · obtain ⟨t, rfl⟩ : ∃ t, st = L.length + t := ⟨st - L.length, by omega⟩
    have hte : t < L.length * e := by rw [mul_in] at hst; omega
    have ht3 : t < 9 := by rcases he with rfl | rfl <;> omega
    rw [canQ_hi hte] at hc
    obtain ⟨hok, hl⟩ := hb6 t ht3
    unfold stepQ
    rw [if_pos hs, show L.length + t - L.length = t by omega]
    cases hbt : b t with
    | nil => rw [hbt] at hc; simp at hc
    | cons c q =>
      rw [hbt] at hok hl
      exact bstp_take h L e f b t w B hP hB hf.ok ht3 c q hbt hok (by simp at hl; omega)
  · have ht : st < L.length := by omega
    rw [canQ_lo ht] at hc
    simp only [Bool.and_eq_true] at hc
    have hcf := hc.1
    obtain ⟨hml, hxok⟩ := can_lt hL hf ht hcf
    unfold stepQ
    rw [if_neg hs]
    obtain ⟨x, hx⟩ : ∃ x, smAt L st (f (3 + st)) = x := ⟨_, rfl⟩
    rw [hx] at hxok ⊢
    by_cases hp : x.k = 2 ∧ x.s = false
    · rw [if_pos hp]
      have hxo : okB x.k x.a x.b x.c x.s = true := hxok
      obtain ⟨n, hn3, hn⟩ := ok_a3 hxo (by omega)
      have hvb := ok_sum hxo (by omega)
      have := bstp_put h L e f b st w B he hP hB hL hf ht hcf hb7 (by rw [hx]; unfold putBeh; rw [hp.1, hp.2]; rfl) n _ hn3 (sumF_lt hvb) (by rw [hx]; exact hn) (by rw [hx]; exact hvb) (Lib.hid (by rw [hx])) _ (Lib.hid rfl)
      rw [hx] at this
      rw [hn, Int.toNat_natCast]
      exact this
    · rw [if_neg hp]
      by_cases h1 : x.k = 1
      · rw [if_pos h1]
        have hxo : okB x.k x.a x.b x.c x.s = true := hxok
        obtain ⟨n, hn3, hn⟩ := ok_a3 hxo (by omega)
        obtain ⟨m, hm3, hm⟩ := ok_b3 hxo (by omega)
        have := bstp_load h L e f b st w B he hP hB hL hf ht hcf h4 hb7 (by rw [hx]; exact h1) n m hn3 hm3 (by rw [hx]; exact hn) (by rw [hx]; exact hm) _ (rdC_lt (mem_lt hf.ok hm3)) (Lib.hid rfl)
        rw [hn, hm, Int.toNat_natCast, Int.toNat_natCast]
        exact this
      · rw [if_neg h1]
        refine bstp_rest h L e f b st w B hP hB hL hf ht hcf h4 ?_ (by rw [hx]; exact h1)
        rw [hx]
        unfold putBeh
        by_cases h2 : x.k = 2
        · cases hs2 : x.s with
          | true => simp
          | false => exact absurd ⟨h2, hs2⟩ hp
        · rw [beq_eq_false_iff_ne.2 h2]; rfl
/-- What holds of a word and its buffers. -/
structure InvQ (e : Nat) (L : Pg) (f : Nat → Nat) (b : Nat → List Nat) : Prop where
  inv : Inv L f
  q : ∀ k, k < L.length * e → okS (b k) ∧ (b k).length ≤ f (3 + k / e)
  pl : e = 3 → ∀ k, ∀ c ∈ b k, c / 4 = k % 3
  off : ∀ k, L.length * e ≤ k → b k = []
theorem inv_gone {L : Pg} {f : Nat → Nat} {t : Nat} {x : Sm} (hL : progB L = true) (I : Inv L f) (ht : t < L.length) (hlt : f (3 + t) < (L.getD t []).length) : Inv L (goF L f t x) := by
  obtain ⟨h31, h32⟩ := prog_len hL
  have hi : ∀ p, 6 ≤ p → goF L f t x p = f p := fun p hp => by unfold goF; rw [keptF_hi h32 (by omega)]; unfold upd; rw [if_neg (by omega)]
  refine ⟨goF_good I.good hL ht hlt, fun n hn => by rw [hi _ (by omega)]; exact I.own n hn, fun n hn => by rw [hi _ (by omega)]; exact I.chan n hn, fun u hu => ?_, fun p hp => ?_⟩
  · have e1 : canF L (goF L f t x) u = canF L (upd f (3 + t) (nextF L f t x)) u := canF_congr fun p hp => keptF_hi h32 hp
    rw [e1]; unfold goF keptF; rw [if_pos (by omega), Nat.zero_add]
  · have h0 := I.off p hp
    unfold Off at hp
    unfold goF keptF
    rw [if_neg (by omega)]
    unfold upd
    rw [if_neg (by omega)]
    exact h0
theorem canQ_parts {e : Nat} {L : Pg} {f : Nat → Nat} {b : Nat → List Nat} {st : Int} (h : canQ e L f b st = true) : ∃ n : Nat, st = (n : Int) ∧ n < L.length * (1 + e) := by
  rcases Bool.eq_false_or_eq_true (inB st 0 (((L.length * (1 + e) : Nat) : Int) - 1)) with h1 | h1
  · simp [inB] at h1
    have h2 : 0 ≤ st ∧ st ≤ ((L.length * (1 + e) : Nat) : Int) - 1 := by
      refine ⟨h1.1, ?_⟩
      have := h1.2
      push_cast at this ⊢
      omega
    generalize L.length * (1 + e) = N at *
    exact ⟨st.toNat, by omega, by omega⟩
  · rw [canQ_out h1] at h; cases h
/-- The word and the buffers behind an order of steps; none, if a step of it cannot be. -/
def runQ (e : Nat) (L : Pg) : (Nat → Nat) → (Nat → List Nat) → List Int → Option ((Nat → Nat) × (Nat → List Nat))
  | f, b, [] => some (f, b)
  | f, b, st :: r => if canQ e L f b st then runQ e L (stepQ e L f b st.toNat).1 (stepQ e L f b st.toNat).2 r else none
end Go.Proofs.YtnadihepgmbhaaaGreat
namespace Go.Proofs.YtnadihepgmbhaaaGreat
open Go.RowKit Pl Go.BigFrame
set_option maxHeartbeats 4000000
set_option maxRecDepth 100000
set_option linter.unusedVariables false

theorem vinv_wd {L : Pg} {s : Sta} (P : StP L s) : Inv L (wdF L s) := by
  have p3 := P.n3
  refine ⟨wdF_good P, fun n hn => ?_, fun n hn => ?_, fun t ht => ?_, fun p hp => ?_⟩
  · rw [wdF_hi P (by omega), pk_own P hn]
    have := getD_lim P.v3 (i := n) (by have := P.m3; omega)
    omega
  · rw [wdF_hi P (by omega), pk_chan P hn]
    have := getD_lim P.v4 (i := n) (by have := P.m4; omega)
    omega
  · rw [wdF_can ht]
    exact congrArg bitN (canF_congr fun p hp => (wdF_hi P hp).symm)
  · by_cases h3 : p < 3
    · have hl : ¬ p < L.length := by unfold Off at hp; omega
      unfold wdF keptF
      rw [if_neg hl, pk_out P hp]
    · rw [wdF_hi P (by omega), pk_out P hp]
theorem stepQ_ok {e : Nat} {L : Pg} {f : Nat → Nat} {b : Nat → List Nat} {st : Nat} (he : Ech e) (hL : progB L = true) (I : Inv L f) (hb : okB9 b 6) (hst : st < L.length * (1 + e)) (hc : canQ e L f b st = true) : okF WS (stepQ e L f b st).1 ∧ okB9 (stepQ e L f b st).2 7 := by
  obtain ⟨h31, h32⟩ := prog_len hL
  have hb7 : okB9 b 7 := fun u hu => ⟨(hb u hu).1, by have := (hb u hu).2; omega⟩
  by_cases hs : L.length ≤ st
  · obtain ⟨t, rfl⟩ : ∃ t, st = L.length + t := ⟨st - L.length, by omega⟩
    have ht : t < L.length * e := by rw [mul_in] at hst; omega
    have ht9 : t < 9 := by rcases he with rfl | rfl <;> omega
    unfold stepQ
    rw [if_pos hs, show L.length + t - L.length = t by omega]
    cases hbt : b t with
    | nil => exact ⟨I.good.ok, hb7⟩
    | cons c r =>
      obtain ⟨h1, h2⟩ := hb t ht9
      rw [hbt] at h1 h2
      have h12 := h1.head
      refine ⟨okF_upd fld2 I.good.ok (i := c / 4) (show c / 4 < 3 by omega) (show c % 4 < 4 by omega), fun u hu => ?_⟩
      show okS (updB b t r u) ∧ (updB b t r u).length ≤ 7
      by_cases eu : u = t
      · subst eu; rw [updB_same]; simp at h2; exact ⟨h1.tail, by omega⟩
      · rw [updB_other b r eu]; exact hb7 u hu
  · have ht : st < L.length := by omega
    rw [canQ_lo ht] at hc
    simp only [Bool.and_eq_true] at hc
    have hcf := hc.1
    obtain ⟨hml, hxok⟩ := can_lt hL I.good ht hcf
    have hstep := inv_step hL I ht hcf
    unfold stepQ
    rw [if_neg hs]
    obtain ⟨x, hx⟩ : ∃ x, smAt L st (f (3 + st)) = x := ⟨_, rfl⟩
    rw [hx] at hxok ⊢
    obtain ⟨xk, xa, xb, xc, xs⟩ := x
    have hxo : okB xk xa xb xc xs = true := hxok
    simp only
    by_cases hp : xk = 2 ∧ xs = false
    · rw [if_pos hp]
      obtain ⟨rfl, rfl⟩ := hp
      obtain ⟨n, hn3, rfl⟩ := ok_a3 hxo (by omega)
      have hs4 := sumF_lt (f := f) (t := st) (ok_sum hxo (by omega))
      rw [Int.toNat_natCast]
      obtain ⟨kb, hkb⟩ : ∃ kb, bfi e st n = kb := ⟨_, rfl⟩
      rw [hkb]
      refine ⟨(inv_gone hL I ht hml).good.ok, fun u hu => ?_⟩
      show okS (updB b kb _ u) ∧ (updB b kb _ u).length ≤ 7
      by_cases eu : u = kb
      · subst eu
        obtain ⟨h1, h2⟩ := hb u hu
        rw [updB_same]
        exact ⟨h1.snoc (by omega), by simp; omega⟩
      · rw [updB_other b _ eu]; exact hb7 u hu
    · rw [if_neg hp]
      by_cases h1 : xk = 1
      · rw [if_pos h1]
        subst h1
        obtain ⟨n, hn3, rfl⟩ := ok_a3 hxo (by omega)
        obtain ⟨m, hm3, rfl⟩ := ok_b3 hxo (by omega)
        rw [Int.toNat_natCast, Int.toNat_natCast]
        exact ⟨okF_upd fld1 hstep.good.ok (i := st * 3 + n) (show st * 3 + n < 9 by omega) (show rdC _ _ _ < 4 from rdC_lt (mem_lt I.good.ok hm3)), hb7⟩
      · rw [if_neg h1]
        exact ⟨hstep.good.ok, hb7⟩
theorem sprOf_wd {L : Pg} {o : Buf} (F : SfP L o) : sprOf L (wdF L o.st) (cdsV o) = o := by
  have e : (List.range (L.length * 3)).map (fun t => rowV (cdsV o t)) = o.bs := by
    apply List.ext_getElem?
    intro i
    rw [List.getElem?_map]
    by_cases h : i < L.length * 3
    · rw [List.getElem?_range h]; exact (F.row h).1.symm
    · rw [List.getElem?_eq_none (by simp; omega), List.getElem?_eq_none (by have := F.n; omega)]; rfl
  unfold sprOf
  rw [staF_wd F.P, e]
theorem bufOf_wd {L : Pg} {o : Buf} (F : BfP L o) : bufOf L (wdF L o.st) (cdsB o) = o := by
  have e : (List.range L.length).map (fun t => rowS (cdsB o t)) = o.bs := by
    apply List.ext_getElem?
    intro i
    rw [List.getElem?_map]
    by_cases h : i < L.length
    · rw [List.getElem?_range h]; exact (F.row h).1.symm
    · rw [List.getElem?_eq_none (by simp; omega), List.getElem?_eq_none (by have := F.n; omega)]; rfl
  unfold bufOf
  rw [staF_wd F.P, e]
theorem cdsV_pl {L : Pg} {o : Buf} (F : SfP L o) : ∀ k, ∀ c ∈ cdsV o k, c / 4 = k % 3 := fun k c hc => by
  by_cases h : k < L.length * 3
  · exact (F.row h).2.2.2 c hc
  · rw [cdsV_off (by have := F.n; omega)] at hc; simp at hc
end Go.Proofs.YtnadihepgmbhaaaGreat
